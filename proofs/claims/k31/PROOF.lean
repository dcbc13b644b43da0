import PyProof.Rows.All
import Wide.All
import OpenK.AllK
import Wide.FinOn
import HandS.Base
import HandS.Call
import HandS.Ends
import HandS.Words
import HandS.Codes
import HandS.HeadHook1
import HandS.Head3
import HandS.HeadEnd
import HandS.ForMost
import KE.KOpsOwn
import KE.KCallOwn
import HandS.Wide
import HandS.Property
import HandS.IsInst
import HandS.OwnEq
import HandS.Flow
import KE.KEqDict
import HandS.Walk
import HandS.Zip
import KE.GoesEnum
import HandS.Defaults
import HandS.DictComp
import HandS.More
import HandS.TupAny
import HandS.TupLe
import HandS.Star
import PyProof.WalksMore
import PyProof.TupleIter
import PyProof.CollectIter
import PyProof.Walks
import HandS.WordsDict
import HandS.MakeKwOnly
import HandS.SetTxt0
import HandS.SetBool
import HandS.TupSets
import HandS.ClsMeth
import HandS.ExcValue
import HandS.ExcInit
import HandS.ExcField
import HandS.Exc
import HandS.TryMany
import KE.KExcSuper
import KE.KExcInit
import KE.KExcPX
import PyProof.TupleOfGen
import KE.KDictSum
import KE.DataEq
import HandS.DeepEq
import HandS.FStr
import HandS.WordsExc
import KE.KDictList
import PyProof.DictUpdate
import PyProof.DictDisplay
import HandS.DictSub
import PyProof.AutoSeq1
import HandS.DictEq
import HandS.List
import PySem.Challenge.RW_surelyends_k31_knots
set_option Elab.async false
set_option linter.all false
set_option maxRecDepth 100000
set_option maxHeartbeats 1000000
/-! a head whose facts are told by one Bool and by what the defs show: nothing of the top is written out -/
namespace HX
open PySem PySem.Spec PyProof.Rows L2
/-! ### what is read off a part of memory -/
def fnAt (K : PySem.W.Frag) (a : Addr) : Option FuncData := (K.lookup a).bind fun o => match o.data with
  | .func fd => some fd
  | _ => none
theorem fnAt_look {K : PySem.W.Frag} {a : Addr} {fd : FuncData} (h : fnAt K a = some fd) : ∃ oc od sl, K.lookup a = some ⟨oc, od, .func fd, sl⟩ := by
  unfold fnAt at h
  cases e : K.lookup a with
  | none =>
    rw [e] at h
    cases h
  | some o =>
    rw [e] at h
    obtain ⟨oc, od, dt, sl⟩ := o
    cases dt with
    | func g =>
      have z : g = fd := Option.some.inj h
      rw [z]
      exact ⟨oc, od, sl, rfl⟩
    | _ => cases h
/-- a def's defaults -/
def dfOf (K : PySem.W.Frag) (a : Addr) : Value := match fnAt K a with
  | some fd => fd.defaults
  | none => .none
/-- what stays of a def, whatever the world -/
abbrev Shown : Type := Option (Str × Str × (Arguments × FuncBody × Scope) × (Addr × List (Str × Addr) × Addr))
def shown (K : PySem.W.Frag) (a : Addr) : Shown := (fnAt K a).map fun fd => (fd.name, fd.qualname, (fd.params, fd.body, fd.scope), (fd.globals, fd.closure, fd.builtins))
structure Dn where
  spot : PySem.W.Frag → Addr
  nm : Str
  ql : Str
  st : Stmt
def Dn.due (d : Dn) : Shown := some (d.nm, d.ql, (defArgs d.st, .stmts (defBody d.st), defScope d.st), (mainGlobals, [], builtinsNs))
def Dn.fine (K : PySem.W.Frag) (d : Dn) : Bool := (match fnAt K (d.spot K) with
  | some fd => PySem.W.codeIn K fd.code d.ql
  | none => false) && PySem.W.keepIn K (.ref (d.spot K))
theorem Dn.get {K : PySem.W.Frag} {d : Dn} (e : shown K (d.spot K) = d.due) (c : d.fine K = true) : ∃ (oc kV dc pm cd ct : Value) (od an : Option Addr) (sl : Array (Option Value)),
    K.lookup (d.spot K) = some ⟨oc, od, .func (PySem.W.fnOf d.nm d.ql (defArgs d.st) (defBody d.st) (defScope d.st) (dfOf K (d.spot K)) kV dc pm an cd ct), sl⟩ ∧ PySem.W.codeIn K cd d.ql = true ∧ PySem.W.keepIn K (.ref (d.spot K)) = true := by
  unfold Dn.fine at c
  obtain ⟨c1, c2⟩ := Bool.and_eq_true_iff.mp c
  cases q : fnAt K (d.spot K) with
  | none =>
    rw [q] at c1
    cases c1
  | some fd =>
    rw [q] at c1
    unfold shown at e
    rw [q] at e
    obtain ⟨oc, od, sl, lk⟩ := fnAt_look q
    obtain ⟨n1, n2, n3, n4, n5, n6, n7, n8, n9, n10, n11, n12, n13, n14, n15⟩ := fd
    have e2 := Option.some.inj e
    simp only [Prod.mk.injEq] at e2
    obtain ⟨a1, a2, ⟨a3, a4, a5⟩, a6, a7, a8⟩ := e2
    have ed : dfOf K (d.spot K) = n8 := by
      unfold dfOf
      rw [q]
    rw [ed]
    subst a1 a2 a3 a4 a5 a6 a7 a8
    exact ⟨oc, n9, n10, n11, n13, n14, od, n12, sl, lk, c1, c2⟩
/-! ### the hook -/
def seen (ds : List Dn) (fs : PySem.W.Frag → List Bool) (K : PySem.W.Frag) : Bool × List Shown := ((fs K).all id && ds.all (Dn.fine K), ds.map fun d => shown K (d.spot K))
def due (ds : List Dn) : Bool × List Shown := (true, ds.map Dn.due)
def Tells (ds : List Dn) (fs : PySem.W.Frag → List Bool) (K : PySem.W.Frag) : Prop := seen ds fs K = due ds
def look (as : List Addr) (ds : List Dn) (fs : PySem.W.Frag → List Bool) (g : Addr → Option Obj) : Bool × List Shown := seen ds fs (He.frG g as)
def hook (as : List Addr) (ds : List Dn) (fs : PySem.W.Frag → List Bool) : PySem.W.Hook where
  α := Bool × List Shown
  obs s := look as ds fs s.heap.get?
  val _ := due ds
  says _ h := ∃ K : PySem.W.Frag, K.In h ∧ Tells ds fs K
  of _ _ e := ⟨_, He.frG_in, e⟩
  keeps _ _ _ y k := y.elim fun K z => ⟨K, PySem.W.Frag.In.keeps z.1 k, z.2⟩
theorem look_eq {as : List Addr} {ds : List Dn} {fs : PySem.W.Frag → List Bool} (s : PySem.W.SharedT) : look as ds fs (HandSHeadRun.getT s) = (hook as ds fs).obs s.abs := congrArg (look as ds fs) (funext (HandSHeadRun.getT_eq s))
section
variable {ds : List Dn} {fs : PySem.W.Frag → List Bool} {K : PySem.W.Frag}
theorem Tells.fact (t : Tells ds fs K) (i : Nat) {b : Bool} (h : (fs K)[i]? = some b) : b = true := by
  have a := (Bool.and_eq_true_iff.mp (congrArg Prod.fst t : ((fs K).all id && ds.all (Dn.fine K)) = true)).1
  exact List.all_eq_true.mp a b (List.mem_of_getElem? h)
theorem Tells.is (t : Tells ds fs K) (i : Nat) {p : Prop} [d : Decidable p] (h : (fs K)[i]? = some (decide p)) : p := of_decide_eq_true (t.fact i h)
theorem Tells.fn (t : Tells ds fs K) (i : Nat) (d : Dn) (h : ds[i]? = some d) : ∃ (oc kV dc pm cd ct : Value) (od an : Option Addr) (sl : Array (Option Value)),
    K.lookup (d.spot K) = some ⟨oc, od, .func (PySem.W.fnOf d.nm d.ql (defArgs d.st) (defBody d.st) (defScope d.st) (dfOf K (d.spot K)) kV dc pm an cd ct), sl⟩ ∧ PySem.W.codeIn K cd d.ql = true ∧ PySem.W.keepIn K (.ref (d.spot K)) = true := by
  have a := (Bool.and_eq_true_iff.mp (congrArg Prod.fst t : ((fs K).all id && ds.all (Dn.fine K)) = true)).2
  have e : ds.map (fun d => shown K (d.spot K)) = ds.map Dn.due := congrArg Prod.snd t
  have e2 := congrArg (fun l : List Shown => l[i]?) e
  simp only [List.getElem?_map, h] at e2
  exact Dn.get (Option.some.inj e2) (List.all_eq_true.mp a d (List.mem_of_getElem? h))
end
/-! ### names, records -/
def recF (K : PySem.W.Frag) (p : Addr) (t : String) : Addr := match PySem.W.recIn K p t with
  | some (.ref f :: _) => f
  | _ => 0
def recT (K : PySem.W.Frag) (p : Addr) (t : String) : List Value := match PySem.W.recIn K p t with
  | some (_ :: r) => r
  | _ => []
def tyOf (K : PySem.W.Frag) (a : Addr) : Value := match PySem.W.typeIn K (.ref a) with
  | some v => v
  | none => .none
def tokOf (K : PySem.W.Frag) (x : Str) : Tok := match PySem.W.nsIn K mainGlobals x with
  | some (some (.int _ t)) => t
  | some (some (.str _ t)) => t
  | _ => 0
def adr : Value → Addr
  | .ref a => a
  | _ => 0
def tokV : Value → Tok
  | .int _ t => t
  | _ => 0
/-- a static method's object -/
def getP (K : PySem.W.Frag) (C : Addr) (mc : Value) (x : Str) : Addr := match PySem.W.findCls K (.ref C) mc x with
  | some (.get _ (.ref p) _ _) => p
  | _ => 0
def getB (K : PySem.W.Frag) (C : Addr) (mc : Value) (x : Str) (g : Value) (p : Addr) (o t : Value) : Bool := match PySem.W.findCls K (.ref C) mc x with
  | some (.get g' p' o' t') => decide (g' = g) && (decide (p' = .ref p) && (decide (o' = o) && decide (t' = t)))
  | _ => false
theorem getB_ok {K : PySem.W.Frag} {C : Addr} {mc : Value} {x : Str} {g : Value} {p : Addr} {o t : Value} (h : getB K C mc x g p o t = true) : PySem.W.findCls K (.ref C) mc x = some (.get g (.ref p) o t) := by
  unfold getB at h
  split at h
  · rename_i e
    simp only [Bool.and_eq_true, decide_eq_true_eq] at h
    obtain ⟨rfl, rfl, rfl, rfl⟩ := h
    exact e
  · cases h
/-- a tuple's items -/
def items (K : PySem.W.Frag) (a : Addr) : List Value := match K.lookup a with
  | some ⟨_, _, .seq its _, _⟩ => its.toList
  | _ => []
def seqB (K : PySem.W.Frag) (a : Addr) (xs : List Value) : Bool := match K.lookup a with
  | some ⟨_, _, .seq its _, _⟩ => decide (its.toList = xs)
  | _ => false
theorem seqB_ok {K : PySem.W.Frag} {a : Addr} {xs : List Value} (h : seqB K a xs = true) : ∃ (oc : Value) (od : Option Addr) (n : Nat) (sl : Array (Option Value)), K.lookup a = some ⟨oc, od, .seq xs.toArray n, sl⟩ := by
  unfold seqB at h
  split at h
  · rename_i oc od its n sl e
    have z := of_decide_eq_true h
    rw [e, ← z]
    exact ⟨oc, od, n, sl, by simp⟩
  · cases h
def tupB (K : PySem.W.Frag) (a : Addr) (xs : List Value) : Bool := match K.lookup a with
  | some ⟨.type c, _, .seq its _, _⟩ => decide (c = "tuple") && decide (its.toList = xs)
  | _ => false
theorem tupB_ok {K : PySem.W.Frag} {a : Addr} {xs : List Value} (h : tupB K a xs = true) : ∃ (od : Option Addr) (n : Nat) (sl : Array (Option Value)), K.lookup a = some ⟨.type "tuple", od, .seq xs.toArray n, sl⟩ := by
  unfold tupB at h
  split at h
  · rename_i c od its n sl e
    obtain ⟨z1, z2⟩ := Bool.and_eq_true_iff.mp h
    have z1 := of_decide_eq_true z1
    have z2 := of_decide_eq_true z2
    rw [e, ← z2, z1]
    exact ⟨od, n, sl, by simp⟩
  · cases h
end HX
set_option Elab.async false
set_option linter.all false
set_option maxRecDepth 100000
set_option maxHeartbeats 0
/-! the head, by one run: what is looked at, and the run -/
namespace HB
open PySem PySem.Spec PyProof.Rows L2
def stm (i : Nat) : Stmt := PySem.Challenge.pw_surelyends_k31_knots.main.body.getD i (.Pass ⟨0, 0, 0, 0⟩)
def clsB (K : PySem.W.Frag) (C : Addr) : Bool := PySem.W.plainGet K C Str.empty && (PySem.W.hasDictIn K C && (PySem.W.plainOver K C && (PySem.W.findIn K (.ref C) "__setattr__" == some (some (.builtin "object.__setattr__")))))
def ownB (K : PySem.W.Frag) (C : Addr) : Bool := clsB K C && ((PySem.W.findIn K (.ref C) "__class__" == some (some (.builtin "object.__class__"))) &&
  ((PySem.W.specialIn K (.builtin "object.__class__") "__get__" == some (some (.builtin "getset_descriptor.__get__"))) && ((PySem.W.takesIn K (.builtin "object.__class__") == some true) && (PySem.W.mroIn K C (.type "object") == some true))))
def pgCB (K : PySem.W.Frag) (C : Addr) : Bool := ownB K C && ((PySem.W.findIn K (.ref C) "_bodies" == some none) && ((PySem.W.findIn K (.ref C) "_size" == some none) && ((PySem.W.findIn K (.ref C) "_events" == some none) && (PySem.W.findIn K (.ref C) "_choices" == some none))))
def mkB (K : PySem.W.Frag) (C : Addr) : Bool := PySem.W.makesIn K C && PySem.W.keepIn K (.ref C)
def sfB (K : PySem.W.Frag) (C : Addr) : Bool := PySem.W.selfFirst K C
def kitB (K : PySem.W.Frag) (C CG : Addr) : Bool := (PySem.W.kitOne K (.type "NoneType") (.ref CG) == some false) && ((PySem.W.kitOne K (.ref CG) (.ref CG) == some true) && ((PySem.W.kitOne K (.ref C) (.ref C) == some true) && (PySem.W.findIn K (.ref CG) "table" == some none)))
def smB (K : PySem.W.Frag) (C : Addr) (mc : Value) (p g : Addr) : Bool := (PySem.W.readsIn K C mc && ((PySem.W.specialIn K (.ref C) "__getattribute__" == some (some (.builtin "type.__getattribute__"))))) && (PySem.W.handedIn (.ref g) && PySem.W.keepIn K (.ref g))
def dn_bin : HX.Dn := ⟨fun K => (He.ga K "bodies_in"), "bodies_in", "bodies_in", (stm 10)⟩
def dn_sof : HX.Dn := ⟨fun K => (He.ga K "statements_of"), "statements_of", "statements_of", (stm 14)⟩
def dn_pw : HX.Dn := ⟨fun K => (He.ga K "part_within"), "part_within", "part_within", (stm 15)⟩
def dn_wp : HX.Dn := ⟨fun K => (He.ga K "with_part"), "with_part", "with_part", (stm 16)⟩
def dn_plain : HX.Dn := ⟨fun K => (He.ga K "is_plain_integer"), "is_plain_integer", "is_plain_integer", (stm 7)⟩
def dn_bet : HX.Dn := ⟨fun K => (He.ga K "is_between"), "is_between", "is_between", (stm 8)⟩
def dn_nm : HX.Dn := ⟨fun K => (He.ga K "is_name"), "is_name", "is_name", (stm 24)⟩
def dn_wt : HX.Dn := ⟨fun K => (He.ga K "_is_weight"), "_is_weight", "_is_weight", (stm 29)⟩
def dn_br : HX.Dn := ⟨fun K => (He.ga K "_is_branch"), "_is_branch", "_is_branch", (stm 28)⟩
def dn_inn : HX.Dn := ⟨fun K => (He.ga K "_inner_of"), "_inner_of", "_inner_of", (stm 27)⟩
def dn_lb : HX.Dn := ⟨fun K => (He.ga K "_left_behind"), "_left_behind", "_left_behind", (stm 26)⟩
def dn_ib : HX.Dn := ⟨fun K => (He.ga K "is_body"), "is_body", "is_body", (stm 25)⟩
def dn_nc : HX.Dn := ⟨fun K => (He.ga K "_names_called"), "_names_called", "_names_called", (stm 31)⟩
def dn_ap : HX.Dn := ⟨fun K => (He.ga K "_are_program"), "_are_program", "_are_program", (stm 30)⟩
def dn_cn : HX.Dn := ⟨fun K => (He.ga K "check_name"), "check_name", "check_name", (stm 35)⟩
def dn_cf : HX.Dn := ⟨fun K => (He.ga K "check_free"), "check_free", "check_free", (stm 34)⟩
def dn_pf : HX.Dn := ⟨fun K => (He.ga K "_part_of"), "_part_of", "_part_of", (stm 36)⟩
def dn_put : HX.Dn := ⟨fun K => (He.ga K "put_at"), "put_at", "put_at", (stm 37)⟩
def dn_co : HX.Dn := ⟨fun K => (He.ga K "calls_of"), "calls_of", "calls_of", (stm 38)⟩
def dn_ra : HX.Dn := ⟨fun K => (He.ga K "reaches"), "reaches", "reaches", (stm 40)⟩
def dn_ks : HX.Dn := ⟨fun K => (He.ga K "knots"), "knots", "knots", (stm 41)⟩
def dn_uk : HX.Dn := ⟨fun K => (He.ga K "_unordered_knots"), "_unordered_knots", "_unordered_knots", (stm 42)⟩
def dn_cs : HX.Dn := ⟨fun K => (He.ga K "_calls_only"), "_calls_only", "_calls_only", (stm 43)⟩
def dn_ko : HX.Dn := ⟨fun K => (He.ga K "knot_of"), "knot_of", "knot_of", (stm 44)⟩
def dn_dice : HX.Dn := ⟨fun K => (He.ga K "_law_dice"), "_law_dice", "_law_dice", (stm 46)⟩
def dn_roll : HX.Dn := ⟨fun K => (He.ga K "_law_roll"), "_law_roll", "_law_roll", (stm 47)⟩
def dn_one : HX.Dn := ⟨fun K => (He.ga K "_law_one_of"), "_law_one_of", "_law_one_of", (stm 48)⟩
def dn_mx : HX.Dn := ⟨fun K => (He.ga K "_law_mixed"), "_law_mixed", "_law_mixed", (stm 49)⟩
def dn_we : HX.Dn := ⟨fun K => (He.ga K "_law_weight"), "_law_weight", "_law_weight", (stm 50)⟩
def dn_ls : HX.Dn := ⟨fun K => (He.ga K "_law_statement"), "_law_statement", "_law_statement", (stm 51)⟩
def dn_ly : HX.Dn := ⟨fun K => (He.ga K "_law_body"), "_law_body", "_law_body", (stm 52)⟩
def dn_lo : HX.Dn := ⟨fun K => (He.ga K "_law_bodies"), "_law_bodies", "_law_bodies", (stm 53)⟩
def dn_li : HX.Dn := ⟨fun K => (He.ga K "_law_inner"), "_law_inner", "_law_inner", (stm 54)⟩
def dn_lr : HX.Dn := ⟨fun K => (He.ga K "_law_sorts"), "_law_sorts", "_law_sorts", (stm 55)⟩
def dn_qc : HX.Dn := ⟨fun K => (He.ga K "_law_called"), "_law_called", "_law_called", (stm 56)⟩
def dn_re : HX.Dn := ⟨fun K => (He.ga K "_law_reached"), "_law_reached", "_law_reached", (stm 57)⟩
def dn_dk : HX.Dn := ⟨fun K => (He.ga K "_law_due_knots"), "_law_due_knots", "_law_due_knots", (stm 58)⟩
def dn_tl : HX.Dn := ⟨fun K => (He.ga K "_law_told"), "_law_told", "_law_told", (stm 59)⟩
def dn_hn : HX.Dn := ⟨fun K => (He.ga K "_law_chain"), "_law_chain", "_law_chain", (stm 60)⟩
def dn_law : HX.Dn := ⟨fun K => (He.ga K "law"), "law", "law", (stm 61)⟩
def dn_gi : HX.Dn := ⟨fun K => (He.ma K (He.ga K "Given") "__init__"), "__init__", "Given.__init__", (L2.inClass (stm 32) 0)⟩
def dn_gt : HX.Dn := ⟨fun K => (He.ma K (He.ga K "Program") "__getitem__"), "__getitem__", "Program.__getitem__", (L2.inClass (stm 33) 12)⟩
def dn_ct : HX.Dn := ⟨fun K => (He.ma K (He.ga K "Program") "__contains__"), "__contains__", "Program.__contains__", (L2.inClass (stm 33) 13)⟩
def dn_wy : HX.Dn := ⟨fun K => (He.ma K (He.ga K "Program") "with_body"), "with_body", "Program.with_body", (L2.inClass (stm 33) 7)⟩
def dn_wtt : HX.Dn := ⟨fun K => (He.ma K (He.ga K "Program") "without"), "without", "Program.without", (L2.inClass (stm 33) 8)⟩
def dn_oro : HX.Dn := ⟨fun K => (He.ma K (He.ga K "Program") "__or__"), "__or__", "Program.__or__", (L2.inClass (stm 33) 10)⟩
def dn_pi : HX.Dn := ⟨fun K => (He.ma K (He.ga K "Program") "__init__"), "__init__", "Program.__init__", (L2.inClass (stm 33) 0)⟩
def dn_na : HX.Dn := ⟨fun K => (HX.recF K (He.ma K (He.ga K "Program") "names") "property"), "names", "Program.names", (L2.inClass (stm 33) 2)⟩
def dn_bo : HX.Dn := ⟨fun K => (HX.recF K (He.ma K (He.ga K "Program") "bodies") "property"), "bodies", "Program.bodies", (L2.inClass (stm 33) 3)⟩
def dn_of : HX.Dn := ⟨fun K => (HX.recF K (HX.getP K (He.ga K "Program") (HX.tyOf K (He.ga K "Program")) "of") "staticmethod"), "of", "Program.of", (L2.inClass (stm 33) 1)⟩
def dn_pls : HX.Dn := ⟨fun K => (He.ga K "placed_statements"), "placed_statements", "placed_statements", (stm 13)⟩
def dn0 : List HX.Dn := [dn_bin, dn_sof, dn_pw, dn_wp, dn_plain, dn_bet, dn_nm, dn_wt, dn_br, dn_inn, dn_lb, dn_ib, dn_nc, dn_ap, dn_cn, dn_cf, dn_pf, dn_put, dn_co, dn_ra, dn_ks, dn_uk, dn_cs, dn_ko, dn_dice, dn_roll, dn_one, dn_mx, dn_we, dn_ls]
def dn1 : List HX.Dn := [dn_ly, dn_lo, dn_li, dn_lr, dn_qc, dn_re, dn_dk, dn_tl, dn_hn, dn_law, dn_gi, dn_gt, dn_ct, dn_wy, dn_wtt, dn_oro, dn_pi, dn_na, dn_bo, dn_of, dn_pls]
def dns : List HX.Dn := dn0 ++ (dn1)
def fc0 (K : PySem.W.Frag) : List Bool := [
  decide (PySem.W.nsIn K mainGlobals "Program" = some (some (.ref (He.ga K "Program")))),
  decide (PySem.W.nsIn K mainGlobals "Given" = some (some (.ref (He.ga K "Given")))),
  decide (PySem.W.nsIn K mainGlobals "MAX_PROCEDURES" = some (some (.int 8 (HX.tokOf K "MAX_PROCEDURES")))),
  decide (PySem.W.nsIn K mainGlobals "MAX_STATEMENTS" = some (some (.int 60 (HX.tokOf K "MAX_STATEMENTS")))),
  decide (PySem.W.nsIn K mainGlobals "MAX_DEPTH" = some (some (.int 4 (HX.tokOf K "MAX_DEPTH")))),
  decide (PySem.W.nsIn K mainGlobals "MAX_WEIGHT" = some (some (.int 99 (HX.tokOf K "MAX_WEIGHT")))),
  decide (PySem.W.nsIn K mainGlobals "MAX_LETTERS" = some (some (.int 8 (HX.tokOf K "MAX_LETTERS")))),
  decide (PySem.W.nsIn K mainGlobals "LETTERS" = some (some (.str ("abcdefghijklmnopqrstuvwxyz" : Str) (HX.tokOf K "LETTERS")))),
  decide (PySem.W.nsIn K mainGlobals "bodies_in" = some (some (.ref (He.ga K "bodies_in")))),
  decide (HX.dfOf K (He.ga K "bodies_in") = .none),
  decide (PySem.W.nsIn K mainGlobals "statements_of" = some (some (.ref (He.ga K "statements_of")))),
  decide (HX.dfOf K (He.ga K "statements_of") = .none),
  decide (PySem.W.nsIn K mainGlobals "part_within" = some (some (.ref (He.ga K "part_within")))),
  decide (HX.dfOf K (He.ga K "part_within") = .none),
  decide (PySem.W.nsIn K mainGlobals "with_part" = some (some (.ref (He.ga K "with_part")))),
  decide (HX.dfOf K (He.ga K "with_part") = .none),
  decide (PySem.W.nsIn K mainGlobals "is_plain_integer" = some (some (.ref (He.ga K "is_plain_integer")))),
  decide (HX.dfOf K (He.ga K "is_plain_integer") = .none),
  decide (PySem.W.nsIn K mainGlobals "is_between" = some (some (.ref (He.ga K "is_between")))),
  decide (HX.dfOf K (He.ga K "is_between") = .none),
  decide (PySem.W.nsIn K mainGlobals "is_name" = some (some (.ref (He.ga K "is_name")))),
  decide (HX.dfOf K (He.ga K "is_name") = .none),
  decide (PySem.W.nsIn K mainGlobals "_is_weight" = some (some (.ref (He.ga K "_is_weight")))),
  decide (HX.dfOf K (He.ga K "_is_weight") = .none),
  decide (PySem.W.nsIn K mainGlobals "_is_branch" = some (some (.ref (He.ga K "_is_branch")))),
  decide (HX.dfOf K (He.ga K "_is_branch") = .none),
  decide (PySem.W.nsIn K mainGlobals "_inner_of" = some (some (.ref (He.ga K "_inner_of")))),
  decide (HX.dfOf K (He.ga K "_inner_of") = .none),
  decide (PySem.W.nsIn K mainGlobals "_left_behind" = some (some (.ref (He.ga K "_left_behind")))),
  decide (HX.dfOf K (He.ga K "_left_behind") = .none)]
def fc1 (K : PySem.W.Frag) : List Bool := [
  decide (PySem.W.nsIn K mainGlobals "is_body" = some (some (.ref (He.ga K "is_body")))),
  decide (HX.dfOf K (He.ga K "is_body") = .none),
  decide (PySem.W.nsIn K mainGlobals "_names_called" = some (some (.ref (He.ga K "_names_called")))),
  decide (HX.dfOf K (He.ga K "_names_called") = .none),
  decide (PySem.W.nsIn K mainGlobals "_are_program" = some (some (.ref (He.ga K "_are_program")))),
  decide (HX.dfOf K (He.ga K "_are_program") = .none),
  decide (PySem.W.nsIn K mainGlobals "check_name" = some (some (.ref (He.ga K "check_name")))),
  decide (HX.dfOf K (He.ga K "check_name") = .none),
  decide (PySem.W.nsIn K mainGlobals "check_free" = some (some (.ref (He.ga K "check_free")))),
  decide (HX.dfOf K (He.ga K "check_free") = .none),
  decide (PySem.W.nsIn K mainGlobals "_part_of" = some (some (.ref (He.ga K "_part_of")))),
  decide (HX.dfOf K (He.ga K "_part_of") = .none),
  decide (PySem.W.nsIn K mainGlobals "put_at" = some (some (.ref (He.ga K "put_at")))),
  decide (HX.dfOf K (He.ga K "put_at") = .none),
  decide (PySem.W.nsIn K mainGlobals "calls_of" = some (some (.ref (He.ga K "calls_of")))),
  decide (HX.dfOf K (He.ga K "calls_of") = .none),
  decide (PySem.W.nsIn K mainGlobals "reaches" = some (some (.ref (He.ga K "reaches")))),
  decide (HX.dfOf K (He.ga K "reaches") = .none),
  decide (PySem.W.nsIn K mainGlobals "knots" = some (some (.ref (He.ga K "knots")))),
  decide (HX.dfOf K (He.ga K "knots") = .none),
  decide (PySem.W.nsIn K mainGlobals "_unordered_knots" = some (some (.ref (He.ga K "_unordered_knots")))),
  decide (HX.dfOf K (He.ga K "_unordered_knots") = .none),
  decide (PySem.W.nsIn K mainGlobals "_calls_only" = some (some (.ref (He.ga K "_calls_only")))),
  decide (HX.dfOf K (He.ga K "_calls_only") = .none),
  decide (PySem.W.nsIn K mainGlobals "knot_of" = some (some (.ref (He.ga K "knot_of")))),
  decide (HX.dfOf K (He.ga K "knot_of") = .none),
  decide (PySem.W.nsIn K mainGlobals "_law_dice" = some (some (.ref (He.ga K "_law_dice")))),
  decide (HX.dfOf K (He.ga K "_law_dice") = .none),
  decide (PySem.W.nsIn K mainGlobals "_law_roll" = some (some (.ref (He.ga K "_law_roll")))),
  decide (HX.dfOf K (He.ga K "_law_roll") = .none)]
def fc2 (K : PySem.W.Frag) : List Bool := [
  decide (PySem.W.nsIn K mainGlobals "_law_one_of" = some (some (.ref (He.ga K "_law_one_of")))),
  decide (HX.dfOf K (He.ga K "_law_one_of") = .none),
  decide (PySem.W.nsIn K mainGlobals "_law_mixed" = some (some (.ref (He.ga K "_law_mixed")))),
  decide (HX.dfOf K (He.ga K "_law_mixed") = .none),
  decide (PySem.W.nsIn K mainGlobals "_law_weight" = some (some (.ref (He.ga K "_law_weight")))),
  decide (HX.dfOf K (He.ga K "_law_weight") = .none),
  decide (PySem.W.nsIn K mainGlobals "_law_statement" = some (some (.ref (He.ga K "_law_statement")))),
  decide (HX.dfOf K (He.ga K "_law_statement") = .none),
  decide (PySem.W.nsIn K mainGlobals "_law_body" = some (some (.ref (He.ga K "_law_body")))),
  decide (HX.dfOf K (He.ga K "_law_body") = .none),
  decide (PySem.W.nsIn K mainGlobals "_law_bodies" = some (some (.ref (He.ga K "_law_bodies")))),
  decide (HX.dfOf K (He.ga K "_law_bodies") = .none),
  decide (PySem.W.nsIn K mainGlobals "_law_inner" = some (some (.ref (He.ga K "_law_inner")))),
  decide (HX.dfOf K (He.ga K "_law_inner") = .none),
  decide (PySem.W.nsIn K mainGlobals "_law_sorts" = some (some (.ref (He.ga K "_law_sorts")))),
  decide (HX.dfOf K (He.ga K "_law_sorts") = .none),
  decide (PySem.W.nsIn K mainGlobals "_law_called" = some (some (.ref (He.ga K "_law_called")))),
  decide (HX.dfOf K (He.ga K "_law_called") = .none),
  decide (PySem.W.nsIn K mainGlobals "_law_reached" = some (some (.ref (He.ga K "_law_reached")))),
  decide (HX.dfOf K (He.ga K "_law_reached") = .none),
  decide (PySem.W.nsIn K mainGlobals "_law_due_knots" = some (some (.ref (He.ga K "_law_due_knots")))),
  decide (HX.dfOf K (He.ga K "_law_due_knots") = .none),
  decide (PySem.W.nsIn K mainGlobals "_law_told" = some (some (.ref (He.ga K "_law_told")))),
  decide (HX.dfOf K (He.ga K "_law_told") = .none),
  decide (PySem.W.nsIn K mainGlobals "_law_chain" = some (some (.ref (He.ga K "_law_chain")))),
  decide (HX.dfOf K (He.ga K "_law_chain") = .none),
  decide (PySem.W.nsIn K mainGlobals "law" = some (some (.ref (He.ga K "law")))),
  decide (HX.dfOf K (He.ga K "law") = .none),
  decide (PySem.W.findIn K (.ref (He.ga K "Given")) "__init__" = some (some (.ref (He.ma K (He.ga K "Given") "__init__")))),
  decide (HX.dfOf K (He.ma K (He.ga K "Given") "__init__") = .none)]
def fc3 (K : PySem.W.Frag) : List Bool := [
  PySem.W.isFn K (.ref (He.ma K (He.ga K "Given") "__init__")),
  decide (PySem.W.findIn K (.ref (He.ga K "Program")) "__getitem__" = some (some (.ref (He.ma K (He.ga K "Program") "__getitem__")))),
  decide (HX.dfOf K (He.ma K (He.ga K "Program") "__getitem__") = .none),
  PySem.W.isFn K (.ref (He.ma K (He.ga K "Program") "__getitem__")),
  decide (PySem.W.findIn K (.ref (He.ga K "Program")) "__contains__" = some (some (.ref (He.ma K (He.ga K "Program") "__contains__")))),
  decide (HX.dfOf K (He.ma K (He.ga K "Program") "__contains__") = .none),
  PySem.W.isFn K (.ref (He.ma K (He.ga K "Program") "__contains__")),
  decide (PySem.W.findIn K (.ref (He.ga K "Program")) "with_body" = some (some (.ref (He.ma K (He.ga K "Program") "with_body")))),
  decide (HX.dfOf K (He.ma K (He.ga K "Program") "with_body") = .none),
  PySem.W.isFn K (.ref (He.ma K (He.ga K "Program") "with_body")),
  decide (PySem.W.findIn K (.ref (He.ga K "Program")) "without" = some (some (.ref (He.ma K (He.ga K "Program") "without")))),
  decide (HX.dfOf K (He.ma K (He.ga K "Program") "without") = .none),
  PySem.W.isFn K (.ref (He.ma K (He.ga K "Program") "without")),
  decide (PySem.W.findIn K (.ref (He.ga K "Program")) "__or__" = some (some (.ref (He.ma K (He.ga K "Program") "__or__")))),
  decide (HX.dfOf K (He.ma K (He.ga K "Program") "__or__") = .none),
  PySem.W.isFn K (.ref (He.ma K (He.ga K "Program") "__or__")),
  decide (PySem.W.findIn K (.ref (He.ga K "Program")) "__init__" = some (some (.ref (He.ma K (He.ga K "Program") "__init__")))),
  decide (HX.dfOf K (He.ma K (He.ga K "Program") "__init__") = .none),
  PySem.W.isFn K (.ref (He.ma K (He.ga K "Program") "__init__")),
  PySem.W.fnIn K (He.ma K (He.ga K "Program") "__getitem__"),
  decide (PySem.W.findIn K (.ref (He.ga K "Program")) "names" = some (some (.ref (He.ma K (He.ga K "Program") "names")))),
  decide (PySem.W.specialIn K (.ref (He.ma K (He.ga K "Program") "names")) "__get__" = some (some (.builtin "property.__get__"))),
  decide (PySem.W.takesIn K (.ref (He.ma K (He.ga K "Program") "names")) = some true),
  decide (PySem.W.recIn K (He.ma K (He.ga K "Program") "names") "property" = some (.ref (HX.recF K (He.ma K (He.ga K "Program") "names") "property") :: (HX.recT K (He.ma K (He.ga K "Program") "names") "property"))),
  decide (HX.dfOf K (HX.recF K (He.ma K (He.ga K "Program") "names") "property") = .none),
  decide (PySem.W.findIn K (.ref (He.ga K "Program")) "bodies" = some (some (.ref (He.ma K (He.ga K "Program") "bodies")))),
  decide (PySem.W.specialIn K (.ref (He.ma K (He.ga K "Program") "bodies")) "__get__" = some (some (.builtin "property.__get__"))),
  decide (PySem.W.takesIn K (.ref (He.ma K (He.ga K "Program") "bodies")) = some true),
  decide (PySem.W.recIn K (He.ma K (He.ga K "Program") "bodies") "property" = some (.ref (HX.recF K (He.ma K (He.ga K "Program") "bodies") "property") :: (HX.recT K (He.ma K (He.ga K "Program") "bodies") "property"))),
  decide (HX.dfOf K (HX.recF K (He.ma K (He.ga K "Program") "bodies") "property") = .none)]
def fc4 (K : PySem.W.Frag) : List Bool := [
  decide (PySem.W.typeIn K (.ref (He.ga K "Program")) = some (HX.tyOf K (He.ga K "Program"))),
  HX.getB K (He.ga K "Program") (HX.tyOf K (He.ga K "Program")) "of" (.builtin "staticmethod.__get__") (HX.getP K (He.ga K "Program") (HX.tyOf K (He.ga K "Program")) "of") .none (.ref (He.ga K "Program")),
  decide (PySem.W.recIn K (HX.getP K (He.ga K "Program") (HX.tyOf K (He.ga K "Program")) "of") "staticmethod" = some (.ref (HX.recF K (HX.getP K (He.ga K "Program") (HX.tyOf K (He.ga K "Program")) "of") "staticmethod") :: (HX.recT K (HX.getP K (He.ga K "Program") (HX.tyOf K (He.ga K "Program")) "of") "staticmethod"))),
  decide (HX.dfOf K (HX.recF K (HX.getP K (He.ga K "Program") (HX.tyOf K (He.ga K "Program")) "of") "staticmethod") = .none),
  smB K (He.ga K "Program") (HX.tyOf K (He.ga K "Program")) (HX.getP K (He.ga K "Program") (HX.tyOf K (He.ga K "Program")) "of") (HX.recF K (HX.getP K (He.ga K "Program") (HX.tyOf K (He.ga K "Program")) "of") "staticmethod"),
  decide (PySem.W.nsIn K mainGlobals "placed_statements" = some (some (.ref (He.ga K "placed_statements")))),
  decide (HX.dfOf K (He.ga K "placed_statements") = .ref (HX.adr (HX.dfOf K (He.ga K "placed_statements")))),
  HX.seqB K (HX.adr (HX.dfOf K (He.ga K "placed_statements"))) [Value.ref (HX.adr ((HX.items K (HX.adr (HX.dfOf K (He.ga K "placed_statements")))).getD 0 .none))],
  HX.tupB K (HX.adr ((HX.items K (HX.adr (HX.dfOf K (He.ga K "placed_statements")))).getD 0 .none)) [],
  decide (PySem.W.nsIn K mainGlobals "int" = some none),
  decide (PySem.W.nsIn K mainGlobals "len" = some none),
  decide (PySem.W.nsIn K mainGlobals "abs" = some none),
  decide (PySem.W.nsIn K mainGlobals "max" = some none),
  decide (PySem.W.nsIn K mainGlobals "min" = some none),
  decide (PySem.W.nsIn K mainGlobals "isinstance" = some none),
  decide (PySem.W.nsIn K mainGlobals "range" = some none),
  decide (PySem.W.nsIn K mainGlobals "bool" = some none),
  decide (PySem.W.nsIn K mainGlobals "tuple" = some none),
  decide (PySem.W.nsIn K mainGlobals "all" = some none),
  decide (PySem.W.nsIn K mainGlobals "any" = some none),
  decide (PySem.W.nsIn K mainGlobals "sum" = some none),
  decide (PySem.W.nsIn K mainGlobals "enumerate" = some none),
  decide (PySem.W.nsIn K mainGlobals "list" = some none),
  decide (PySem.W.nsIn K mainGlobals "str" = some none),
  decide (PySem.W.nsIn K mainGlobals "sorted" = some none),
  decide (PySem.W.nsIn K mainGlobals "set" = some none),
  decide (PySem.W.nsIn K mainGlobals "dict" = some none),
  pgCB K (He.ga K "Program"),
  ownB K (He.ga K "Given"),
  mkB K (He.ga K "Program")]
def fc5 (K : PySem.W.Frag) : List Bool := [
  mkB K (He.ga K "Given"),
  sfB K (He.ga K "Program"),
  kitB K (He.ga K "Program") (He.ga K "Given")]
def fcs (K : PySem.W.Frag) : List Bool := fc0 K ++ (fc1 K ++ (fc2 K ++ (fc3 K ++ (fc4 K ++ (fc5 K)))))
def at0 : List Addr := [2, 3, 15, 17, 18, 20, 21, 22, 29, 30, 31, 32, 35, 42, 43, 44, 47, 54, 55, 56, 59, 62, 67, 68, 70, 71, 73, 74, 75, 76, 77, 78, 81, 83, 84, 86, 87, 88, 90, 91, 93, 94, 95, 98, 99, 100, 103, 104, 105, 108]
def at1 : List Addr := [109, 110, 111, 112, 114, 115, 117, 118, 119, 122, 123, 124, 126, 127, 129, 130, 131, 133, 134, 136, 137, 138, 141, 142, 143, 145, 146, 148, 149, 150, 152, 153, 155, 156, 157, 160, 161, 162, 164, 165, 167, 168, 169, 171, 172, 174, 175, 176, 179, 180]
def at2 : List Addr := [181, 184, 185, 193, 195, 196, 198, 199, 200, 201, 202, 203, 204, 214, 217, 218, 219, 221, 222, 224, 225, 226, 227, 228, 229, 231, 232, 234, 235, 236, 237, 239, 240, 242, 243, 244, 245, 247, 248, 250, 251, 252, 253, 255, 256, 258, 259, 260, 261, 263]
def at3 : List Addr := [264, 266, 267, 268, 269, 271, 272, 274, 275, 276, 279, 280, 281, 283, 284, 286, 287, 288, 291, 292, 293, 295, 296, 298, 299, 300, 302, 303, 305, 306, 307, 309, 310, 312, 313, 314, 316, 317, 319, 320, 321, 323, 324, 326, 327, 328, 330, 331, 333, 334]
def at4 : List Addr := [335, 337, 338, 340, 341, 342, 343, 344, 345, 346, 349, 351, 352, 354, 355, 356, 358, 359, 361, 362, 363, 365, 366, 368, 369, 370, 372, 373, 375, 376, 377, 379, 380, 382, 383, 384, 386, 387, 389, 390, 391, 394, 395, 396, 399, 400, 401, 404, 405, 406]
def at5 : List Addr := [409, 410, 411, 413, 414, 416, 417, 418, 420, 421, 423, 424, 425, 427, 428, 430, 431, 432, 435, 436, 437, 439, 440, 442, 443, 444, 447, 448, 449, 451, 452, 454, 455, 456, 458, 459, 461, 462, 463, 466, 467, 468, 470, 471, 473, 474, 475, 478, 479, 480]
def at6 : List Addr := [482, 483, 485, 486, 487, 490, 491, 492, 495, 496, 497, 500, 501, 502, 505, 506]
def ats : List Addr := at0 ++ (at1 ++ (at2 ++ (at3 ++ (at4 ++ (at5 ++ (at6))))))
def nm0 : List Str := ["_wall", "EndError", "InvalidProgram", "InvalidOperation", "UnknownName", "is_plain_integer", "is_between", "bodies_in", "with_bodies", "weights_of", "placed_statements", "statements_of", "part_within", "with_part", "MAX_PROCEDURES", "MAX_STATEMENTS", "MAX_DEPTH", "MAX_WEIGHT", "MAX_LETTERS", "LETTERS", "is_name", "is_body", "_left_behind", "_inner_of", "_is_branch", "_is_weight", "_are_program", "_names_called", "Given", "Program"]
def nm1 : List Str := ["check_free", "check_name", "_part_of", "put_at", "calls_of", "reaches", "knots", "_unordered_knots", "_calls_only", "knot_of", "_law_dice", "_law_roll", "_law_one_of", "_law_mixed", "_law_weight", "_law_statement", "_law_body", "_law_bodies", "_law_inner", "_law_sorts", "_law_called", "_law_reached", "_law_due_knots", "_law_told", "_law_chain"]
def tnames : List Str := nm0 ++ (nm1)
abbrev rowR : PySem.W.OpenRow := PySem.W.OpenLaw.row PySem.Challenge.rw_surelyends_k31_knots
abbrev vwR : Program := PySem.W.view rowR.prog [61]
abbrev hkR : PySem.W.Hook := HX.hook ats dns fcs
theorem top_run (w : World) : HandSHeadRun.RunEq rowR vwR hkR (fun s => HX.look ats dns fcs (HandSHeadRun.getT s)) 9000 tnames w := by
  unfold HandSHeadRun.RunEq
  intro os
  kernel_rfl
end HB
set_option Elab.async false
set_option linter.all false
set_option maxRecDepth 100000
set_option maxHeartbeats 4000000
/-! Operators between instances of an own class and other values -/
namespace OW
open PySem PySem.Spec PySem.W PySem.Calls PyProof.Rows
section
variable {prog : Program} {w : World} {A : Around} {E : Value → Shared → Prop} {s : Shared} {K : Frag} {x C L f g : Addr} {h₀ : Heap} {m : Str → Option Value} {ox : Obj} {od : Option Obj} {T idl : String}
/-- a built-in value in front, which declines: the reflected method -/
theorem binop_right {op : Operator} {b : Value} {Q : Value → Shared → Prop} (X : K.In s.heap) (I : InstAt s.heap x ox C od) (hb : typeOf b = pure (.type T)) (hT : s.TypeIs b T) (hc : selfFirst K C = true)
    (h0 : findIn K (.ref C) (PySem.dunder op.info.2) = some (some (.ref g))) (hs : findIn K (.ref C) (dunderR op.info.2) = some (some (.ref f))) (hf : isFn K (.ref f) = true)
    (hfT : fillsNumberSlot (.type T) op.info.2 = pure true) (hsub : subIn K (.ref C) (.type T) = some false) (hl : Slot T (PySem.dunder op.info.2) idl)
    (hd : ∀ Q' : Value → Shared → Prop, Q' .notImplemented s → wpAny (model prog w) A (call (.builtin idl) [b, .ref x]) Q' E s)
    (h : wpAny (model prog w) A (call (.ref f) [.ref x, b]) (PySem.W.CmpBack Q) E s) : wpAny (model prog w) A (binaryOp op b (.ref x)) Q E s := by
  obtain ⟨cd, rest, hcd, hm⟩ := ksp_first hc
  rcases hi : op.info with ⟨sym, nm'⟩
  rw [hi] at h0 hs hfT hl
  dsimp only at h0 hs hfT hl
  have one := ksp_try X I hs hf h
  have L1 : Looks (model prog w) s.heap (typeOf (.ref x)) (.ref C) := I.type
  have L2 : Looks (model prog w) s.heap (typeOf b) (.type T) := Looks.of_pure hb
  have L3 : Looks (model prog w) s.heap (fillsNumberSlot (.ref C) nm') true := fills_K X hcd hm h0
  have L4 : Looks (model prog w) s.heap (fillsNumberSlot (.type T) nm') true := Looks.of_pure hfT
  have L5 : Looks (model prog w) s.heap (isSubtype (.ref C) (.type T)) false := looks_subIn X hsub
  have hpy : numberSlotInPython (.type T) nm' = pure false := rfl
  have hne : (Value.type T == Value.ref C) = false := Bool.eq_false_iff.mpr fun q => by cases beq_iff_eq.mp q
  simp only [binaryOp, hi]
  refine wpAny_holding (wpAny_bind ?_)
  unfold binaryOp1
  refine wpAny_bind (L2.here (wpAny_bind (L1.here (wpAny_bind (L4.here ?_)))))
  simp only [hne, Bool.false_eq_true, if_false]
  refine wpAny_bind (L3.here ?_)
  simp only [Bool.and_self, if_true]
  refine wpAny_bind (L5.here ?_)
  simp only [Bool.false_eq_true, if_false, pure_bind, Bool.not_false, Bool.and_self, if_true, hpy]
  refine wpAny_bind (m := tryMethod b _ (.ref x)) (wpAny_tryMethod_declines hT hl (hd _ ⟨rfl, ?_⟩))
  refine wpAny_bind (m := tryMethod (.ref x) _ b) (wpAny_mono one (fun r s' hr' => ?_) fun _ _ e => e)
  obtain ⟨v, rfl, hq⟩ := hr'
  exact wpAny_bind (wpAny_rule (wpAny_pure (wpAny_pure hq)))
/-! ### == and != -/
theorem try_eq {b : Value} {Q : Value → Shared → Prop} (X : K.In s.heap) (I : InstAt s.heap x ox C od) (hs : findIn K (.ref C) "__eq__" = some (some (.ref f))) (hf : isFn K (.ref f) = true)
    (h : wpAny (model prog w) A (call (.ref f) [.ref x, b]) (PySem.W.CmpBack Q) E s) : wpAny (model prog w) A (tryCompare (.ref x) "__eq__" b) (fun r s' => ∃ v, r = some v ∧ Q v s') E s := by
  unfold tryCompare
  refine wpAny_bind (ifBound_K X I hs hf (wpAny_mono h (fun v s' hv => ?_) fun _ _ e => e))
  cases v <;> first | exact hv.elim | exact wpAny_pure ⟨_, rfl, hv⟩
theorem run_ne {b : Value} {Q : Value → Shared → Prop} (hu : A.units < cLine) (X : K.In s.heap) (I : InstAt s.heap x ox C od) (hs : findIn K (.ref C) "__eq__" = some (some (.ref f))) (hf : isFn K (.ref f) = true)
    (h : wpAny (model prog w) A (call (.ref f) [.ref x, b]) (fun v s' => ∃ r, v = .bool r ∧ Q (.bool (!r)) s') E s) :
    wpAny (model prog w) A (Builtin.«object.__ne__» ⟨[.ref x, b], []⟩) (fun fin s' => ∃ v, fin = .done (.ret v) ∧ Q v s') E s := by
  unfold Builtin.«object.__ne__»
  repeat (first
    | with_reducible refine wpAny_cRoomFor hu ?_
    | (refine wpAny_bind (m := callSpecialIfBound? (.ref x) (Str.ofString "__eq__") [b]) (ifBound_K X I hs hf (wpAny_mono h (fun v s' hv => by
        obtain ⟨r, rfl, q⟩ := hv
        repeat (first | exact ⟨_, rfl, q⟩ | exact wpAny_pure ⟨_, rfl, q⟩ | (refine wpAny_bind (m := truthy (.bool _)) (wpAny_truthy_bool ?_)) | wp_step)) fun _ _ e => e)))
    | wp_step)
theorem try_ne {b : Value} {Q : Value → Shared → Prop} (hu : A.units + 1 < cLine) (X : K.In s.heap) (I : InstAt s.heap x ox C od) (hs : findIn K (.ref C) "__eq__" = some (some (.ref f))) (hf : isFn K (.ref f) = true)
    (hn : findIn K (.ref C) "__ne__" = some (some (.builtin "object.__ne__"))) (ho : subIn K (.ref C) (.type "object") = some true)
    (h : wpAny (model prog w) A.in1 (call (.ref f) [.ref x, b]) (fun v s' => ∃ r, v = .bool r ∧ Q (.bool (!r)) s') E s) :
    wpAny (model prog w) A (tryCompare (.ref x) "__ne__" b) (fun r s' => ∃ v, r = some v ∧ Q v s' ∧ ∃ z, v = .bool z) E s := by
  have L1 : Looks (model prog w) s.heap (typeOf (.ref x)) (.ref C) := I.type
  have c : wpAny (model prog w) A (call (.builtin "object.__ne__") [.ref x, b]) (fun v s' => Q v s' ∧ ∃ z, v = .bool z) E s := by
    refine wpAny_call (codeAny_call_builtin F.cmp_object.ne.plain F.cmpEntry_ne (check_slot F.cmpKind_ne F.cmpSplit_ne (L1.andThen (looks_subIn X ho)) (F.cmpArgs_ne _ _) ?_))
    refine wpAny_mono (run_ne (A := A.in1) (Q := fun v s' => Q v s' ∧ ∃ z, v = .bool z) hu X I hs hf (wpAny_mono h (fun v s' hv => ?_) fun _ _ e => e)) (fun fin s' hv => ?_) fun _ _ z => z
    · obtain ⟨r, rfl, q⟩ := hv
      exact ⟨r, rfl, q, _, rfl⟩
    · obtain ⟨v, rfl, q⟩ := hv
      exact q
  unfold tryCompare
  refine wpAny_bind ?_
  simp only [callSpecialIfBound?, bindSpecialIfBound?]
  refine wpAny_holding (wpAny_bind (wpAny_bind (wpAny_bind (I.type.here ((looks_findIn X hn).here ?_)))))
  have fin : wpAny (model prog w) A (call (.builtin "object.__ne__") ([.ref x] ++ [b]) >>= fun v => pure (some v)) (fun r s' => ∃ v, r = some v ∧ Q v s' ∧ ∃ z, v = .bool z) E s :=
    wpAny_bind (wpAny_mono c (fun v s' h' => wpAny_pure ⟨v, rfl, h'⟩) fun _ _ h' => h')
  have hb := F.cmp_object.ne.bind (.ref x)
  refine wpAny_bind (wpAny_askSetting (wpAny_ite ?_))
  have fin2 := wpAny_mono (Q' := fun r s' => wpAny (model prog w) A (match r with | some .notImplemented => pure none | none => pure none | some v => pure (some v)) (fun r s' => ∃ v, r = some v ∧ Q v s' ∧ ∃ z, v = .bool z) E s') fin (fun r s' h' => by
    obtain ⟨v, rfl, q, z, rfl⟩ := h'
    exact wpAny_pure ⟨_, rfl, q, _, rfl⟩) fun _ _ e => e
  split
  · rw [hb]
    exact wpAny_bind (wpAny_pure (wpAny_pure fin2))
  · rw [hb]
    exact wpAny_tryCatch (wpAny_bind (wpAny_pure (wpAny_pure fin2)))
end
end OW
set_option Elab.async false
set_option linter.all false
set_option maxRecDepth 100000
set_option maxHeartbeats 4000000
namespace OW
open PySem PySem.Spec PySem.W PySem.Calls PyProof.Rows
section
variable {prog : Program} {w : World} {A : Around} {E : Value → Shared → Prop} {s : Shared} {K : Frag} {x C L f g : Addr} {h₀ : Heap} {m : Str → Option Value} {ox : Obj} {od : Option Obj} {T idl : String}
theorem ne_left {b tb : Value} {Q : Value → Shared → Prop} (hu : A.units + 1 < cLine) (X : K.In s.heap) (I : InstAt s.heap x ox C od) (hb : Looks (model prog w) s.heap (typeOf b) tb) (hnf : notFirst K C tb = true)
    (hs : findIn K (.ref C) "__eq__" = some (some (.ref f))) (hf : isFn K (.ref f) = true) (hn : findIn K (.ref C) "__ne__" = some (some (.builtin "object.__ne__"))) (ho : subIn K (.ref C) (.type "object") = some true)
    (h : wpAny (model prog w) A.in1 (call (.ref f) [.ref x, b]) (fun v s' => ∃ r, v = .bool r ∧ Q (.bool (!r)) s') E s) : wpAny (model prog w) A (richCompare .NotEq (.ref x) b) Q E s := by
  have one := try_ne hu X I hs hf hn ho h
  unfold richCompare
  simp only [oneThing_ref]
  refine wpAny_holding (wpAny_bind (wpAny_cRoomFor (Nat.lt_of_succ_lt hu) ?_))
  refine wpAny_bind (I.type.here (wpAny_bind (hb.here ?_)))
  split
  · rename_i q
    have e : subIn K tb (.ref C) = some false := by
      rcases Bool.or_eq_true_iff.mp hnf with e | e
      · rw [beq_iff_eq.mp e] at q; simp at q
      · exact beq_iff_eq.mp e
    refine wpAny_bind ((looks_subIn X e).here ?_)
    simp only [Bool.false_eq_true, if_false]
    refine wpAny_bind (wpAny_mono one (fun r s' z => ?_) fun _ _ e => e)
    obtain ⟨v, rfl, hq, _⟩ := z
    exact wpAny_pure hq
  · refine wpAny_bind (wpAny_pure ?_)
    simp only [Bool.false_eq_true, if_false]
    refine wpAny_bind (wpAny_mono one (fun r s' z => ?_) fun _ _ e => e)
    obtain ⟨v, rfl, hq, _⟩ := z
    exact wpAny_pure hq
theorem eq_right {b : Value} {Q : Value → Shared → Prop} (hu : A.units < cLine) (X : K.In s.heap) (I : InstAt s.heap x ox C od) (hT : s.TypeIs b T) (hsub : subIn K (.ref C) (.type T) = some false) (hl : Slot T "__eq__" idl)
    (hd : ∀ Q' : Value → Shared → Prop, Q' .notImplemented s → wpAny (model prog w) A (call (.builtin idl) [b, .ref x]) Q' E s)
    (hs : findIn K (.ref C) "__eq__" = some (some (.ref f))) (hf : isFn K (.ref f) = true)
    (h : wpAny (model prog w) A (call (.ref f) [.ref x, b]) (PySem.W.CmpBack Q) E s) : wpAny (model prog w) A (richCompare .Eq b (.ref x)) Q E s := by
  have one := try_eq X I hs hf h
  have hne : (Value.type T != Value.ref C) = true := by simp
  unfold richCompare
  simp only [hT.oneThing_none]
  refine wpAny_holding (wpAny_bind (wpAny_cRoomFor hu ?_))
  refine wpAny_bind (wpAny_typeOf hT (wpAny_bind (I.type.here ?_)))
  simp only [hne, if_true]
  refine wpAny_bind ((looks_subIn X hsub).here ?_)
  simp only [Bool.false_eq_true, if_false, Bool.not_false, if_true]
  refine wpAny_bind (m := tryCompare b _ (.ref x)) (wpAny_tryCompare_declines hT hl (hd _ ⟨rfl, ?_⟩))
  refine wpAny_bind (m := tryCompare (.ref x) _ b) (wpAny_mono one (fun r s' z => ?_) fun _ _ e => e)
  obtain ⟨v, rfl, hq⟩ := z
  exact wpAny_pure hq
theorem ne_right {b : Value} {Q : Value → Shared → Prop} (hu : A.units + 1 < cLine) (X : K.In s.heap) (I : InstAt s.heap x ox C od) (hT : s.TypeIs b T) (hsub : subIn K (.ref C) (.type T) = some false) (hl : Slot T "__ne__" idl)
    (hd : ∀ Q' : Value → Shared → Prop, Q' .notImplemented s → wpAny (model prog w) A (call (.builtin idl) [b, .ref x]) Q' E s)
    (hs : findIn K (.ref C) "__eq__" = some (some (.ref f))) (hf : isFn K (.ref f) = true) (hn : findIn K (.ref C) "__ne__" = some (some (.builtin "object.__ne__"))) (ho : subIn K (.ref C) (.type "object") = some true)
    (h : wpAny (model prog w) A.in1 (call (.ref f) [.ref x, b]) (fun v s' => ∃ r, v = .bool r ∧ Q (.bool (!r)) s') E s) : wpAny (model prog w) A (richCompare .NotEq b (.ref x)) Q E s := by
  have one := try_ne hu X I hs hf hn ho h
  have hne : (Value.type T != Value.ref C) = true := by simp
  unfold richCompare
  simp only [hT.oneThing_none]
  refine wpAny_holding (wpAny_bind (wpAny_cRoomFor (Nat.lt_of_succ_lt hu) ?_))
  refine wpAny_bind (wpAny_typeOf hT (wpAny_bind (I.type.here ?_)))
  simp only [hne, if_true]
  refine wpAny_bind ((looks_subIn X hsub).here ?_)
  simp only [Bool.false_eq_true, if_false, Bool.not_false, if_true]
  refine wpAny_bind (m := tryCompare b _ (.ref x)) (wpAny_tryCompare_declines hT hl (hd _ ⟨rfl, ?_⟩))
  refine wpAny_bind (m := tryCompare (.ref x) _ b) (wpAny_mono one (fun r s' z => ?_) fun _ _ e => e)
  obtain ⟨v, rfl, hq, _⟩ := z
  exact wpAny_pure hq
end
/-! ### the built-in types decline -/
section
variable {C l dx : Addr}
theorem int_eq_no (b : Int) (u : Tok) : Meets (Builtin.«int.__eq__» ⟨[.int b u, .ref l], []⟩) (fun _ R s => s.heap.get? l = some (instObj C dx) ∧ R (.ok (.ret .notImplemented)) s) :=
  .of_wp fun prog w A R s h => by obtain ⟨hp, g, d, tk, os⟩ := s; obtain ⟨hl, h⟩ := h; wp_walk using wpAny_loadPart' hl, wpAny_load hl; exact ⟨_, rfl, h⟩
theorem int_ne_no (b : Int) (u : Tok) : Meets (Builtin.«int.__ne__» ⟨[.int b u, .ref l], []⟩) (fun _ R s => s.heap.get? l = some (instObj C dx) ∧ R (.ok (.ret .notImplemented)) s) :=
  .of_wp fun prog w A R s h => by obtain ⟨hp, g, d, tk, os⟩ := s; obtain ⟨hl, h⟩ := h; wp_walk using wpAny_loadPart' hl, wpAny_load hl; exact ⟨_, rfl, h⟩
theorem int_add_no (b : Int) (u : Tok) : Meets (Builtin.«int.__add__» ⟨[.int b u, .ref l], []⟩) (fun _ R s => s.heap.get? l = some (instObj C dx) ∧ R (.ok (.ret .notImplemented)) s) :=
  .of_wp fun prog w A R s h => by obtain ⟨hp, g, d, tk, os⟩ := s; obtain ⟨hl, h⟩ := h; wp_walk using wpAny_loadPart' hl, wpAny_load hl; exact ⟨_, rfl, h⟩
theorem int_sub_no (b : Int) (u : Tok) : Meets (Builtin.«int.__sub__» ⟨[.int b u, .ref l], []⟩) (fun _ R s => s.heap.get? l = some (instObj C dx) ∧ R (.ok (.ret .notImplemented)) s) :=
  .of_wp fun prog w A R s h => by obtain ⟨hp, g, d, tk, os⟩ := s; obtain ⟨hl, h⟩ := h; wp_walk using wpAny_loadPart' hl, wpAny_load hl; exact ⟨_, rfl, h⟩
theorem int_mul_no (b : Int) (u : Tok) : Meets (Builtin.«int.__mul__» ⟨[.int b u, .ref l], []⟩) (fun _ R s => s.heap.get? l = some (instObj C dx) ∧ R (.ok (.ret .notImplemented)) s) :=
  .of_wp fun prog w A R s h => by obtain ⟨hp, g, d, tk, os⟩ := s; obtain ⟨hl, h⟩ := h; wp_walk using wpAny_loadPart' hl, wpAny_load hl; exact ⟨_, rfl, h⟩
theorem bool_eq_no (b : Bool) : Meets (Builtin.«int.__eq__» ⟨[.bool b, .ref l], []⟩) (fun _ R s => s.heap.get? l = some (instObj C dx) ∧ R (.ok (.ret .notImplemented)) s) :=
  .of_wp fun prog w A R s h => by obtain ⟨hp, g, d, tk, os⟩ := s; obtain ⟨hl, h⟩ := h; wp_walk using wpAny_loadPart' hl, wpAny_load hl; exact ⟨_, rfl, h⟩
theorem str_eq_no (b : Str) (u : Tok) : Meets (Builtin.«str.__eq__» ⟨[.str b u, .ref l], []⟩) (fun _ R s => s.heap.get? l = some (instObj C dx) ∧ R (.ok (.ret .notImplemented)) s) :=
  .of_wp fun prog w A R s h => by obtain ⟨hp, g, d, tk, os⟩ := s; obtain ⟨hl, h⟩ := h; wp_walk using wpAny_loadPart' hl, wpAny_load hl; exact ⟨_, rfl, h⟩
end
end OW
set_option Elab.async false
set_option linter.all false
set_option maxRecDepth 100000
set_option maxHeartbeats 4000000
namespace OW
open PySem PySem.Spec PySem.W PySem.Calls PyProof.Rows
open AutoSeq1 (wpAny_loadPart')
section
variable {C x l dx : Addr} {K : Frag} {od : Option Obj}
theorem list_eq_no (hs : subIn K (.ref C) (.type "list") = some false) (items : Array Value) (n : Nat) (dd : Option Addr) (sl : Array (Option Value)) : Meets (Builtin.«list.__eq__» ⟨[.ref l, .ref x], []⟩)
    (fun _ R s => s.heap.get? l = some { cls := .type "list", dict := dd, data := .seq items n, slots := sl } ∧ K.In s.heap ∧ s.heap.get? x = some (instObj C dx) ∧ R (.ok (.ret .notImplemented)) s) :=
  .of_wp fun prog w A R s h => by
    obtain ⟨hl, X, hx, h⟩ := h
    have L : Looks (model prog w) s.heap (isSubtype (.ref C) (.type "list")) false := looks_subIn X hs
    obtain ⟨hp, g, d, tk, os⟩ := s
    wp_walk using wpAny_loadPart' hl, wpAny_loadPart' hx, L.here
    exact ⟨_, rfl, h⟩
theorem tuple_eq_no (hs : subIn K (.ref C) (.type "tuple") = some false) (items : Array Value) (n : Nat) (dd : Option Addr) (sl : Array (Option Value)) : Meets (Builtin.«tuple.__eq__» ⟨[.ref l, .ref x], []⟩)
    (fun _ R s => s.heap.get? l = some { cls := .type "tuple", dict := dd, data := .seq items n, slots := sl } ∧ K.In s.heap ∧ s.heap.get? x = some (instObj C dx) ∧ R (.ok (.ret .notImplemented)) s) :=
  .of_wp fun prog w A R s h => by
    obtain ⟨hl, X, hx, h⟩ := h
    have L : Looks (model prog w) s.heap (isSubtype (.ref C) (.type "tuple")) false := looks_subIn X hs
    obtain ⟨hp, g, d, tk, os⟩ := s
    wp_walk using wpAny_loadPart' hl, wpAny_loadPart' hx, L.here
    exact ⟨_, rfl, h⟩
end
section
variable {prog : Program} {w : World} {A : Around} {E : Value → Shared → Prop} {s : Shared} {K : Frag} {x C a : Addr} {ox : Obj} {od : Option Obj}
theorem dict_eq_no {Q : Value → Shared → Prop} (hT : s.TypeIs (.ref a) "dict") (X : K.In s.heap) (I : InstAt s.heap x ox C od) (hs : subIn K (.ref C) (.type "dict") = some false) (h : Q .notImplemented s) :
    wpAny (model prog w) A (call (.builtin "dict.__eq__") [.ref a, .ref x]) Q E s := by
  have L1 : Looks (model prog w) s.heap (typeOf (.ref x)) (.ref C) := I.type
  have L : Looks (model prog w) s.heap (isInstance (.ref x) (.type "dict")) false := L1.andThen (looks_subIn X hs)
  refine wpAny_call_entry PySem.F.slot_dict_eq hT PySem.F.entry_dict_eq ?_ (PySem.F.args_dict_eq_2 _ _)
  show wpAny _ _ (Builtin.Dict.dictSlotArgs "__eq__" ⟨[.ref a, .ref x], []⟩ >>= _) _ _ s
  refine wpAny_bind ?_
  unfold Builtin.Dict.dictSlotArgs
  refine wpAny_bind (wpAny_notOrdered_dict hT ?_)
  show wpAny _ _ (pure (Value.ref a, Value.ref x)) _ _ s
  refine wpAny_pure ?_
  refine wpAny_bind (L.here ?_)
  wp_walk
  exact ⟨_, rfl, h⟩
end
end OW
set_option Elab.async false
set_option linter.all false
set_option maxRecDepth 100000
set_option maxHeartbeats 4000000
namespace L2
open PySem PySem.Spec PyProof.Rows PySem.Calls
theorem rRef (a : Addr) : RelV (.ref a) (.ref a) := rfl
theorem rInt (i : Int) (t : Tok) : RelV (.int i) (.int i t) := ⟨t, rfl⟩
/-- the class at C has this name as the def at f -/
structure Dun (K : PySem.W.Frag) (C : Addr) (nm : Str) (f : Addr) : Prop where
  at_ : PySem.W.findIn K (.ref C) nm = some (some (.ref f))
  fn : PySem.W.isFn K (.ref f) = true
section
variable {X : Cx} {CX : CXT} {k : Nat} {f C C' a : Addr} {fd : FuncData} {ps : List Str} {sp : Sp} {E : XK} {pins : List (Addr × Obj)} {σ : St} {H : Hp} {s : Shared} {Q : VK}
theorem run_sub {A : Around} {us : List Value} {vs : List V} (sb : Sub X k A) (F : FnOk X.prog X.w X.K X.mg X.base CX k f fd ps sp) (hb : Binds X.K fd ps []) (hx : Passes CX X E)
    (I : Inv X pins σ H s) (r : Vals vs us) (h : sp vs H Q E) : wpAny (model X.prog X.w) A (call (.ref f) us) (EP X pins σ Q) X.xe s := by
  have e0 : Env0 X.prog X.w X.K X.mg X.base A X.stack s H := by
    have e := I.env0
    exact ⟨by rw [sb.fr]; exact e.frames, e.mod, e.bs, e.bsz, e.funs, e.frf, e.hok, e.bare⟩
  have hl := F.len _ _ _ _ h
  refine wpAny_call (codeAny_mono (F.run A X.stack s H ⟨us, []⟩ us vs Q E sb.room e0 (by
    have := hb s us I.kIn (by rw [List.append_nil, ← r.length]; exact hl)
    rw [List.append_nil] at this
    exact this) r h) fun r s' hq => ?_)
  cases r with
  | error e => exact hx pins σ H s e s' I hq
  | ok fl =>
    cases fl with
    | ret w =>
      obtain ⟨z, H', I', rz, q⟩ := I.after hq
      exact ⟨z, H', I', rz, q⟩
    | next => exact False.elim hq
    | brk => exact False.elim hq
    | cont => exact False.elim hq
theorem back_rel {v : V} {u : Value} {s' : Shared} {R : Value → Shared → Prop} (r : RelV v u) (q : R u s') : PySem.W.CmpBack R u s' := by
  cases u
  case notImplemented =>
    cases v with
    | non => exact nomatch (show Value.notImplemented = Value.none from r)
    | bl b => exact nomatch (show Value.notImplemented = Value.bool b from r)
    | int i => obtain ⟨t, e⟩ := (show ∃ t, Value.notImplemented = Value.int i t from r); exact nomatch e
    | str x => obtain ⟨t, e⟩ := (show ∃ t, Value.notImplemented = Value.str x t from r); exact nomatch e
    | byt b => obtain ⟨t, e⟩ := (show ∃ t, Value.notImplemented = Value.bytes b t from r); exact nomatch e
    | flt b => obtain ⟨t, e⟩ := (show ∃ t, Value.notImplemented = Value.float b t from r); exact nomatch e
    | ref a => exact nomatch (show Value.notImplemented = Value.ref a from r)
    | ty n => exact nomatch (show Value.notImplemented = Value.type n from r)
  all_goals exact q
theorem ins_at {dx : Addr} {fs : List (Str × V)} (I : Inv X pins σ H s) (e : H a = some (.ins C dx fs)) : ∃ od, PySem.W.InstAt s.heap a (PySem.W.instObj C dx) C (some od) ∧ s.heap.get? a = some (PySem.W.instObj C dx) := by
  obtain ⟨mA, O, _⟩ := ins_get I.hok e
  obtain ⟨od, J, _⟩ := O.look
  exact ⟨od, J, O.obj⟩
/-- x op y, x an instance whose class has the method, y one of the same class -/
def rOw2 (C : Addr) (sp : Sp) (E : XK) : R2 := fun x y H Q => ∃ a b dx dy fs gs, x = .ref a ∧ y = .ref b ∧ H a = some (.ins C dx fs) ∧ H b = some (.ins C dy gs) ∧ sp [.ref a, .ref b] H Q E
theorem op_own2 {op : Operator} (D : Dun X.K C (PySem.dunder op.info.2) f) (hc : PySem.W.selfFirst X.K C = true) (F : FnOk X.prog X.w X.K X.mg X.base CX k f fd ps sp) (hr : Room k X.A) (hb : Binds X.K fd ps []) (hx : Passes CX X E) :
    OpR X (binaryOp op) (rOw2 C sp E) := by
  intro pins s σ H x y v u Q I rx ry ⟨a, b, dx, dy, fs, gs, ex, ey, ea, eb, h⟩
  subst ex ey
  cases (show v = .ref a from rx)
  cases (show u = .ref b from ry)
  obtain ⟨od, J, _⟩ := ins_at I ea
  obtain ⟨od', J', _⟩ := ins_at I eb
  obtain ⟨m, hF⟩ := I.fr
  exact PySem.W.binop_K hF I.ok.mod.kin J J'.type hc D.at_ D.fn (wpAny_mono (run_sub ⟨hr, rfl⟩ F hb hx I (.cons (rRef a) (.cons (rRef b) .nil)) h) (fun w' s' ⟨z, H', I', rz, q⟩ => back_rel rz ⟨z, H', I', rz, q⟩) fun _ _ e => e)
/-- x op y, y an integer -/
def rOwI (C : Addr) (sp : Sp) (E : XK) : R2 := fun x y H Q => ∃ a i dx fs, x = .ref a ∧ y = .int i ∧ H a = some (.ins C dx fs) ∧ sp [.ref a, .int i] H Q E
theorem op_ownI {op : Operator} {fo ro rc : Option Value} (D : Dun X.K C (PySem.dunder op.info.2) f) (hc : PySem.W.selfFirst X.K C = true) (hR : PySem.W.findIn X.K (.ref C) (dunderR op.info.2) = some rc) (hp : rc = none ∨ ∃ g : Addr, rc = some (.ref g))
    (h1 : PySem.W.findIn X.K (.type "int") (PySem.dunder op.info.2) = some fo) (h2 : PySem.W.findIn X.K (.type "int") (dunderR op.info.2) = some ro) (hs : PySem.W.subIn X.K (.type "int") (.ref C) = some false)
    (F : FnOk X.prog X.w X.K X.mg X.base CX k f fd ps sp) (hr : Room k X.A) (hb : Binds X.K fd ps []) (hx : Passes CX X E) : OpR X (binaryOp op) (rOwI C sp E) := by
  intro pins s σ H x y v u Q I rx ry ⟨a, i, dx, fs, ex, ey, ea, h⟩
  subst ex ey
  cases (show v = .ref a from rx)
  obtain ⟨t, rfl⟩ := (show ∃ t, u = Value.int i t from ry)
  obtain ⟨od, J, _⟩ := ins_at I ea
  obtain ⟨m, hF⟩ := I.fr
  exact PySem.W.ksp_binT hF I.ok.mod.kin J rfl hc D.at_ D.fn hR hp h1 h2 hs (wpAny_mono (run_sub ⟨hr, rfl⟩ F hb hx I (.cons (rRef a) (.cons (rInt i t) .nil)) h) (fun w' s' ⟨z, H', I', rz, q⟩ => back_rel rz ⟨z, H', I', rz, q⟩) fun _ _ e => e)
/-- i op x, i an integer: the reflected method -/
def rIOw (C : Addr) (sp : Sp) (E : XK) : R2 := fun x y H Q => ∃ a i dx fs, x = .int i ∧ y = .ref a ∧ H a = some (.ins C dx fs) ∧ sp [.ref a, .int i] H Q E
theorem op_Iown {op : Operator} {g : Addr} {idl : String} {B : Builtin} (D0 : Dun X.K C (PySem.dunder op.info.2) g) (D : Dun X.K C (dunderR op.info.2) f) (hc : PySem.W.selfFirst X.K C = true)
    (hfT : fillsNumberSlot (.type "int") op.info.2 = pure true) (hl : Slot "int" (PySem.dunder op.info.2) idl) (en : entryFor table idl = some B) (ar : ∀ x y, argsOk idl ⟨[x, y], []⟩)
    (no : ∀ (i : Int) (t : Tok) (l dx : Addr), Meets (B ⟨[.int i t, .ref l], []⟩) (fun _ R s => s.heap.get? l = some (PySem.W.instObj C dx) ∧ R (.ok (.ret .notImplemented)) s)) (hs : PySem.W.subIn X.K (.ref C) (.type "int") = some false)
    (F : FnOk X.prog X.w X.K X.mg X.base CX k f fd ps sp) (hr : Room k X.A) (hb : Binds X.K fd ps []) (hx : Passes CX X E) : OpR X (binaryOp op) (rIOw C sp E) := by
  intro pins s σ H x y v u Q I rx ry ⟨a, i, dx, fs, ex, ey, ea, h⟩
  subst ex ey
  cases (show u = .ref a from ry)
  obtain ⟨t, rfl⟩ := (show ∃ t, v = Value.int i t from rx)
  obtain ⟨od, J, O⟩ := ins_at I ea
  refine OW.binop_right I.kIn J rfl (typeIs_int s i t) hc D0.at_ D.at_ D.fn hfT hs hl (fun Q' q' => call_meets hl (typeIs_int s i t) en (ar _ _) (no i t a dx) ⟨O, q'⟩) ?_
  exact wpAny_mono (run_sub ⟨hr, rfl⟩ F hb hx I (.cons (rRef a) (.cons (rInt i t) .nil)) h) (fun w' s' ⟨z, H', I', rz, q⟩ => back_rel rz ⟨z, H', I', rz, q⟩) fun _ _ e => e
/-- -x -/
def rNeg (C : Addr) (sp : Sp) (E : XK) : V → Hp → VK → Prop := fun x H Q => ∃ a dx fs, x = .ref a ∧ H a = some (.ins C dx fs) ∧ sp [.ref a] H Q E
theorem un_own (D : Dun X.K C "__neg__" f) (F : FnOk X.prog X.w X.K X.mg X.base CX k f fd ps sp) (hr : Room k X.A) (hb : Binds X.K fd ps []) (hx : Passes CX X E) : UnR X (unaryOp .USub) (rNeg C sp E) := by
  intro pins s σ H x v Q I rx ⟨a, dx, fs, ex, ea, h⟩
  subst ex
  cases (show v = .ref a from rx)
  obtain ⟨od, J, _⟩ := ins_at I ea
  obtain ⟨m, hF⟩ := I.fr
  exact PySem.W.ksp_neg hF I.ok.mod.kin J D.at_ D.fn (run_sub ⟨hr, rfl⟩ F hb hx I (.cons (rRef a) .nil) h)
/-- abs(x) -/
def rAbs (C : Addr) (sp : Sp) (E : XK) : List V → Hp → VK → Prop := fun xs H Q => ∃ a dx fs, xs = [.ref a] ∧ H a = some (.ins C dx fs) ∧ sp [.ref a] H Q E
theorem call_absOwn (D : Dun X.K C "__abs__" f) (F : FnOk X.prog X.w X.K X.mg X.base CX k f fd ps sp) (hr : Room (k + 1) X.A) (hb : Binds X.K fd ps []) (hx : Passes CX X E) : CallR X (.builtin "abs") (rAbs C sp E) := by
  intro pins s σ H xs us Q I r ⟨a, dx, fs, ex, ea, h⟩
  subst ex
  obtain ⟨u, rfl, ru⟩ := vals1 r
  cases (show u = .ref a from ru)
  obtain ⟨od, J, _⟩ := ins_at I ea
  refine call_function_entry kind_abs plain_abs entry_abs (args_abs _) ?_
  unfold Builtin.«abs»
  refine wpAny_bind (m := oneArg "abs" _) (wpAny_pure ?_)
  refine wpAny_bind (m := callSpecial? (.ref a) (Str.ofString "__abs__")) (PySem.W.special_fn I.kIn J D.at_ (beq_iff_eq.mp D.fn) (wpAny_mono (run_sub ⟨hr.in1, rfl⟩ F hb hx I (.cons (rRef a) .nil) h) (fun w' s' z => ?_) fun _ _ e => e))
  exact wpAny_pure ⟨_, rfl, z⟩
/-- str(x) -/
def rStr (C : Addr) (sp : Sp) (E : XK) : List V → Hp → VK → Prop := fun xs H Q => ∃ a dx fs, xs = [.ref a] ∧ H a = some (.ins C dx fs) ∧ sp [.ref a] H (fun z H' => (∃ t, z = .str t) ∧ Q z H') E
theorem call_strOwn (D : Dun X.K C "__str__" f) (F : FnOk X.prog X.w X.K X.mg X.base CX k f fd ps sp) (hr : Room (k + 2) X.A) (hb : Binds X.K fd ps []) (hx : Passes CX X E) : CallR X (.type "str") (rStr C sp E) := by
  intro pins s σ H xs us Q I r ⟨a, dx, fs, ex, ea, h⟩
  subst ex
  obtain ⟨u, rfl, ru⟩ := vals1 r
  cases (show u = .ref a from ru)
  obtain ⟨od, J, _⟩ := ins_at I ea
  refine PySem.W.kso_call hr.in1.in1.units0 I.kIn J D.at_ D.fn (wpAny_mono (run_sub ⟨hr.in1.in1, rfl⟩ F hb hx I (.cons (rRef a) .nil) h) (fun w' s' ⟨z, H', I', rz, ⟨t, ez⟩, q⟩ => ?_) fun _ _ e => e)
  subst ez
  obtain ⟨tk, rfl⟩ := (show ∃ tk, w' = Value.str t tk from rz)
  exact ⟨_, H', I', rz, q⟩
end
end L2
set_option Elab.async false
set_option linter.all false
set_option maxRecDepth 100000
set_option maxHeartbeats 4000000
namespace L2
open PySem PySem.Spec PyProof.Rows PySem.Calls
section
variable {X : Cx} {CX : CXT} {k : Nat} {f C a : Addr} {fd : FuncData} {ps : List Str} {sp : Sp} {E : XK} {pins : List (Addr × Obj)} {σ : St} {H : Hp} {s : Shared} {Q : VK}
/-- x == y, x an instance whose class has __eq__ -/
def rEqL (K : PySem.W.Frag) (C : Addr) (sp : Sp) (E : XK) : R2 := fun x y H Q => ∃ a dx fs t, x = .ref a ∧ H a = some (.ins C dx fs) ∧ TyX K H y t ∧ PySem.W.notFirst K C t = true ∧ sp [.ref a, y] H Q E
theorem op_eqL (D : Dun X.K C "__eq__" f) (F : FnOk X.prog X.w X.K X.mg X.base CX k f fd ps sp) (hr : Room k X.A) (hb : Binds X.K fd ps []) (hx : Passes CX X E) : OpR X (compareOp .Eq) (rEqL X.K C sp E) := by
  intro pins s σ H x y v u Q I rx ry ⟨a, dx, fs, t, ex, ea, ty, hn, h⟩
  subst ex
  cases (show v = .ref a from rx)
  obtain ⟨od, J, _⟩ := ins_at I ea
  obtain ⟨m, hF⟩ := I.fr
  obtain ⟨P, Z, p, _⟩ := kit_of I ry ty
  exact PySem.W.cmp_K (op := .Eq) (tb := t) hr.units0 hF I.ok.mod.kin J (Z.ty _ _ I.kIn p) hn D.at_ D.fn (wpAny_mono (run_sub ⟨hr, rfl⟩ F hb hx I (.cons (rRef a) (.cons ry .nil)) h) (fun w' s' ⟨z, H', I', rz, q⟩ => back_rel rz ⟨z, H', I', rz, q⟩) fun _ _ e => e)
/-- x != y, by the class's __eq__ -/
def rNeL (K : PySem.W.Frag) (C : Addr) (sp : Sp) (E : XK) : R2 := fun x y H Q => ∃ a dx fs t, x = .ref a ∧ H a = some (.ins C dx fs) ∧ TyX K H y t ∧ PySem.W.notFirst K C t = true ∧ sp [.ref a, y] H (fun z H' => ∃ r, z = .bl r ∧ Q (.bl (!r)) H') E
structure NeOf (K : PySem.W.Frag) (C : Addr) : Prop where
  ne : PySem.W.findIn K (.ref C) "__ne__" = some (some (.builtin "object.__ne__"))
  ob : PySem.W.subIn K (.ref C) (.type "object") = some true
theorem op_neL (D : Dun X.K C "__eq__" f) (N : NeOf X.K C) (F : FnOk X.prog X.w X.K X.mg X.base CX k f fd ps sp) (hr : Room (k + 1) X.A) (hb : Binds X.K fd ps []) (hx : Passes CX X E) : OpR X (compareOp .NotEq) (rNeL X.K C sp E) := by
  intro pins s σ H x y v u Q I rx ry ⟨a, dx, fs, t, ex, ea, ty, hn, h⟩
  subst ex
  cases (show v = .ref a from rx)
  obtain ⟨od, J, _⟩ := ins_at I ea
  obtain ⟨P, Z, p, _⟩ := kit_of I ry ty
  refine OW.ne_left (by have := hr.un; omega) I.kIn J (Z.ty _ _ I.kIn p) hn D.at_ D.fn N.ne N.ob (wpAny_mono (run_sub ⟨hr.in1, rfl⟩ F hb hx I (.cons (rRef a) (.cons ry .nil)) h) (fun w' s' ⟨z, H', I', rz, r, ez, q⟩ => ?_) fun _ _ e => e)
  subst ez
  cases (show w' = .bool r from rz)
  exact ⟨r, rfl, .bl (!r), H', I', rfl, q⟩
/-- a value of a built-in type, which declines when it is compared with an instance -/
inductive Odd (K : PySem.W.Frag) (H : Hp) : V → String → Prop where
  | non : Odd K H .non "NoneType"
  | bl (b : Bool) : Odd K H (.bl b) "bool"
  | int (i : Int) : Odd K H (.int i) "int"
  | str (x : Str) : Odd K H (.str x) "str"
  | lst {a : Addr} {xs : List V} (e : H a = some (.lst xs)) : Odd K H (.ref a) "list"
  | tup {a : Addr} {xs : List V} (e : H a = some (.tup xs)) : Odd K H (.ref a) "tuple"
  | dK {a : Addr} {kvs : List (Key × V)} (e : H a = some (.dK kvs)) : Odd K H (.ref a) "dict"
theorem Odd.ty {K : PySem.W.Frag} {x : V} {T : String} (o : Odd K H x T) : TyX K H x (.type T) := by
  cases o with
  | non => exact .base .non
  | bl b => exact .base (.bl b)
  | int i => exact .base (.int i)
  | str y => exact .base (.str y)
  | lst e => exact .base (.lst e)
  | tup e => exact .base (.tup e)
  | dK e => exact .base (.dK e)
/-- y == x, y such a value -/
def rEqR (K : PySem.W.Frag) (C : Addr) (sp : Sp) (E : XK) : R2 := fun x y H Q => ∃ a dx fs T, y = .ref a ∧ H a = some (.ins C dx fs) ∧ Odd K H x T ∧ PySem.W.subIn K (.ref C) (.type T) = some false ∧ sp [.ref a, x] H Q E
theorem op_eqR (D : Dun X.K C "__eq__" f) (F : FnOk X.prog X.w X.K X.mg X.base CX k f fd ps sp) (hr : Room k X.A) (hb : Binds X.K fd ps []) (hx : Passes CX X E) : OpR X (compareOp .Eq) (rEqR X.K C sp E) := by
  intro pins s σ H x y v u Q I rx ry ⟨a, dx, fs, T, ey, ea, od', hs, h⟩
  subst ey
  cases (show u = .ref a from ry)
  obtain ⟨od, J, O⟩ := ins_at I ea
  have fin : wpAny (model X.prog X.w) X.A (call (.ref f) [.ref a, v]) (PySem.W.CmpBack (EP X pins σ Q)) X.xe s :=
    wpAny_mono (run_sub ⟨hr, rfl⟩ F hb hx I (.cons (rRef a) (.cons rx .nil)) h) (fun w' s' ⟨z, H', I', rz, q⟩ => back_rel rz ⟨z, H', I', rz, q⟩) fun _ _ e => e
  show wpAny (model X.prog X.w) X.A (richCompare .Eq v (.ref a)) (EP X pins σ Q) X.xe s
  cases od' with
  | non =>
    cases (show v = .none from rx)
    exact OW.eq_right hr.units0 I.kIn J rfl hs PySem.F.slot_NoneType_eq (fun Q' q' => call_gives PySem.F.slot_NoneType_eq rfl PySem.F.entry_NoneType_eq (PySem.F.args_NoneType_eq_2 _ _) (PySem.SeqAt.NoneType___eq___none_ref_0 a) q') D.at_ D.fn fin
  | bl b =>
    cases (show v = .bool b from rx)
    exact OW.eq_right hr.units0 I.kIn J rfl hs PySem.F.slot_bool_eq (fun Q' q' => call_meets PySem.F.slot_bool_eq rfl PySem.F.entry_int_eq (PySem.F.args_int_eq_2 _ _) (OW.bool_eq_no (C := C) (dx := dx) b) ⟨O, q'⟩) D.at_ D.fn fin
  | int i =>
    obtain ⟨t, rfl⟩ := (show ∃ t, v = Value.int i t from rx)
    exact OW.eq_right hr.units0 I.kIn J (typeIs_int s i t) hs PySem.F.slot_int_eq (fun Q' q' => call_meets PySem.F.slot_int_eq (typeIs_int s i t) PySem.F.entry_int_eq (PySem.F.args_int_eq_2 _ _) (OW.int_eq_no (C := C) (dx := dx) i t) ⟨O, q'⟩) D.at_ D.fn fin
  | str z =>
    obtain ⟨t, rfl⟩ := (show ∃ t, v = Value.str z t from rx)
    exact OW.eq_right hr.units0 I.kIn J (typeIs_str s z t) hs PySem.F.slot_str_eq (fun Q' q' => call_meets PySem.F.slot_str_eq (typeIs_str s z t) PySem.F.entry_str_eq (PySem.F.args_str_eq_2 _ _) (OW.str_eq_no (C := C) (dx := dx) z t) ⟨O, q'⟩) D.at_ D.fn fin
  | @lst l xs e =>
    cases (show v = .ref l from rx)
    obtain ⟨z, its, n, r, e1⟩ := I.hok l _ e
    exact OW.eq_right hr.units0 I.kIn J ⟨_, e1, rfl⟩ hs PySem.F.slot_list_eq (fun Q' q' => call_meets PySem.F.slot_list_eq ⟨_, e1, rfl⟩ PySem.F.entry_list_eq (PySem.F.args_list_eq_2 _ _) (OW.list_eq_no hs _ _ _ _) ⟨e1, I.kIn, O, q'⟩) D.at_ D.fn fin
  | @tup l xs e =>
    cases (show v = .ref l from rx)
    obtain ⟨_, its, _, o, h1, h2, n, h3⟩ := (show ObjOk X.prog X.w H s.heap l (.tup xs) from I.hok l _ e)
    obtain ⟨cls, dd, data, sl⟩ := o
    simp only at h2 h3
    subst h2 h3
    exact OW.eq_right hr.units0 I.kIn J ⟨_, h1, rfl⟩ hs PySem.F.slot_tuple_eq (fun Q' q' => call_meets PySem.F.slot_tuple_eq ⟨_, h1, rfl⟩ PySem.F.entry_tuple_eq (PySem.F.args_tuple_eq_2 _ _) (OW.tuple_eq_no hs _ _ _ _) ⟨h1, I.kIn, O, q'⟩) D.at_ D.fn fin
  | @dK l kvs e =>
    cases (show v = .ref l from rx)
    obtain ⟨_, _, vs, _, o, es, ep, h1, h2, _⟩ := (show ObjOk X.prog X.w H s.heap l (.dK kvs) from I.hok l _ e)
    have hT : s.TypeIs (.ref l) "dict" := ⟨_, h1, h2.1⟩
    exact OW.eq_right hr.units0 I.kIn J hT hs PySem.F.slot_dict_eq (fun Q' q' => OW.dict_eq_no hT I.kIn J hs q') D.at_ D.fn fin
/-- i != x, i an integer -/
def rNeR (C : Addr) (sp : Sp) (E : XK) : R2 := fun x y H Q => ∃ a dx fs i, y = .ref a ∧ H a = some (.ins C dx fs) ∧ x = .int i ∧ sp [.ref a, .int i] H (fun z H' => ∃ r, z = .bl r ∧ Q (.bl (!r)) H') E
theorem op_neR (D : Dun X.K C "__eq__" f) (N : NeOf X.K C) (hs : PySem.W.subIn X.K (.ref C) (.type "int") = some false) (F : FnOk X.prog X.w X.K X.mg X.base CX k f fd ps sp) (hr : Room (k + 1) X.A) (hb : Binds X.K fd ps []) (hx : Passes CX X E) :
    OpR X (compareOp .NotEq) (rNeR C sp E) := by
  intro pins s σ H x y v u Q I rx ry ⟨a, dx, fs, i, ey, ea, ex, h⟩
  subst ex ey
  cases (show u = .ref a from ry)
  obtain ⟨t, rfl⟩ := (show ∃ t, v = Value.int i t from rx)
  obtain ⟨od, J, O⟩ := ins_at I ea
  refine OW.ne_right (by have := hr.un; omega) I.kIn J (typeIs_int s i t) hs PySem.F.slot_int_ne (fun Q' q' => call_meets PySem.F.slot_int_ne (typeIs_int s i t) PySem.F.entry_int_ne (PySem.F.args_int_ne_2 _ _) (OW.int_ne_no (C := C) (dx := dx) i t) ⟨O, q'⟩) D.at_ D.fn N.ne N.ob
    (wpAny_mono (run_sub ⟨hr.in1, rfl⟩ F hb hx I (.cons (rRef a) (.cons (rInt i t) .nil)) h) (fun w' s' ⟨z, H', I', rz, r, ez, q⟩ => ?_) fun _ _ e => e)
  subst ez
  cases (show w' = .bool r from rz)
  exact ⟨r, rfl, .bl (!r), H', I', rfl, q⟩
theorem op_neLK {K : PySem.W.Frag} (hK : X.K = K) (D : Dun K C "__eq__" f) (N : NeOf K C) (F : FnOk X.prog X.w K X.mg X.base CX k f fd ps sp) (hr : Room (k + 1) X.A) (hb : Binds K fd ps []) (hx : Passes CX X E) : OpR X (compareOp .NotEq) (rNeL K C sp E) := by
  subst hK
  exact op_neL D N F hr hb hx
theorem op_eqLK {K : PySem.W.Frag} (hK : X.K = K) (D : Dun K C "__eq__" f) (F : FnOk X.prog X.w K X.mg X.base CX k f fd ps sp) (hr : Room k X.A) (hb : Binds K fd ps []) (hx : Passes CX X E) : OpR X (compareOp .Eq) (rEqL K C sp E) := by
  subst hK
  exact op_eqL D F hr hb hx
theorem op_eqRK {K : PySem.W.Frag} (hK : X.K = K) (D : Dun K C "__eq__" f) (F : FnOk X.prog X.w K X.mg X.base CX k f fd ps sp) (hr : Room k X.A) (hb : Binds K fd ps []) (hx : Passes CX X E) : OpR X (compareOp .Eq) (rEqR K C sp E) := by
  subst hK
  exact op_eqR D F hr hb hx
end
end L2
set_option Elab.async false
set_option linter.all false
set_option maxRecDepth 100000
set_option maxHeartbeats 4000000
/-! enumerate of a tuple -/
namespace SU
open PySem PySem.Spec PyProof.Rows
open AutoSeq1 (wpAny_loadPart')
set_option maxHeartbeats 1000000 in
theorem meets_enum1 {v : Value} {o : Obj} {H : Heap → Prop} (B : Begins v o H) :
    Meets (Builtin.«enumerate.__new__» ⟨[.type "enumerate", v], []⟩) (fun _ R s => H s.heap ∧
      R (.ok (.ret (.ref (s.heap.push o).objs.size))) { s with heap := (s.heap.push o).push { cls := .type "enumerate", data := .fields #[.none, .bool false, .ref s.heap.objs.size, rawInt 0, .none, .none] } }) :=
  .of_wp fun prog w A R s h => by
    obtain ⟨hp, g, d, tk, os⟩ := s; obtain ⟨h1, h⟩ := h
    have hsub := sub_enumerate
    have q1 : ∀ {A' : Around} {E : Value → Shared → Prop} {Q : Value → Shared → Prop}, Q (.ref hp.objs.size) ⟨hp.push o, g, d, tk, os⟩ → wpAny (model prog w) A' (pyIter v) Q E ⟨hp, g, d, tk, os⟩ :=
      fun q => B.iter prog w _ _ ⟨hp, g, d, tk, os⟩ _ h1 q
    wp_walk using q1
    refine wpAny_stack_any fun st => wpAny_pure ?_
    split
    · rename_i c _ _ _ _ _
      cases (c == Value.type "enumerate")
      · wp_walk using q1
        exact ⟨_, rfl, h⟩
      · wp_walk using q1
        exact ⟨_, rfl, h⟩
    · wp_walk using q1
      exact ⟨_, rfl, h⟩
section
variable {prog : Program} {w : World} {A : Around} {E : Value → Shared → Prop} {s : Shared}
theorem enum_begins1 {v : Value} {o : Obj} {H : Heap → Prop} {Q : Value → Shared → Prop} (B : Begins v o H) (h1 : H s.heap)
    (h : ∀ h', IsEnum h' (s.heap.objs.size + 1) s.heap.objs.size 0 .none → h'.get? s.heap.objs.size = some o → h'.objs.size = s.heap.objs.size + 2 →
      (∀ b o, s.heap.get? b = some o → h'.get? b = some o) → Q (.ref (s.heap.objs.size + 1)) { s with heap := h' }) :
    wpAny (model prog w) A (call (.type "enumerate") [v]) Q E s := by
  refine callType_new F.called_enumerate (by decide) (F.typeCall_enumerate_1 _) (F.newCall_enumerate_1 _) (fun obj => F.args_object_init_2 obj _) F.entry_enumerate_new
    (meets_enum1 B) ⟨h1, ?_⟩
  have hz : (s.heap.push o).objs.size = s.heap.objs.size + 1 := Heap.size_push ..
  show _ ∧ _
  rw [hz]
  have he : IsEnum ((s.heap.push o).push { cls := .type "enumerate", data := .fields #[.none, .bool false, .ref s.heap.objs.size, rawInt 0, .none, .none] }) (s.heap.objs.size + 1) s.heap.objs.size 0 .none := by
    have := Heap.get?_push_size (s.heap.push o) (o := { cls := .type "enumerate", data := .fields #[.none, .bool false, .ref s.heap.objs.size, rawInt 0, .none, .none] }) rfl
    rw [hz] at this; exact this
  refine ⟨⟨_, he, rfl⟩, h _ he (Heap.get?_push_of_some _ (Heap.get?_push_size _ B.free)) (by rw [Heap.size_push, hz]) fun b o x => Heap.get?_push_of_some _ (Heap.get?_push_of_some _ x)⟩
end
end SU
namespace L2
open PySem PySem.Spec PyProof.Rows
/-- the tuple at a, each item in a new pair -/
def IteT (K : PySem.W.Frag) (a : Addr) : It :=
  ⟨fun i H => ∃ (xs : List V) (x : V), SqT K H a xs ∧ xs[i]? = some x, fun i H v H' => ∃ T x, v = .ref T ∧ H T = none ∧ H' = upd H T (.tup [.int (i : Nat), x]) ∧ ∀ xs, SqT K H a xs → xs[i]? = some x, fun i H => ∃ xs : List V, SqT K H a xs ∧ xs.length ≤ i⟩
theorem turn_enumT {P : Program} {w : World} {K : PySem.W.Frag} {elts : List Expr} {kk : Nat} {tpos : Pos} (a e it : Addr) :
    Turn P w K (.Tuple elts kk tpos) (IteT K a) [e, it] e (fun i h => (∃ old, IsEnum h e it ((i : Nat) : Int) old) ∧ h.IsTupleIter it a i ∧ e ≠ it) where
  mem := by simp
  obj := fun i h st b hb => by
    obtain ⟨⟨old, he⟩, ⟨o, ho, hc, hd⟩, _⟩ := st
    have e' : b = e ∨ b = it := by simpa using hb
    rcases e' with z | z
    · rw [z]; exact ⟨_, he, fun v q => nomatch q⟩
    · rw [z]; exact ⟨o, ho, fun v q => by rw [hd] at q; cases q⟩
  keep := fun i h h' st k => let ⟨⟨old, he⟩, hi, hne⟩ := st; ⟨⟨old, k e (by simp) _ he⟩, hi.at fun o q => k it (by simp) o q, hne⟩
  item := by
    intro X hP hw hK hc i pins s σ H E I hf st hg
    subst hP hw hK
    obtain ⟨⟨old, he⟩, hit, hne⟩ := st
    obtain ⟨xs, x, hq, hx⟩ := hg
    obtain ⟨its, rv, p, hz⟩ := I.tuple hq
    obtain ⟨u, hu, ru⟩ := rv.get hx
    have hel : e < s.heap.objs.size := Heap.lt_size he
    have hil : it < s.heap.objs.size := by obtain ⟨_, q, _⟩ := hit; exact Heap.lt_size q
    have pt : s.heap.IsTuple a its.toArray := p
    have tit : a ≠ it := fun z => by
      obtain ⟨o1, h1, c1, _⟩ := hit
      obtain ⟨o2, h2, c2, _⟩ := pt
      rw [z, h1] at h2
      cases h2
      rw [c1] at c2
      exact absurd c2 (by decide)
    have te : e ∉ [it, a] := fun m => by
      simp only [List.mem_cons, List.mem_nil_iff, or_false] at m
      rcases m with z | z
      · exact hne z
      · obtain ⟨o2, h2, c2, _⟩ := pt
        have he' : s.heap.get? e = _ := he
        rw [z, h2] at he'
        cases he'
        have c2 : Value.type "enumerate" = Value.type "tuple" := c2
        exact absurd c2 (by decide)
    have lt : i < its.toArray.size := by
      have h1 := (List.getElem?_eq_some_iff.mp hu).1
      simpa using h1
    refine wpAny_pyNext_enum_itemD (Draws.tuple (A := X.A.in1) (I.ok.hd hc) it a tit its.toArray) he ⟨hit, pt⟩ lt hne te fun x' h' tk hx' ho hst' hT hsz hk => ?_
    have ex : x' = u := by
      have : its.toArray[i]? = some u := by simpa using hu
      rw [this] at hx'
      exact (Option.some.inj hx').symm
    subst ex
    obtain ⟨hit', _⟩ := hst'
    refine ⟨_, rfl, wpAny_letOwnedTupleGo_enum (s := { s with heap := h', toks := tk + 1 }) ho fun h'' he' sb => ?_⟩
    have hT2 : h''.get? s.heap.objs.size = some { cls := .type "tuple", data := .seq #[.int i tk, x'] } := (sb.2 _ (Nat.ne_of_gt hel)).trans hT
    have new : ObjOk X.prog X.w (upd H s.heap.objs.size (.tup [.int (i : Nat), x])) h'' s.heap.objs.size (.tup [.int (i : Nat), x]) :=
      ⟨by show 2 ≤ sizeLine; decide, [.int i tk, x'], .cons ⟨_, rfl⟩ (.cons ru .nil), ⟨_, hT2, rfl, _, rfl⟩⟩
    have I1 : Inv X pins σ (upd H s.heap.objs.size (.tup [.int (i : Nat), x])) { s with heap := h'', toks := tk + 1 } :=
      I.turnedNew (ch := [e, it]) (fun b ob hb q => (sb.2 b (fun z => hb (by simp [z]))).trans (hk b ob (fun z => hb (by simp [z])) (fun z => hb (by simp [z])) q)) hf (Nat.le_refl _) new
    refine ⟨.ref s.heap.objs.size, _, I1, rfl, ⟨_, x, rfl, I.hok.fresh (Nat.le_refl _), rfl, fun ys hy => by rw [I.tuple_inj hy hq]; exact hx⟩, ⟨⟨x', ?_⟩, hit'.at fun o q => (sb.2 it (Ne.symm hne)).trans q, hne⟩, fun b hb => ?_⟩
    · have e1 : ((i + 1 : Nat) : Int) = (i : Int) + 1 := by omega
      rw [e1]; exact he'
    · have hb' : b < s.heap.objs.size := by
        have e' : b = e ∨ b = it := by simpa using hb
        rcases e' with z | z
        · rw [z]; exact hel
        · rw [z]; exact hil
      rw [upd_ne (Nat.ne_of_lt hb')]
      exact (hf b hb).1
  done := by
    intro X hP hw hK hc i pins s σ H E I hf st hg
    subst hP hw hK
    obtain ⟨⟨old, he⟩, hit, hne⟩ := st
    obtain ⟨xs, hq, hx⟩ := hg
    obtain ⟨its, rv, p, hz⟩ := I.tuple hq
    obtain ⟨f0, f1, f2, f3, f4, f5⟩ := hf it (by simp)
    have hl := rv.length
    have hT : s.TypeIs (.ref e) "enumerate" := ⟨_, he, rfl⟩
    unfold pyNext
    refine wpAny_bind (wpAny_attempt (wpAny_callSpecial?_slot (name := Str.ofString "__next__") hT F.slot_enumerate_next
      (wpAny_call_entry F.slot_enumerate_next hT F.entry_enumerate_next ?_ (F.args_enumerate_next_1 _))))
    show wpAny _ _ (field (.ref e) 2 >>= _) _ _ _
    refine wpAny_bind (wpAny_field he rfl (x := .ref it) rfl ?_)
    refine wpAny_bind (wpAny_nextOf_tuple_end (I.ok.hd hc) hit (show s.heap.IsTuple a its.toArray from p) (by simp; omega) fun h' x he' hx' => ?_)
    obtain ⟨o, ho, hc'⟩ := hx'
    refine wpAny_bind (wpAny_isInstance (T := "StopIteration") (b := true) ⟨o, ho, hc'⟩ isSubtype_stop ?_)
    exact wpAny_pure ⟨rfl, I.turned (t' := s.toks) (fun b o hb q => he' b o hb q) f0 f1 f3 f4 f5⟩
  self := fun A i s Q E st h => let ⟨⟨_, he⟩, _⟩ := st; wpAny_pyIter_enum he h
def iEnumT (K : PySem.W.Frag) (ta : TA) : TI := fun σ H R => ta σ H fun vs H1 => ∃ a xs, vs = [.ref a] ∧ SqT K H1 a xs ∧ R (IteT K a) H1
theorem pi_enumT {X : Cx} {e : Expr} {ta : TA} {p pos tpos : Pos} {elts : List Expr} {kk : Nat} (hg : Gl X "enumerate") (hm : X.mg "enumerate" = none) (ha : PA X [e] ta) (hs : starEach [e] X.env = [(false, eval e X.env)] := by rfl) :
    PI X (.Tuple elts kk tpos) (.Call (.Name "enumerate" p) [e] [] pos) (iEnumT X.K ta) := by
  refine ⟨fun pins s σ H R I h => ?_⟩
  refine Call_ (ld_blt I hg hm boot_enumerate (PyProof.Rows.callWith_type1 (thn (ha.run pos pins s σ H _ I h) fun us s1 ⟨vs, H1, I1, r1, q1⟩ => ?_) hs rfl))
  obtain ⟨a, xs, ex, hq, q⟩ := q1
  subst ex
  cases r1 with
  | cons r rr =>
    cases rr
    cases r
    obtain ⟨its, rv, p', hz⟩ := I1.tuple hq
    refine SU.enum_begins1 (begins_tuple a its.toArray) (show s1.heap.IsTuple a its.toArray from p') fun h' he hit hsz hk => wpAny_pyIter_enum he ?_
    have I2 : Inv X pins σ H1 { s1 with heap := h' } := I1.kept (t' := s1.toks) hk
    refine ⟨s1.heap.objs.size + 1, [s1.heap.objs.size + 1, s1.heap.objs.size], _, _, H1, rfl, I2, turn_enumT a (s1.heap.objs.size + 1) s1.heap.objs.size, ⟨⟨.none, he⟩, ⟨_, hit, rfl, rfl⟩, Nat.succ_ne_self _⟩, fun b hb => ?_, q⟩
    have e' : b = s1.heap.objs.size + 1 ∨ b = s1.heap.objs.size := by simpa using hb
    have hle : s1.heap.objs.size ≤ b := by
      rcases e' with z | z
      · rw [z]; exact Nat.le_add_right _ _
      · rw [z]; exact Nat.le_refl _
    exact I1.fpOk hle (I1.hok.fresh hle)
theorem walk_enumT {K : PySem.W.Frag} {a : Addr} {xs : List V} : Walk (IteT K a) xs.length (fun H => SqT K H a xs) (YPair (fun i => some (.int (i : Nat))) (fun i => xs[i]?)) := by
  refine ⟨fun i _ hi q => ⟨xs, xs[i], q, by simp [hi]⟩, fun _ q => ⟨xs, q, Nat.le_refl _⟩, fun i H v H' _ q y => ?_⟩
  obtain ⟨T, x, h1, h2, h3, h4⟩ := y
  exact ⟨T, .int (i : Nat), x, h1, h2, h3, rfl, h4 xs q⟩
end L2
set_option Elab.async false
set_option linter.all false
set_option maxRecDepth 100000
set_option maxHeartbeats 4000000
/-! taken over: lists of things, walks -/
namespace FR
open PySem PySem.Spec PyProof.Rows L2
def top (i : Nat) : Stmt := PySem.Challenge.pw_surelyends_k31_knots.main.body.getD i (.Pass ⟨0, 0, 0, 0⟩)
def retE : Stmt → Expr
  | .Return (some e) _ => e
  | _ => .Constant .none 0 ⟨0, 0, 0, 0⟩
def relS (sc fs : Scope) : Scope := { sc with names := sc.names.map fun (n, k) => if (k == .free && fs.kind == .function && fs.names.lookup n == some .cell) then (n, .cell) else (n, k) }
def lcEl : Expr → Expr
  | .ListComp e _ _ _ => e
  | e => e
def lcSc : Expr → Scope
  | .ListComp _ _ sc _ => sc
  | _ => defScope (.Pass ⟨0, 0, 0, 0⟩)
theorem pi_zipK {X : Cx} {K : PySem.W.Frag} {e e2 : Expr} {ta : TA} {p pos tpos : Pos} {elts : List Expr} {kk : Nat} (hK : X.K = K) (hg : Gl X "zip") (hm : X.mg "zip" = none) (ha : PA X [e, e2] ta)
    (hs : starEach [e, e2] X.env = (false, eval e X.env) :: starEach [e2] X.env := by rfl) (hpl : (backTo pos (starEach [e2] X.env)).any (·.1) = false := by rfl) :
    L2.PI X (.Tuple elts kk tpos) (.Call (.Name "zip" p) [e, e2] [] pos) (iZip K ta) := by
  subst hK
  exact pi_zip hg hm ha hs hpl
theorem ix_listK {X : Cx} {K : PySem.W.Frag} (hK : X.K = K) : IxR X (rIxL K) := by
  subst hK
  exact ix_list
theorem pg_tupK {X : Cx} {K : PySem.W.Frag} {es : List Expr} {k : Nat} {pos : Pos} {t : TGs} {n : Nat} (hK : X.K = K) (hc : X.calm = true) (h : PGs X es t)
    (hn : (assignEach es X.env).length = n := by rfl) (hst : (assignEach es X.env).findIdx? (·.1) = none := by rfl) : PG X (.Tuple es k pos) (gTup K n t) := by
  subst hK
  exact pg_tup hc h hn hst
theorem same_grow {H H' : Hp} {D : Addr} {o : HO} (hD : H D = none) (s : Same H H') : Same H (upd H' D o) := fun q o' e => by
  rw [upd_ne (ne_of_none e hD)]
  exact s _ _ e
theorem same_new {H : Hp} {p : Addr} {o : HO} (h : H p = none) : Same H (upd H p o) := fun q o' e => by rw [upd_ne (ne_of_none e h)]; exact e
theorem same_upd {H0 H : Hp} {D : Addr} {o : HO} (hD : H0 D = none) (s : Same H0 H) : Same H0 (upd H D o) := same_grow hD s
theorem take_snoc {α : Type} {l : List α} {i : Nat} {x : α} (h : l[i]? = some x) : l.take (i + 1) = l.take i ++ [x] := by
  rw [List.take_add_one, h]
  rfl
def AG {α : Type} (R : V → α → Prop) (vs : List V) (as : List α) : Prop := vs.length = as.length ∧ ∀ (i : Nat) (v : V), vs[i]? = some v → ∃ p : α, as[i]? = some p ∧ R v p
theorem AG.nil {α : Type} {R : V → α → Prop} : AG R [] [] := ⟨rfl, fun i v h => by simp at h⟩
theorem AG.snoc {α : Type} {R : V → α → Prop} {v : V} {p : α} {vs : List V} {ps : List α} (h : AG R vs ps) (r : R v p) : AG R (vs ++ [v]) (ps ++ [p]) := by
  refine ⟨by rw [List.length_append, List.length_append, h.1]; rfl, fun i w e => ?_⟩
  by_cases z : i < vs.length
  · rw [List.getElem?_append_left z] at e
    obtain ⟨q, hq, hr⟩ := h.2 i w e
    exact ⟨q, by rw [List.getElem?_append_left (by rw [← h.1]; exact z)]; exact hq, hr⟩
  · rw [List.getElem?_append_right (by omega)] at e
    have e0 : i = vs.length := by
      have := (List.getElem?_eq_some_iff.mp e).1
      rw [List.length_singleton] at this
      omega
    subst e0
    rw [Nat.sub_self] at e
    cases e
    refine ⟨p, by rw [List.getElem?_append_right (by rw [h.1]; exact Nat.le_refl _), h.1, Nat.sub_self]; rfl, r⟩
theorem AG.imp {α : Type} {R R' : V → α → Prop} {vs : List V} {ps : List α} (h : AG R vs ps) (f : ∀ v p, R v p → R' v p) : AG R' vs ps := ⟨h.1, fun i v e => by
  obtain ⟨p, hp, r⟩ := h.2 i v e
  exact ⟨p, hp, f v p r⟩⟩
theorem AG.take {α : Type} {R : V → α → Prop} {vs : List V} {ps : List α} (h : AG R vs ps) (n : Nat) : AG R (vs.take n) (ps.take n) := ⟨by rw [List.length_take, List.length_take, h.1], fun i v e => by
  rw [List.getElem?_take] at e ⊢
  split at e
  · next z => rw [if_pos z]; exact h.2 i v e
  · cases e⟩
theorem AG.uncons {α : Type} {R : V → α → Prop} {v : V} {p : α} {vs : List V} {ps : List α} (h : AG R (v :: vs) (p :: ps)) : R v p ∧ AG R vs ps := by
  obtain ⟨q, hq, r⟩ := h.2 0 v rfl
  cases hq
  exact ⟨r, by have := h.1; simpa using this, fun i w e => h.2 (i + 1) w e⟩
theorem AG.consA {β : Type} {R : V → β → Prop} {x : V} {y : β} {xs : List V} {ys : List β} (h : R x y) (g : AG R xs ys) : AG R (x :: xs) (y :: ys) := by
  refine ⟨by rw [List.length_cons, List.length_cons, g.1], fun i v hv => ?_⟩
  match i, hv with
  | 0, hv => cases hv; exact ⟨y, rfl, h⟩
  | i + 1, hv => exact g.2 i v hv
theorem AG.app {α : Type} {R : V → α → Prop} : ∀ {xs ys : List V} {as bs : List α}, AG R xs as → AG R ys bs → AG R (xs ++ ys) (as ++ bs)
  | [], ys, [], bs, _, g => g
  | [], _, _ :: _, _, h, _ => by simp [AG] at h
  | _ :: _, _, [], _, h, _ => by simp [AG] at h
  | x :: xs, ys, a :: as, bs, h, g => by
    obtain ⟨r, h⟩ := AG.uncons h
    exact AG.consA r (AG.app h g)
structure Glo (P : Program) (w : World) (K : PySem.W.Frag) (mg : Str → Option Value) (base : Heap) (nm : Str) (n : Nat) (ps : List Str) (sp : Sp) where
  f : Addr
  fd : FuncData
  G : FnOk P w K mg base CX0 n f fd ps sp
  m : mg nm = some (.ref f)
  k : PySem.W.keepIn K (.ref f) = true
  b : Binds K fd ps []
structure Met (P : Program) (w : World) (K : PySem.W.Frag) (mg : Str → Option Value) (base : Heap) (C : Addr) (nm : Str) (n : Nat) (ps : List Str) (sp : Sp) where
  f : Addr
  fd : FuncData
  D : Dun K C nm f
  kp : PySem.W.keepIn K (.ref f) = true
  G : FnOk P w K mg base CX0 n f fd ps sp
  b : Binds K fd ps []
theorem fn_weaken {P : Program} {w : World} {K : PySem.W.Frag} {mg : Str → Option Value} {base : Heap} {CX : CXT} {k : Nat} {f : Addr} {fd : FuncData} {ps : List Str} {sp sp' : Sp} (F : FnOk P w K mg base CX k f fd ps sp) (g : ∀ vs H Q E, sp' vs H Q E → sp vs H Q E) : FnOk P w K mg base CX k f fd ps sp' :=
  ⟨fun vs H Q E h => F.len vs H Q E (g vs H Q E h), fun A o s H ar us vs Q E hr e0 b r h => F.run A o s H ar us vs Q E hr e0 b r (g vs H Q E h)⟩
theorem pi_tupK {X : Cx} {K : PySem.W.Frag} {tg l : Expr} {tl : TE} (hK : X.K = K) (hl : PE X l tl) : L2.PI X tg l (iTup K tl) := by
  subst hK
  exact pi_tup hl
theorem pi_listK {X : Cx} {K : PySem.W.Frag} {tg l : Expr} {tl : TE} (hK : X.K = K) (hl : PE X l tl) : L2.PI X tg l (iList K tl) := by
  subst hK
  exact pi_list hl
theorem ix_tupK {X : Cx} {K : PySem.W.Frag} (hK : X.K = K) : IxR X (rIxT K) := by
  subst hK
  exact ix_tup
theorem call_tuple_ofK {X : Cx} {K : PySem.W.Frag} (hK : X.K = K) : CallR X (.type "tuple") (fun xs H Q => ∃ p ys, xs = [.ref p] ∧ ((SqL K H p ys ∧ ∀ l, H l = none → Q (.ref l) (upd H l (.tup ys))) ∨ (SqT K H p ys ∧ Q (.ref p) H))) := by
  subst hK
  exact call_tuple_of
theorem call_isiK {X : Cx} {K : PySem.W.Frag} (hK : X.K = K) : CallR X (.builtin "isinstance") (rIsi K) := by
  subst hK
  exact call_isi
theorem cr_allK {X : Cx} {K : PySem.W.Frag} (hK : X.K = K) (hc : X.calm = true) : CallR X (.builtin "all") (rAll K) := by
  subst hK
  exact cr_all hc
theorem call_len_seqK {X : Cx} {K : PySem.W.Frag} (hK : X.K = K) : CallR X (.builtin "len") (fun xs H Q => ∃ p ys, xs = [.ref p] ∧ (SqL K H p ys ∨ SqT K H p ys) ∧ Q (.int ys.length) H) := by
  subst hK
  exact call_len_seq
theorem pi_enumTK {X : Cx} {K : PySem.W.Frag} {e : Expr} {ta : TA} {p pos tpos : Pos} {elts : List Expr} {kk : Nat} (hK : X.K = K) (hg : Gl X "enumerate") (hm : X.mg "enumerate" = none) (ha : PA X [e] ta) (hs : starEach [e] X.env = [(false, eval e X.env)] := by rfl) :
    PI X (.Tuple elts kk tpos) (.Call (.Name "enumerate" p) [e] [] pos) (iEnumT K ta) := by
  subst hK
  exact pi_enumT hg hm ha hs
end FR
set_option Elab.async false
set_option linter.all false
set_option maxRecDepth 100000
set_option maxHeartbeats 1000000
/-! bodies of procedures; bodies_in -/
namespace FR
open PySem PySem.Spec PyProof.Rows L2
inductive St where
  | note (s : Str)
  | call (s : Str)
  | stay
  | again (a b : Int) (inner : List St)
  | choose (bs : List (List St))
  | toss (rs : List (Int × List St))
abbrev Bd := List St
def St.kids : St → List Bd
  | .again _ _ b => [b]
  | .choose bs => bs
  | .toss rs => rs.map fun r => r.2
  | _ => []
def St.word : St → Str
  | .note _ => "note"
  | .call _ => "call"
  | .stay => "stay"
  | .again _ _ _ => "again"
  | .choose _ => "choose"
  | .toss _ => "toss"
/-- a statement stands at v, its bodies by B -/
def StW (B : Hp → V → Bd → Prop) (H : Hp) (v : V) : St → Prop
  | .note s => ∃ a, v = .ref a ∧ H a = some (.tup [.str "note", .str s])
  | .call s => ∃ a, v = .ref a ∧ H a = some (.tup [.str "call", .str s])
  | .stay => ∃ a, v = .ref a ∧ H a = some (.tup [.str "stay"])
  | .again i j b => ∃ a w, v = .ref a ∧ H a = some (.tup [.str "again", .int i, .int j, w]) ∧ B H w b
  | .choose bs => ∃ a ws, v = .ref a ∧ H a = some (.tup (.str "choose" :: ws)) ∧ AG (fun w b => B H w b) ws bs
  | .toss rs => ∃ a ws, v = .ref a ∧ H a = some (.tup (.str "toss" :: ws)) ∧ AG (fun w r => ∃ p x, w = .ref p ∧ H p = some (.tup [.int r.1, x]) ∧ B H x r.2) ws rs
/-- a body, nested less than n deep -/
def BdAt : Nat → Hp → V → Bd → Prop
  | 0 => fun _ _ _ => False
  | n + 1 => fun H v b => ∃ a xs, v = .ref a ∧ H a = some (.tup xs) ∧ AG (fun w s => StW (BdAt n) H w s) xs b
abbrev StAt (n : Nat) (H : Hp) (v : V) (s : St) : Prop := StW (BdAt n) H v s
theorem stW_imp {B B' : Hp → V → Bd → Prop} {H H' : Hp} (e : ∀ a xs, H a = some (.tup xs) → H' a = some (.tup xs)) (f : ∀ v b, B H v b → B' H' v b) : ∀ {v : V} {s : St}, StW B H v s → StW B' H' v s
  | _, .note s, ⟨a, ev, h⟩ => ⟨a, ev, e _ _ h⟩
  | _, .call s, ⟨a, ev, h⟩ => ⟨a, ev, e _ _ h⟩
  | _, .stay, ⟨a, ev, h⟩ => ⟨a, ev, e _ _ h⟩
  | _, .again i j b, ⟨a, w, ev, h, g⟩ => ⟨a, w, ev, e _ _ h, f _ _ g⟩
  | _, .choose bs, ⟨a, ws, ev, h, g⟩ => ⟨a, ws, ev, e _ _ h, g.imp fun _ _ z => f _ _ z⟩
  | _, .toss rs, ⟨a, ws, ev, h, g⟩ => ⟨a, ws, ev, e _ _ h, g.imp fun _ _ ⟨p, x, e1, h1, z⟩ => ⟨p, x, e1, e _ _ h1, f _ _ z⟩⟩
/-- tuples stay: so do bodies -/
theorem bdAt_keep {H H' : Hp} (e : ∀ a xs, H a = some (.tup xs) → H' a = some (.tup xs)) : ∀ n v b, BdAt n H v b → BdAt n H' v b
  | 0, _, _, h => h.elim
  | n + 1, _, _, ⟨a, xs, ev, h, g⟩ => ⟨a, xs, ev, e _ _ h, g.imp fun _ _ z => stW_imp e (bdAt_keep e n) z⟩
theorem BdAt.same {n : Nat} {H H' : Hp} {v : V} {b : Bd} (h : BdAt n H v b) (s : Same H H') : BdAt n H' v b := bdAt_keep (fun _ _ x => s _ _ x) n v b h
theorem StAt.same {n : Nat} {H H' : Hp} {v : V} {x : St} (h : StAt n H v x) (s : Same H H') : StAt n H' v x := stW_imp (fun _ _ x => s _ _ x) (bdAt_keep (fun _ _ x => s _ _ x) n) h
theorem bdAt_up : ∀ n H v b, BdAt n H v b → BdAt (n + 1) H v b
  | 0, _, _, _, h => h.elim
  | n + 1, H, _, _, ⟨a, xs, ev, h, g⟩ => ⟨a, xs, ev, h, g.imp fun _ _ z => stW_imp (fun _ _ x => x) (fun v b y => bdAt_up n H v b y) z⟩
theorem StAt.up {n : Nat} {H : Hp} {v : V} {x : St} (h : StAt n H v x) : StAt (n + 1) H v x := stW_imp (fun _ _ x => x) (fun v b y => bdAt_up n H v b y) h
/-- the word stands first -/
theorem StAt.head {n : Nat} {H : Hp} {v : V} : ∀ {x : St}, StAt n H v x → ∃ a xs, v = .ref a ∧ H a = some (.tup (.str x.word :: xs))
  | .note _, ⟨a, ev, h⟩ => ⟨a, _, ev, h⟩
  | .call _, ⟨a, ev, h⟩ => ⟨a, _, ev, h⟩
  | .stay, ⟨a, ev, h⟩ => ⟨a, _, ev, h⟩
  | .again _ _ _, ⟨a, _, ev, h, _⟩ => ⟨a, _, ev, h⟩
  | .choose _, ⟨a, _, ev, h, _⟩ => ⟨a, _, ev, h⟩
  | .toss _, ⟨a, _, ev, h, _⟩ => ⟨a, _, ev, h⟩
theorem cut_tail (x : V) (xs : List V) : cutV (x :: xs) (some 1) none = xs ∧ ¬ (HT.sIx (x :: xs).length 0 (some 1) = 0 ∧ HT.sIx (x :: xs).length (x :: xs).length none = (x :: xs).length) := by
  have e : HT.sIx (x :: xs).length 0 (some 1) = 1 := by
    show (if (1 : Int) < 0 then ((1 : Int) + ((x :: xs).length : Int)).toNat else min (1 : Int).toNat (x :: xs).length) = 1
    rw [if_neg (by decide)]
    show min 1 (xs.length + 1) = 1
    omega
  refine ⟨?_, fun z => ?_⟩
  · unfold cutV
    rw [HT.sIx_none, e]
    show xs.take (xs.length + 1 - 1) = xs
    rw [Nat.add_sub_cancel, List.take_length]
  · rw [e] at z
    exact absurd z.1 (by decide)
section
variable {P : Program} {w : World} {K : PySem.W.Frag} {mg : Str → Option Value} {base : Heap}
abbrev sBin : Stmt := top 10
abbrev NBin : List Str := ["statement", "word", "_", "body"]
theorem scBin : FnScope NBin ["statement"] (defScope sBin) := ⟨rfl, rfl, rfl, by decide +kernel, rfl, by decide +kernel, by decide +kernel⟩
def spBin (n : Nat) : Sp := fun vs H Q _ => ∃ v x, vs = [v] ∧ StAt n H v x ∧ x.kids.length ≤ 90 ∧ ∀ a ws H', Same H H' → H' a = some (.tup ws) → AG (fun w b => BdAt n H' w b) ws x.kids → Q (.ref a) H'
theorem ok_bin {f : Addr} {fd : FuncData} {n : Nat} (F : Fun K "bodies_in" "bodies_in" sBin f fd) (mT : mg "tuple" = none) : FnOk P w K mg base CX0 1 f fd ["statement"] (spBin n) := by
  refine F.ok scBin (fun vs H Q E h => ?_) (fun cdv A outer s H vs Q E hr h => ?_)
  · obtain ⟨v, x, rfl, _⟩ := h
    rfl
  · obtain ⟨v, x, rfl, hv, few, q⟩ := h
    refine ⟨_, (pss_cons (ps_set (i := 1) scBin.nd rfl (Or.inl rfl) (pe_ix ix_tup (pv 0) pe_int (fun _ _ => rfl)))
      (pss_cons (ps_if (pt_cmpR op_eq (pv 1) pe_str (nomark _)) (pss_one (ps_ret (pe_callTy call_tuple_of (by rfl) mT (by decide +kernel) (pa_cons (pe_lc (X := (cxOf CX0 P w K mg base NBin "bodies_in" (defScope sBin) f cdv A outer s H E).nox) (own := [("_", 2), ("body", 3)]) (g := (gTup K 2 (gCons (gName 2) (gCons (gName 3) gNil)))) (tt := tYes) rfl scBin.nd (pi_tup (pe_slice sl_tupA (pv 0) (po_some pe_int) po_none)) (blkOk_by (N := NBin) (sc := defScope sBin) (by decide +kernel)) (fun _ _ _ _ _ => (pg_tupK (K := K) rfl rfl (pgs_cons (pg_name (i := 2) scBin.nd rfl (.inl rfl)) (pgs_cons (pg_name (i := 3) scBin.nd rfl (.inl rfl)) pgs_nil)))) (fun _ _ _ _ _ => pts_nil) (fun _ _ _ _ _ => (pv 3))) pa_nil)))) pss_nil)
      (pss_cons (ps_if (pt_cmpR op_eq (pv 1) pe_str (nomark _)) (pss_one (ps_ret (pe_tup (pa_cons (pe_ix ix_tup (pv 0) pe_int (fun _ _ => rfl)) pa_nil)))) pss_nil)
      (pss_cons (ps_if (pt_cmpR op_eq (pv 1) pe_str (nomark _)) (pss_one (ps_ret (pe_slice sl_tupA (pv 0) (po_some pe_int) po_none))) pss_nil)
      (pss_one (ps_ret (pe_tup pa_nil))))))), ?_⟩
    obtain ⟨a, xs, rfl, ha⟩ := hv.head
    refine ⟨_, rfl, a, _, 0, _, rfl, rfl, SqT.of ha, atI_nat (j := 0) rfl, ?_⟩
    match x, hv, few, q with
    | .note z, ⟨_, e, _⟩, few, q => exact ⟨_, rfl, rfl, _, rfl, iteF ⟨_, rfl, rfl, _, rfl, iteF ⟨_, rfl, rfl, _, rfl, iteF ⟨Nat.zero_le _, fun p hp => q p [] _ (same_new hp) upd_same AG.nil⟩⟩⟩⟩
    | .call z, ⟨_, e, _⟩, few, q => exact ⟨_, rfl, rfl, _, rfl, iteF ⟨_, rfl, rfl, _, rfl, iteF ⟨_, rfl, rfl, _, rfl, iteF ⟨Nat.zero_le _, fun p hp => q p [] _ (same_new hp) upd_same AG.nil⟩⟩⟩⟩
    | .stay, ⟨_, e, _⟩, few, q => exact ⟨_, rfl, rfl, _, rfl, iteF ⟨_, rfl, rfl, _, rfl, iteF ⟨_, rfl, rfl, _, rfl, iteF ⟨Nat.zero_le _, fun p hp => q p [] _ (same_new hp) upd_same AG.nil⟩⟩⟩⟩
    | .again i j b, ⟨a', w0, e, ha', g⟩, few, q =>
      cases e
      refine ⟨_, rfl, rfl, _, rfl, iteF ⟨_, rfl, rfl, _, rfl, iteT ?_⟩⟩
      refine ⟨_, rfl, a, _, 3, _, rfl, rfl, SqT.of ha', atI_nat (j := 3) rfl, small1000 (Nat.le_of_ble_eq_true rfl), fun p hp => ?_⟩
      have sp := same_new (o := .tup [w0]) hp
      exact q p [w0] _ sp upd_same (AG.consA (BdAt.same g sp) AG.nil)
    | .choose bs, ⟨a', ws, e, ha', g⟩, few, q =>
      cases e
      obtain ⟨ec, ew⟩ := cut_tail (.str "choose") ws
      refine ⟨_, rfl, rfl, _, rfl, iteF ⟨_, rfl, rfl, _, rfl, iteF ⟨_, rfl, rfl, _, rfl, iteT ?_⟩⟩⟩
      refine ⟨_, rfl, _, rfl, a, _, rfl, SqT.of ha', fun z => (ew z).elim, fun _ p hp => ?_⟩
      rw [ec]
      have sp := same_new (o := .tup ws) hp
      exact q p ws _ sp upd_same (g.imp fun _ _ z => BdAt.same z sp)
    | .toss rs, ⟨a', ws, e, ha', g⟩, few, q =>
      cases e
      obtain ⟨ec, ew⟩ := cut_tail (.str "toss") ws
      refine ⟨_, rfl, rfl, _, rfl, iteT ?_⟩
      refine ⟨_, rfl, _, rfl, a, _, rfl, SqT.of ha', fun z => (ew z).elim, fun _ p hp => ?_⟩
      rw [ec]
      have sp := same_new (o := .tup ws) hp
      have hp1 : upd H p (.tup ws) p = some (.tup ws) := upd_same
      have g1 := g.imp (R' := fun w0 r => ∃ p0 x, w0 = .ref p0 ∧ upd H p (.tup ws) p0 = some (.tup [.int r.1, x]) ∧ BdAt n (upd H p (.tup ws)) x r.2) fun _ _ ⟨p0, x, e1, h1, z⟩ => ⟨p0, x, e1, sp _ _ h1, BdAt.same z sp⟩
      generalize upd H p (.tup ws) = H1 at sp hp1 g1 ⊢
      have lw : ws.length ≤ 90 := by rw [g1.1]; have : (rs.map fun r => r.2).length ≤ 90 := few; rw [List.length_map] at this; exact this
      refine ⟨p, rfl, ⟨_, SqT.of hp1⟩, fun D hD => ?_⟩
      refine lc_tup (xs := ws) (fun i Hc => Same H1 Hc ∧ ∃ us, Hc D = some (.lst us) ∧ AG (fun w b => BdAt n Hc w b) us ((rs.map fun r => r.2).take i)) ⟨same_new hD, [], upd_same, AG.nil⟩ (fun i Hc _ p' => SqT.of (p'.1 _ _ hp1)) ?_ ?_
      · rintro i v Hc hvi ⟨sm, us, hDc, hu⟩
        obtain ⟨r, hr, p0, x0, rfl, h0, z⟩ := g1.2 i v hvi
        have il := (List.getElem?_eq_some_iff.mp hvi).1
        have h0 := sm _ _ h0
        have z := BdAt.same z sm
        refine ⟨p0, _, rfl, SqT.of h0, rfl, _, _, rfl, _, _, rfl, rfl, rfl, ?_⟩
        have dt : ∀ b xs, Hc b = some (.tup xs) → upd Hc D (.lst (us ++ [x0])) b = some (.tup xs) := fun b xs e => by rw [upd_ne (fun y => by rw [y, hDc] at e; cases e)]; exact e
        refine ⟨_, rfl, us, hDc, small1000 (by rw [hu.1, List.length_take, List.length_map]; have := g1.1; omega), same_upd hD sm, us ++ [x0], upd_same, ?_⟩
        have hr2 : (rs.map fun r => r.2)[i]? = some r.2 := by rw [List.getElem?_map, hr]; rfl
        rw [take_snoc hr2]
        exact AG.snoc (hu.imp fun _ _ y => bdAt_keep dt n _ _ y) (bdAt_keep dt n _ _ z)
      · rintro Hc ⟨sm, us, hDc, hu⟩
        rw [List.take_of_length_le (by rw [List.length_map, g1.1]; exact Nat.le_refl _)] at hu
        refine ⟨D, _, rfl, .inl ⟨SqL.of hDc, fun t ht => ?_⟩⟩
        have st := same_new (o := .tup us) ht
        exact q t us _ ((sp.trans sm).trans st) upd_same (hu.imp fun _ _ y => BdAt.same y st)
end
end FR
set_option Elab.async false
set_option linter.all false
set_option maxRecDepth 100000
set_option maxHeartbeats 1000000
/-! placed_statements -/
namespace FR
open PySem PySem.Spec PyProof.Rows L2
/-- all but lists stays -/
def Kt (H H' : Hp) : Prop := ∀ a o, H a = some o → (∀ xs, o ≠ .lst xs) → H' a = some o
theorem Kt.same {H H' : Hp} (s : Same H H') : Kt H H' := fun a o h _ => s a o h
theorem Kt.trans {H H1 H2 : Hp} (a : Kt H H1) (b : Kt H1 H2) : Kt H H2 := fun q o h n => b q o (a q o h n) n
theorem Kt.upd {H : Hp} {l : Addr} {xs : List V} {o : HO} (h : H l = some (.lst xs)) : Kt H (L2.upd H l o) := fun a o' e n => by
  rw [upd_ne (fun z => by rw [z, h] at e; cases e; exact n xs rfl)]; exact e
theorem Kt.tup {H H' : Hp} (k : Kt H H') {a : Addr} {xs : List V} (h : H a = some (.tup xs)) : H' a = some (.tup xs) := k a _ h fun _ z => by cases z
theorem Kt.seqT {K : PySem.W.Frag} {H H' : Hp} (k : Kt H H') {a : Addr} {xs : List V} (h : SqT K H a xs) : SqT K H' a xs := by
  rcases h with (h | ⟨o, h⟩) | h
  · exact .inl (.inl (k.tup h))
  · exact .inl (.inr ⟨o, k _ _ h fun _ z => by cases z⟩)
  · exact .inr h
theorem Kt.bd {n : Nat} {H H' : Hp} (k : Kt H H') {v : V} {b : Bd} (h : BdAt n H v b) : BdAt n H' v b := bdAt_keep (fun _ _ x => k.tup x) n v b h
theorem Kt.st {n : Nat} {H H' : Hp} (k : Kt H H') {v : V} {x : St} (h : StAt n H v x) : StAt n H' v x := stW_imp (fun _ _ x => k.tup x) (bdAt_keep (fun _ _ x => k.tup x) n) h
/-! ### what is placed -/
abbrev PL1 : Type := List Nat × St
def kidsP (pl : Bd → List Nat → List PL1) (s : St) (p : List Nat) : List PL1 := s.kids.zipIdx.flatMap fun z => pl z.1 (p ++ [z.2])
def stP (pl : Bd → List Nat → List PL1) (s : St) (p : List Nat) : List PL1 := (p, s) :: kidsP pl s p
def placed : Nat → Bd → List Nat → List PL1
  | 0, _, _ => []
  | n + 1, b, p => b.zipIdx.flatMap fun z => stP (placed n) z.1 (p ++ [z.2])
/-- few bodies in each statement -/
def FewB : Nat → Bd → Prop
  | 0, _ => True
  | n + 1, b => ∀ s ∈ b, s.kids.length ≤ 90 ∧ ∀ k ∈ s.kids, FewB n k
theorem flat_le {α β : Type} {f : α → List β} : ∀ {l : List α} {x : α}, x ∈ l → (f x).length ≤ (l.flatMap f).length
  | y :: r, x, h => by
    rw [List.flatMap_cons, List.length_append]
    rcases List.mem_cons.mp h with e | h
    · rw [e]; omega
    · have := flat_le (f := f) h; omega
theorem flat_take {α β : Type} {f : α → List β} {l : List α} {i : Nat} {x : α} (h : l[i]? = some x) : (l.take (i + 1)).flatMap f = (l.take i).flatMap f ++ f x := by
  rw [take_snoc h, List.flatMap_append, List.flatMap_cons, List.flatMap_nil, List.append_nil]
theorem flat_take_le {α β : Type} {f : α → List β} (l : List α) (i : Nat) : ((l.take i).flatMap f).length ≤ (l.flatMap f).length := by
  conv => rhs; rw [← List.take_append_drop i l, List.flatMap_append, List.length_append]
  omega
theorem zip_get {α : Type} {l : List α} {i : Nat} {x : α} (h : l[i]? = some x) : l.zipIdx[i]? = some (x, i) := by
  rw [List.getElem?_zipIdx, h]
  simp
section
variable (K : PySem.W.Frag)
/-- a place and the statement there -/
def Pl (n : Nat) (H : Hp) (z : V) (y : PL1) : Prop := ∃ t a s, z = .ref t ∧ H t = some (.tup [.ref a, s]) ∧ SqT K H a (y.1.map fun i => V.int (i : Nat)) ∧ StAt n H s y.2
end
variable {K : PySem.W.Frag}
theorem Kt.pl {n : Nat} {H H' : Hp} (k : Kt H H') {z : V} {y : PL1} (h : Pl K n H z y) : Pl K n H' z y := by
  obtain ⟨t, a, s, e, ht, ha, hs⟩ := h
  exact ⟨t, a, s, e, k.tup ht, k.seqT ha, k.st hs⟩
theorem Pl.up {n : Nat} {H : Hp} {z : V} {y : PL1} (h : Pl K n H z y) : Pl K (n + 1) H z y := by
  obtain ⟨t, a, s, e, ht, ha, hs⟩ := h
  exact ⟨t, a, s, e, ht, ha, hs.up⟩
/-- p + (i,) -/
theorem cat_path {H : Hp} {a b : Addr} {p : List Nat} {i : Nat} {Q : VK} (h : SqT K H a (p.map fun i => V.int (i : Nat))) (g : H b = some (.tup [.int (i : Nat)])) (l : p.length ≤ 900) (q : ∀ c H', Same H H' → SqT K H' c ((p ++ [i]).map fun i => V.int (i : Nat)) → Q (.ref c) H') : rCatA K (.ref a) (.ref b) H Q := by
  have e : (p ++ [i]).map (fun i => V.int (i : Nat)) = p.map (fun i => V.int (i : Nat)) ++ [V.int (i : Nat)] := by rw [List.map_append]; rfl
  refine ⟨a, b, _, _, rfl, rfl, h, SqT.of g, Nat.le_of_lt (small1000 (by rw [List.length_map]; show _ + 1 ≤ 1000; omega)), fun z => q b H (Same.refl H) ?_, fun _ (z : [V.int (i : Nat)] = []) => (List.cons_ne_nil _ _ z).elim, fun _ _ c hc => q c _ (same_new hc) ?_⟩
  · rw [e, z]; exact SqT.of g
  · rw [e]; exact SqT.of upd_same
section
variable {P : Program} {w : World} {mg : Str → Option Value} {base : Heap}
abbrev sPls : Stmt := top 13
abbrev NPls : List Str := ["body", "path", "found", "number", "statement", "at", "inner", "part"]
theorem scPls : FnScope NPls ["body", "path"] (defScope sPls) := ⟨rfl, rfl, rfl, by decide +kernel, rfl, by decide +kernel, by decide +kernel⟩
def spPls (K : PySem.W.Frag) (n : Nat) : Sp := fun vs H Q _ => ∃ v pa b p, vs = [v, .ref pa] ∧ BdAt n H v b ∧ SqT K H pa (p.map fun i => V.int (i : Nat)) ∧ FewB n b ∧ p.length + 2 * n ≤ 100 ∧ (placed n b p).length ≤ 900 ∧
  ∀ l zs H', H l = none → Same H H' → H' l = some (.lst zs) → AG (fun z y => Pl K n H' z y) zs (placed n b p) → Q (.ref l) H'
theorem ok_pls {f : Addr} {fd : FuncData} {dT : Addr} {n k : Nat} (F : FunD K "placed_statements" "placed_statements" (defArgs sPls) (defBody sPls) (defScope sPls) [V.ref dT] [] f fd) (gB : Glo P w K mg base "bodies_in" 1 ["statement"] (spBin n)) (gS : FnOk P w K mg base CX0 k f fd ["body", "path"] (spPls K n)) (k1 : 1 ≤ k)
    (mS : mg "placed_statements" = some (.ref f)) (kS : PySem.W.keepIn K (.ref f) = true) (bS : Binds K fd ["body", "path"] []) (mEn : mg "enumerate" = none) : FnOk P w K mg base CX0 (k + 1) f fd ["body", "path"] (spPls K (n + 1)) := by
  refine F.ok scPls (fun vs H Q E h => ?_) (fun cdv A outer s H vs Q E hr h => ?_)
  · obtain ⟨v, pa, b, p, rfl, _⟩ := h
    rfl
  · obtain ⟨v, pa, b, p, rfl, ⟨a, xs, rfl, ha, hx⟩, hp, few, lp, sz, q⟩ := h
    refine ⟨_, PSs.nox (X := cxOf CX0 P w K mg base NPls "placed_statements" (defScope sPls) f cdv A outer s H E) (pss_cons (ps_set (i := 2) scPls.nd rfl (Or.inl rfl) (pe_lst pa_nil))
      (pss_cons (ps_for PassesOwn.never rfl (pi_enumT (by rfl) mEn (pa_cons (pv 0) pa_nil)) (pg_tup (by rfl) (pgs_cons (pg_name (i := 3) scPls.nd rfl (.inl rfl)) (pgs_cons (pg_name (i := 4) scPls.nd rfl (.inl rfl)) pgs_nil)))
        (pss_cons (ps_set (i := 5) scPls.nd rfl (Or.inl rfl) (pe_op op_catA (pv 1) (pe_tup (pa_cons (pv 3) pa_nil))))
        (pss_cons (ps_expr (pe_bm PySem.F.plainAttrs_list PySem.F.slot_list_append PySem.F.type_list_append mt_append (pv 2) (pa_cons (pe_tup (pa_cons (pv 5) (pa_cons (pv 4) pa_nil))) pa_nil)))
        (pss_one (ps_for PassesOwn.never rfl (pi_enumT (by rfl) mEn (pa_cons (pe_call gB.G (hr.mono k1) (by rfl) gB.m gB.k gB.b .nil pass0 (pa_cons (pv 4) pa_nil)) pa_nil)) (pg_tup (by rfl) (pgs_cons (pg_name (i := 6) scPls.nd rfl (.inl rfl)) (pgs_cons (pg_name (i := 7) scPls.nd rfl (.inl rfl)) pgs_nil)))
          (pss_one (ps_expr (pe_bm PySem.F.plainAttrs_list PySem.F.slot_list_extend PySem.F.type_list_extend mt_extend (pv 2) (pa_cons (pe_call gS hr (by rfl) mS kS bS .nil pass0 (pa_cons (pv 7) (pa_cons (pe_op op_catA (pv 5) (pe_tup (pa_cons (pv 6) pa_nil))) pa_nil))) pa_nil)))))))))
      (pss_one (ps_ret (pv 2))))), ?_⟩
    refine ⟨Nat.zero_le _, fun fo hfo => ?_⟩
    have s0 := same_new (o := .lst []) hfo
    have h0 : upd H fo (.lst []) fo = some (.lst []) := upd_same
    generalize upd H fo (.lst []) = H0 at s0 h0 ⊢
    refine ⟨_, rfl, a, xs, rfl, SqT.of (s0 _ _ ha), ?_⟩
    have xl : xs.length = b.length := hx.1
    let ft : Nat → List PL1 := fun i => (b.zipIdx.take i).flatMap fun z => stP (placed n) z.1 (p ++ [z.2])
    refine for_it (walk_enumT (xs := xs)) (fun i σ Hc => Same H Hc ∧ ∃ (us : List V) (x3 x4 x5 x6 x7 : Option V), σ = [some (.ref a), some (.ref pa), some (.ref fo), x3, x4, x5, x6, x7] ∧ Hc fo = some (.lst us) ∧ AG (fun z y => Pl K (n + 1) Hc z y) us (ft i))
      ⟨s0, [], _, _, _, _, _, rfl, h0, AG.nil⟩ (fun i σ Hc _ p' => SqT.of (p'.1 _ _ ha)) ?_ ?_
    · rintro i v σ Hc H' hi ⟨sm, us, x3, x4, x5, x6, x7, rfl, hfc, hu⟩ ⟨T0, u1, u2, rfl, nT, rfl, h1, h2⟩
      have h1 : some (V.int (i : Nat)) = some u1 := h1
      cases h1
      have h2 : xs[i]? = some u2 := h2
      obtain ⟨st, hst, hs⟩ := hx.2 i u2 h2
      have il : i < b.length := (List.getElem?_eq_some_iff.mp hst).1
      obtain ⟨fk, fks⟩ := few st (List.mem_of_getElem? hst)
      have sT := same_new (o := .tup [V.int (i : Nat), u2]) nT
      have tt0 : upd Hc T0 (.tup [V.int (i : Nat), u2]) T0 = some (.tup [V.int (i : Nat), u2]) := upd_same
      refine ⟨T0, _, rfl, SqT.of tt0, rfl, _, _, rfl, _, _, rfl, rfl, ?_⟩
      have s1 := sm.trans sT
      have hf1 := sT _ _ hfc
      have k1' : Kt Hc (upd Hc T0 (.tup [V.int (i : Nat), u2])) := Kt.same sT
      generalize upd Hc T0 (.tup [V.int (i : Nat), u2]) = HA at s1 hf1 k1' ⊢
      -- the place
      refine ⟨_, rfl, _, rfl, small1000 (Nat.le_of_ble_eq_true rfl), fun p1 hp1 => ?_⟩
      have s2 := same_new (o := .tup [V.int (i : Nat)]) hp1
      refine cat_path ((Kt.same (s1.trans s2)).seqT hp) upd_same (by omega) fun ac HB sB hac => ?_
      have s3 := s2.trans sB
      have hf3 := s3 _ _ hf1
      refine ⟨_, rfl, .inl ⟨rfl, _, SqL.of hf3⟩, _, rfl, _, rfl, small1000 (Nat.le_of_ble_eq_true rfl), fun t ht => ?_⟩
      have s4 := same_new (o := .tup [V.ref ac, u2]) ht
      have ht4 : upd HB t (.tup [V.ref ac, u2]) t = some (.tup [V.ref ac, u2]) := upd_same
      have hf4 := s4 _ _ hf3
      have s04 := (s1.trans s3).trans s4
      have kc4 := (k1'.trans (Kt.same s3)).trans (Kt.same s4)
      have hac4 := (Kt.same s4).seqT hac
      generalize upd HB t (.tup [V.ref ac, u2]) = HC at ht4 hf4 s04 kc4 hac4 ⊢
      have total : (placed (n + 1) b p).length ≤ 900 := sz
      have hit : (ft (i + 1)).length ≤ 900 := Nat.le_trans (flat_take_le _ _) total
      have step : ft (i + 1) = ft i ++ stP (placed n) st (p ++ [i]) := flat_take (zip_get hst)
      have lft : us.length = (ft i).length := hu.1
      have lst_ : (ft i).length + 1 + (kidsP (placed n) st (p ++ [i])).length ≤ 900 := by
        rw [step, List.length_append] at hit
        unfold stP at hit
        rw [List.length_cons] at hit
        omega
      refine ⟨fo, us, _, rfl, rfl, hf4, small1000 (by omega), ?_⟩
      have kd := Kt.upd (o := .lst (us ++ [V.ref t])) hf4
      have hf5 : upd HC fo (.lst (us ++ [V.ref t])) fo = some (.lst (us ++ [V.ref t])) := upd_same
      have s05 : Same H (upd HC fo (.lst (us ++ [V.ref t]))) := same_upd hfo s04
      have kc5 := kc4.trans kd
      have hac5 := kd.seqT hac4
      have hs5 := ((Kt.same sm).trans kc5).st hs
      have hu5 : AG (fun z y => Pl K (n + 1) (upd HC fo (.lst (us ++ [V.ref t]))) z y) (us ++ [V.ref t]) (ft i ++ [(p ++ [i], st)]) := AG.snoc (hu.imp fun _ _ y => kc5.pl y) ⟨t, ac, u2, rfl, kd.tup ht4, hac5, hs5.up⟩
      generalize upd HC fo (.lst (us ++ [V.ref t])) = HD at hf5 s05 kc5 hac5 hs5 hu5 ⊢
      -- the bodies in it
      refine ⟨_, rfl, u2, st, rfl, hs5, fk, fun ka ks HE sE hka hks => ⟨ka, ks, rfl, SqT.of hka, ?_⟩⟩
      have kl : ks.length = st.kids.length := hks.1
      let fk_ : Nat → List PL1 := fun j => (st.kids.zipIdx.take j).flatMap fun z => placed n z.1 (p ++ [i] ++ [z.2])
      refine for_it (walk_enumT (xs := ks)) (fun j σ Hx => Same H Hx ∧ Kt HE Hx ∧ ∃ (ws : List V) (x6 x7 : Option V), σ = [some (.ref a), some (.ref pa), some (.ref fo), some (.int (i : Nat)), some u2, some (.ref ac), x6, x7] ∧ Hx fo = some (.lst ws) ∧ AG (fun z y => Pl K (n + 1) Hx z y) ws ((ft i ++ [(p ++ [i], st)]) ++ fk_ j))
        ⟨s05.trans sE, Kt.same (Same.refl _), _, _, _, rfl, sE _ _ hf5, by
          show AG _ _ ((ft i ++ [(p ++ [i], st)]) ++ [])
          rw [List.append_nil]
          exact hu5.imp fun _ _ y => (Kt.same sE).pl y⟩ (fun j σ Hx _ p' => SqT.of (p'.2.1.tup hka)) ?_ ?_
      · rintro j v σ Hx H' hj ⟨sx, kx, ws, x6, x7, rfl, hfx, hw⟩ ⟨T1, u3, u4, rfl, nT1, rfl, h3, h4⟩
        have h3 : some (V.int (j : Nat)) = some u3 := h3
        cases h3
        have h4 : ks[j]? = some u4 := h4
        obtain ⟨kb, hkb, hb⟩ := hks.2 j u4 h4
        have sT1 := same_new (o := .tup [V.int (j : Nat), u4]) nT1
        have tt1 : upd Hx T1 (.tup [V.int (j : Nat), u4]) T1 = some (.tup [V.int (j : Nat), u4]) := upd_same
        refine ⟨T1, _, rfl, SqT.of tt1, rfl, _, _, rfl, _, _, rfl, rfl, ?_⟩
        have hfx1 := sT1 _ _ hfx
        refine ⟨_, rfl, .inl ⟨rfl, _, SqL.of hfx1⟩, _, rfl, _, rfl, _, rfl, small1000 (Nat.le_of_ble_eq_true rfl), fun p2 hp2 => ?_⟩
        have sp2 := same_new (o := .tup [V.int (j : Nat)]) hp2
        have sx2 := sT1.trans sp2
        refine cat_path (((Kt.same sE).trans kx).trans (Kt.same sx2) |>.seqT hac5) upd_same (by rw [List.length_append]; show p.length + 1 ≤ 900; omega) fun kc HF sF hkc => ?_
        have sx3 := sx2.trans sF
        have stepk : fk_ (j + 1) = fk_ j ++ placed n kb (p ++ [i] ++ [j]) := flat_take (zip_get hkb)
        have lek : (fk_ (j + 1)).length ≤ (kidsP (placed n) st (p ++ [i])).length := flat_take_le _ _
        rw [stepk, List.length_append] at lek
        refine ⟨u4, kc, kb, p ++ [i] ++ [j], rfl, (kx.trans (Kt.same sx3)).bd hb, hkc, fks kb (List.mem_of_getElem? hkb), by rw [List.length_append, List.length_append]; show p.length + 1 + 1 + 2 * n ≤ 100; omega, by omega, fun l2 zs HG nl2 sG hl2 hz => ?_⟩
        have sx4 := sx3.trans sG
        have lw : ws.length = (ft i).length + 1 + (fk_ j).length := by
          have := hw.1
          rw [List.length_append, List.length_append] at this
          exact this
        have lz : zs.length = (placed n kb (p ++ [i] ++ [j])).length := hz.1
        have hfG := sx4 _ _ hfx
        refine ⟨fo, l2, ws, zs, rfl, rfl, hfG, hl2, Nat.le_of_lt (small1000 (by omega)), ?_⟩
        have kG := Kt.upd (o := .lst (ws ++ zs)) hfG
        refine ⟨same_upd hfo (sx.trans sx4), (kx.trans (Kt.same sx4)).trans kG, _, _, _, rfl, upd_same, ?_⟩
        rw [stepk, ← List.append_assoc]
        exact AG.app (hw.imp fun _ _ y => ((Kt.same sx4).trans kG).pl y) (hz.imp fun _ _ y => kG.pl y.up)
      · rintro σ Hx ⟨sx, kx, ws, x6, x7, rfl, hfx, hw⟩
        have e : fk_ ks.length = kidsP (placed n) st (p ++ [i]) := by
          show (st.kids.zipIdx.take ks.length).flatMap _ = _
          rw [List.take_of_length_le (by rw [List.length_zipIdx, kl]; exact Nat.le_refl _)]
          rfl
        rw [e, List.append_assoc] at hw
        refine ⟨sx, ws, _, _, _, _, _, rfl, hfx, ?_⟩
        rw [step]
        exact hw
    · rintro σ Hc ⟨sm, us, x3, x4, x5, x6, x7, rfl, hfc, hu⟩
      have e : ft xs.length = placed (n + 1) b p := by
        show (b.zipIdx.take xs.length).flatMap _ = _
        rw [List.take_of_length_le (by rw [List.length_zipIdx, xl]; exact Nat.le_refl _)]
        rfl
      rw [e] at hu
      exact ⟨_, rfl, q fo us Hc hfo sm hfc hu⟩
end
end FR
set_option Elab.async false
set_option linter.all false
set_option maxRecDepth 100000
set_option maxHeartbeats 1000000
/-! placed_statements at every level; statements_of -/
namespace FR
open PySem PySem.Spec PyProof.Rows L2
section
variable {P : Program} {w : World} {K : PySem.W.Frag} {mg : Str → Option Value} {base : Heap}
/-- at every level -/
theorem ok_placed {f dT : Addr} {fd : FuncData} (F : FunD K "placed_statements" "placed_statements" (defArgs sPls) (defBody sPls) (defScope sPls) [V.ref dT] [] f fd) (gB : ∀ n, Glo P w K mg base "bodies_in" 1 ["statement"] (spBin n))
    (mS : mg "placed_statements" = some (.ref f)) (kS : PySem.W.keepIn K (.ref f) = true) (bS : Binds K fd ["body", "path"] []) (mEn : mg "enumerate" = none) : ∀ n, FnOk P w K mg base CX0 (n + 1) f fd ["body", "path"] (spPls K n)
  | 0 => by
    refine F.ok scPls (fun vs H Q E h => ?_) (fun cdv A outer s H vs Q E hr h => ?_)
    · obtain ⟨v, pa, b, p, rfl, h, _⟩ := h
      exact h.elim
    · obtain ⟨v, pa, b, p, rfl, h, _⟩ := h
      exact h.elim
  | n + 1 => ok_pls F (gB n) (ok_placed F gB mS kS bS mEn n) (by omega) mS kS bS mEn
abbrev sSof : Stmt := top 14
abbrev NSof : List Str := ["body", "word", "_", "statement"]
theorem scSof : FnScope NSof ["body", "word"] (defScope sSof) := ⟨rfl, rfl, rfl, by decide +kernel, rfl, by decide +kernel, by decide +kernel⟩
/-- those of this word -/
def ofWord (n : Nat) (b : Bd) (z : Str) : List St := ((placed n b []).map fun y => y.2).filter fun x => decide (x.word = z)
def spSof (K : PySem.W.Frag) (n : Nat) : Sp := fun vs H Q _ => ∃ v b z, vs = [v, .str z] ∧ BdAt n H v b ∧ FewB n b ∧ 2 * n ≤ 100 ∧ (placed n b []).length ≤ 900 ∧ ∀ l us H', Same H H' → H' l = some (.lst us) → AG (fun v x => StAt n H' v x) us (ofWord n b z) → Q (.ref l) H'
theorem ok_sof {f fp dT : Addr} {fd fdp : FuncData} {n : Nat} (F : Fun K "statements_of" "statements_of" sSof f fd) (GP : FnOk P w K mg base CX0 (n + 1) fp fdp ["body", "path"] (spPls K n)) (mP : mg "placed_statements" = some (.ref fp)) (kP : PySem.W.keepIn K (.ref fp) = true)
    {ds : List Value} (bP : Binds K fdp ["body", "path"] ds) (vP : Vals [V.ref dT] ds) (hT : ∀ H, SqT K H dT []) : FnOk P w K mg base CX0 (n + 2) f fd ["body", "word"] (spSof K n) := by
  refine F.ok scSof (fun vs H Q E h => ?_) (fun cdv A outer s H vs Q E hr h => ?_)
  · obtain ⟨v, b, z, rfl, _⟩ := h
    rfl
  · obtain ⟨v, b, z, rfl, hb, few, n50, sz, q⟩ := h
    refine ⟨_, (pss_one (ps_ret (pe_lc (X := (cxOf CX0 P w K mg base NSof "statements_of" (defScope sSof) f cdv A outer s H E).nox) (own := [("_", 2), ("statement", 3)]) (g := (gTup K 2 (gCons (gName 2) (gCons (gName 3) gNil)))) rfl scSof.nd (pi_list (pe_call GP hr (by rfl) mP kP bP vP pass0 (pa_cons (pv 0) pa_nil))) (blkOk_by (N := NSof) (sc := defScope sSof) (by decide +kernel)) (fun _ _ _ _ _ => (pg_tupK (K := K) rfl rfl (pgs_cons (pg_name (i := 2) scSof.nd rfl (.inl rfl)) (pgs_cons (pg_name (i := 3) scSof.nd rfl (.inl rfl)) pgs_nil)))) (fun _ _ _ _ _ => (pts_one (pt_cmpR op_eq (pe_ix (ix_tupK (K := K) rfl) (pv 3) pe_int (fun _ _ => rfl)) (pv 1) (nomark _)))) (fun _ _ _ _ _ => (pv 3))))), ?_⟩
    refine ⟨_, rfl, v, dT, b, [], rfl, hb, hT H, few, by show 0 + 2 * n ≤ 100; omega, sz, fun l zs H1 nl s1 hl hz => ?_⟩
    have zl : zs.length = (placed n b []).length := hz.1
    refine ⟨l, rfl, ⟨_, SqL.of hl⟩, fun D hD => ?_⟩
    let g : Nat → List St := fun i => (((placed n b []).take i).map fun y => y.2).filter fun x => decide (x.word = z)
    refine lc_list (xs := zs) (fun i Hc => Same H1 Hc ∧ ∃ us, Hc D = some (.lst us) ∧ us.length ≤ i ∧ AG (fun v x => StAt n Hc v x) us (g i)) ⟨same_new hD, [], upd_same, Nat.le_refl _, AG.nil⟩ (fun i Hc _ p => SqL.of (p.1 _ _ hl)) ?_ ?_
    · rintro i v' Hc hvi ⟨sm, us, hDc, lu, hu⟩
      obtain ⟨y, hy, t, a, x, rfl, ht, _, hx⟩ := hz.2 i v' hvi
      have il := (List.getElem?_eq_some_iff.mp hvi).1
      have ht := sm _ _ ht
      have hx := (Kt.same sm).st hx
      obtain ⟨ax, xs, rfl, hax⟩ := hx.head
      have gs : g (i + 1) = g i ++ (if decide (y.2.word = z) = true then [y.2] else []) := by
        show (((placed n b []).take (i + 1)).map _).filter _ = _
        rw [take_snoc hy, List.map_append, List.filter_append]
        congr 1
        show List.filter _ [y.2] = _
        rw [List.filter_cons]
        split <;> rfl
      refine ⟨t, _, rfl, SqT.of ht, rfl, _, _, rfl, _, _, rfl, rfl, rfl, ?_⟩
      refine ⟨_, rfl, ax, _, 0, _, rfl, rfl, SqT.of hax, atI_nat (j := 0) rfl, _, rfl, rfl, _, rfl, ?_⟩
      have de : decide (V.str y.2.word = V.str z) = decide (y.2.word = z) := by
        by_cases h : y.2.word = z
        · rw [h, decide_eq_true rfl, decide_eq_true rfl]
        · rw [decide_eq_false h, decide_eq_false fun e => h (V.str.inj e)]
      rw [de]
      refine ite2 (fun h => ?_) (fun h => ?_)
      · rw [if_pos h] at gs
        have kd := Kt.upd (o := .lst (us ++ [V.ref ax])) hDc
        refine ⟨_, rfl, us, hDc, small1000 (by omega), same_upd hD sm, us ++ [.ref ax], upd_same, by rw [List.length_append]; show us.length + 1 ≤ i + 1; omega, ?_⟩
        rw [gs]
        exact AG.snoc (hu.imp fun _ _ y => kd.st y) (kd.st hx)
      · rw [if_neg h, List.append_nil] at gs
        exact ⟨sm, us, hDc, by omega, by rw [gs]; exact hu⟩
    · rintro Hc ⟨sm, us, hDc, _, hu⟩
      have e : g zs.length = ofWord n b z := by
        show (((placed n b []).take zs.length).map _).filter _ = _
        rw [zl, List.take_length]
        rfl
      rw [e] at hu
      exact q D us Hc (s1.trans sm) hDc hu
end
end FR
set_option Elab.async false
set_option linter.all false
set_option maxRecDepth 100000
set_option maxHeartbeats 1000000
/-! is_between, is_name, _is_weight -/
namespace FR
open PySem PySem.Spec PyProof.Rows L2
abbrev sPlain : Stmt := top 7
abbrev sBet : Stmt := top 8
abbrev sNm : Stmt := top 24
abbrev sWt : Stmt := top 29
def spPlain (K : PySem.W.Frag) : Sp := fun vs H Q _ => ∃ (v : V) (t : Value) (b1 b2 : Bool), vs = [v] ∧ TyX K H v t ∧ PySem.W.kitOne K t (.type "int") = some b1 ∧ PySem.W.kitOne K t (.type "bool") = some b2 ∧ Q (.bl (b1 && !b2)) H
section
variable {P : Program} {w : World} {K : PySem.W.Frag} {mg : Str → Option Value} {base : Heap}
theorem scP : FnScope ["value"] ["value"] (defScope sPlain) := ⟨rfl, rfl, rfl, by decide +kernel, rfl, by decide +kernel, by decide +kernel⟩
theorem ok_plain {f : Addr} {fd : FuncData} (F : Fun K "is_plain_integer" "is_plain_integer" sPlain f fd) (m1 : mg "isinstance" = none) (m2 : mg "int" = none) (m3 : mg "bool" = none) : FnOk P w K mg base CX0 1 f fd ["value"] (spPlain K) := by
  refine F.ok scP (fun vs H Q E h => ?_) (fun cdv A outer s H vs Q E hr h => ?_)
  · obtain ⟨v, _, _, _, rfl, _⟩ := h
    rfl
  · obtain ⟨v, t, b1, b2, rfl, ht, h1, h2, k⟩ := h
    refine ⟨_, pss_one (ps_ret (pe_and (pe_callB call_isi (by rfl) m1 PyProof.Rows.boot_isinstance (pa_cons (pv 0) (pa_cons (pe_bltn (v := .ty "int") (by rfl) m2 (by decide +kernel) rfl) pa_nil)))
      (pe_one (pe_not (pe_callB call_isi (by rfl) m1 PyProof.Rows.boot_isinstance (pa_cons (pv 0) (pa_cons (pe_bltn (v := .ty "bool") (by rfl) m3 (by decide +kernel) rfl) pa_nil))))))), ?_⟩
    refine ⟨_, rfl, v, _, t, _, b1, rfl, .ty _, ht, h1, _, rfl, ?_⟩
    cases b1 with
    | false => exact k
    | true => exact ⟨_, rfl, v, _, t, _, b2, rfl, .ty _, ht, h2, _, rfl, k⟩
theorem kI1 : PySem.W.kitOne K (.type "int") (.type "int") = some true := kit_ty (by decide +kernel)
theorem kI2 : PySem.W.kitOne K (.type "int") (.type "bool") = some false := kit_ty (by decide +kernel)
theorem scBet : FnScope ["value", "least", "greatest"] ["value", "least", "greatest"] (defScope sBet) := ⟨rfl, rfl, rfl, by decide +kernel, rfl, by decide +kernel, by decide +kernel⟩
def spBetX : Sp := fun vs H Q _ => ∃ i lo hi : Int, vs = [.int i, .int lo, .int hi] ∧ Q (.bl (decide (lo ≤ i) && decide (i ≤ hi))) H
theorem ok_betX {f fP : Addr} {fd fdP : FuncData} (F : Fun K "is_between" "is_between" sBet f fd) (GP : FnOk P w K mg base CX0 1 fP fdP ["value"] (spPlain K)) (mP : mg "is_plain_integer" = some (.ref fP))
    (kP : PySem.W.keepIn K (.ref fP) = true) (bP : Binds K fdP ["value"] []) : FnOk P w K mg base CX0 2 f fd ["value", "least", "greatest"] spBetX := by
  refine F.ok scBet (fun vs H Q E h => ?_) (fun cdv A outer s H vs Q E hr h => ?_)
  · obtain ⟨i, lo, hi, rfl, _⟩ := h
    rfl
  · obtain ⟨i, lo, hi, rfl, q⟩ := h
    refine ⟨_, pss_one (ps_ret (pe_and (pe_call GP hr (by rfl) mP kP bP .nil pass0 (pa_cons (pv 0) pa_nil)) (pe_one (pe_chain op_le op_le (pv 1) (pv 0) (pv 2))))), ?_⟩
    refine ⟨_, rfl, _, _, true, false, rfl, .base (.int i), kI1, kI2, _, rfl, ?_⟩
    refine ⟨_, rfl, _, rfl, _, _, rfl, rfl, _, rfl, ?_⟩
    by_cases h1 : lo ≤ i
    · rw [if_pos (decide_eq_true h1)]
      refine ⟨_, rfl, _, _, rfl, rfl, ?_⟩
      rw [decide_eq_true h1, Bool.true_and] at q
      exact q
    · rw [if_neg (by rw [decide_eq_false h1]; decide)]
      rw [decide_eq_false h1, Bool.false_and] at q
      first
      | exact q
      | (rw [decide_eq_false h1]; exact q)
end
def lets : Str := "abcdefghijklmnopqrstuvwxyz"
/-- whether it is a name -/
def nameB (z : Str) : Bool := (decide ((1 : Int) ≤ (z.length : Nat)) && decide (((z.length : Nat) : Int) ≤ 8)) && z.cps.toList.all fun c => decide (c ∈ lets.cps.toList)
section
variable {P : Program} {w : World} {K : PySem.W.Frag} {mg : Str → Option Value} {base : Heap}
abbrev NNm : List Str := ["value", "letter"]
theorem scNm : FnScope NNm ["value"] (defScope sNm) := ⟨rfl, rfl, rfl, by decide +kernel, rfl, by decide +kernel, by decide +kernel⟩
/-- a text; or no text at all -/
def spNm (K : PySem.W.Frag) : Sp := fun vs H Q _ => (∃ z, vs = [.str z] ∧ z.length ≤ sizeLine ∧ ∀ H', Same H H' → Q (.bl (nameB z)) H') ∨ (∃ v t, vs = [v] ∧ TyX K H v t ∧ PySem.W.kitOne K t (.type "str") = some false ∧ Q (.bl false) H)
structure TxtN (mg : Str → Option Value) : Prop where
  isi : mg "isinstance" = none
  str : mg "str" = none
  len : mg "len" = none
  all : mg "all" = none
  ml : ∃ t, mg "MAX_LETTERS" = some (.int 8 t)
  le : ∃ t, mg "LETTERS" = some (.str lets t)
theorem ok_nm {f : Addr} {fd : FuncData} (F : Fun K "is_name" "is_name" sNm f fd) (T : TxtN mg) (gB : Glo P w K mg base "is_between" 2 ["value", "least", "greatest"] spBetX) : FnOk P w K mg base CX0 3 f fd ["value"] (spNm K) := by
  refine F.ok scNm (fun vs H Q E h => ?_) (fun cdv A outer s H vs Q E hr h => ?_)
  · rcases h with ⟨z, rfl, _⟩ | ⟨v, t, rfl, _⟩ <;> rfl
  · obtain ⟨t1, m1⟩ := T.ml
    obtain ⟨t2, m2⟩ := T.le
    refine ⟨_, (pss_cons (ps_if (PW.pt (pw_or (pt_not (pt_val (pe_callB call_isi (by rfl) T.isi PyProof.Rows.boot_isinstance (pa_cons (pv 0) (pa_cons (pe_bltn (v := .ty "str") (by rfl) T.str (by decide +kernel) rfl) pa_nil))))) (pw_or1 (pt_not (pt_val (pe_call gB.G (hr.mono (by decide)) (by rfl) gB.m gB.k gB.b .nil pass0 (pa_cons (pe_callB call_len_str (by rfl) T.len PySem.boot_len (pa_cons (pv 0) pa_nil)) (pa_cons pe_int (pa_cons (pe_glob (v := .int 8) (by rfl) m1 ⟨t1, rfl⟩) pa_nil))))))))) (pss_one (ps_ret pe_bl)) pss_nil)
      (pss_one (ps_ret (pe_callB (cr_all rfl) (by rfl) T.all (by decide +kernel) (pa_cons (pe_lc (X := (cxOf CX0 P w K mg base NNm "is_name" (defScope sNm) f cdv A outer s H E).nox) (own := [("letter", 1)]) (g := (gName 1)) (tt := tYes) rfl scNm.nd (pi_str (pv 0)) (blkOk_by (N := NNm) (sc := defScope sNm) (by decide +kernel)) (fun _ _ _ _ _ => (pg_name (i := 1) scNm.nd rfl (.inl rfl))) (fun _ _ _ _ _ => pts_nil) (fun _ _ _ _ _ => (pe_cmpR op_in_sign (pv 1) (pe_glob (v := .str lets) (by rfl) m2 ⟨t2, rfl⟩) rfl))) pa_nil))))), ?_⟩
    rcases h with ⟨z, rfl, zl, q⟩ | ⟨v, t, rfl, ty, kt, q⟩
    · refine ⟨_, rfl, _, _, _, _, true, rfl, .ty _, .base (.str z), kit_ty (by decide +kernel), _, rfl, iteF ?_⟩
      refine ⟨_, rfl, z, rfl, zl, _, 1, 8, rfl, _, rfl, ?_⟩
      unfold nameB at q
      cases c1 : (decide ((1 : Int) ≤ (z.length : Nat)) && decide (((z.length : Nat) : Int) ≤ 8)) with
      | false =>
        rw [c1, Bool.false_and] at q
        exact iteT (q H (Same.refl H))
      | true =>
      rw [c1, Bool.true_and] at q
      have l8 : z.cps.size ≤ 8 := by
        have := of_decide_eq_true (Bool.and_eq_true_iff.mp c1).2
        have e : z.length = z.cps.size := rfl
        omega
      refine iteF ⟨_, rfl, z, rfl, fun D hD => ?_⟩
      let bs : List Bool := z.cps.toList.map fun c => decide (c ∈ lets.cps.toList)
      refine lc_it walk_str (fun i Hc => Same H Hc ∧ Hc D = some (.lst ((bs.take i).map V.bl))) ⟨same_new hD, upd_same⟩ (fun _ _ _ _ => True.intro) ?_ ?_
      · rintro i x Hc H' hi ⟨sm, hDc⟩ ⟨rfl, c, hc, rfl⟩
        have hb : bs[i]? = some (decide (c ∈ lets.cps.toList)) := by
          show (z.cps.toList.map _)[i]? = _
          rw [List.getElem?_map, Array.getElem?_toList, hc]; rfl
        refine ⟨rfl, _, rfl, c, lets, rfl, rfl, _, hDc, small1000 (by rw [List.length_map, List.length_take]; omega), same_upd hD sm, ?_⟩
        rw [take_snoc hb, List.map_append]
        exact upd_same
      · rintro Hc ⟨sm, hDc⟩
        rw [List.take_of_length_le (by show (z.cps.toList.map _).length ≤ _; rw [List.length_map, Array.length_toList]; exact Nat.le_refl _)] at hDc
        refine ⟨D, _, rfl, SqL.of hDc, ?_⟩
        have e : bs.all id = z.cps.toList.all fun c => decide (c ∈ lets.cps.toList) := by
          show (z.cps.toList.map _).all id = _
          rw [List.all_map]; rfl
        rw [e]
        exact q Hc sm
    · exact ⟨_, rfl, _, _, _, _, false, rfl, .ty _, ty, kt, _, rfl, iteT q⟩
theorem scWt : FnScope ["value"] ["value"] (defScope sWt) := ⟨rfl, rfl, rfl, by decide +kernel, rfl, by decide +kernel, by decide +kernel⟩
def spWt : Sp := fun vs H Q _ => ∃ i : Int, vs = [.int i] ∧ Q (.bl (decide (1 ≤ i) && decide (i ≤ 99))) H
theorem ok_wt {f : Addr} {fd : FuncData} (F : Fun K "_is_weight" "_is_weight" sWt f fd) {t : Tok} (m1 : mg "MAX_WEIGHT" = some (.int 99 t)) (gB : Glo P w K mg base "is_between" 2 ["value", "least", "greatest"] spBetX) : FnOk P w K mg base CX0 3 f fd ["value"] spWt := by
  refine F.ok scWt (fun vs H Q E h => ?_) (fun cdv A outer s H vs Q E hr h => ?_)
  · obtain ⟨i, rfl, _⟩ := h
    rfl
  · obtain ⟨i, rfl, q⟩ := h
    refine ⟨_, (pss_one (ps_ret (pe_call gB.G (hr.mono (by decide)) (by rfl) gB.m gB.k gB.b .nil pass0 (pa_cons (pv 0) (pa_cons pe_int (pa_cons (pe_glob (v := .int 99) (by rfl) m1 ⟨t, rfl⟩) pa_nil)))))), ?_⟩
    exact ⟨_, rfl, i, 1, 99, rfl, q⟩
end
end FR
set_option Elab.async false
set_option linter.all false
set_option maxRecDepth 100000
set_option maxHeartbeats 4000000
/-! a, *b = a tuple -/
namespace SV
open PySem PySem.Spec PyProof.Rows
theorem tail {prog : Program} {w : World} {A : Around} (hh : A.handled = none) (I ax : Addr) (hne : ax ≠ I) (items : Array Value) :
    Walks prog w A I [I, ax] [I] (items.size - 1) (fun i v => items[i + 1]? = some v) (fun i h => h.IsTupleIter I ax (i + 1) ∧ h.IsTuple ax items) where
  sub := fun b hb => by simp at hb; simp [hb]
  frame := fun _ _ _ st hk => ⟨st.1.at fun o e => hk I (by simp) o e, st.2.at fun o e => hk ax (by simp) o e⟩
  item := fun i s Q E hi st hQ => by
    have lt : i + 1 < items.size := by omega
    refine wpAny_pyNext_tuple_item st.1 st.2 (x := items[i + 1]) (by simp [lt]) fun h' hit' hs' => ?_
    exact hQ _ h' s.toks (by simp [lt]) ⟨hit', st.2.extBut hs'.extBut hne⟩ fun b o hb e => hs'.extBut b o (fun h => hb (by simp [h])) e
  done := fun s Q E st hQ => wpAny_pyNext_tuple_end hh st.1 st.2 (by simp; omega) fun h' he' => hQ h' s.toks fun b o hb e => he' b o (fun h => hb (by simp [h])) e
  self := fun _ _ _ _ st hQ => wpAny_pyIter_tupleiter st.1 hQ
section
variable {prog : Program} {w : World} {A : Around} {E : Value → Shared → Prop} {s : Shared}
theorem unpackItems_star {l : Addr} {items : Array Value} {Q : List Value → Shared → Prop} (hh : A.handled = none) (hl : s.heap.IsTuple l items) (h0 : 0 < items.size) (hz : items.size ≤ sizeLine)
    (hQ : ∀ (h' : Heap) (tk : Nat), (∀ b o, s.heap.get? b = some o → h'.get? b = some o) → s.toks ≤ tk → Q [items[0], .ref h'.objs.size] { s with heap := h'.push { cls := .type "list", data := .seq (items.toList.drop 1).toArray }, toks := tk }) :
    wpAny (model prog w) A (unpackItems (.ref l) 2 (some 1)) Q E s := by
  have hlt : l ≠ s.heap.objs.size := by obtain ⟨o, ho, _⟩ := hl; exact Nat.ne_of_lt (Heap.lt_size ho)
  unfold unpackItems
  refine wpAny_bind ?_
  unfold notIterableAtAll
  refine wpAny_bind (wpAny_specialOf hl.typeIs slot_tuple_iter.lookup ?_)
  refine wpAny_pure ?_
  simp only [Bool.false_eq_true, if_false]
  refine wpAny_bind (wpAny_holding (wpAny_pyIter_tuple hl ?_))
  have hl1 : (s.heap.push { cls := .type "tuple_iterator", data := .fields #[.ref l, .int 0 0] }).IsTuple l items := hl.push _
  have hit0 : (s.heap.push { cls := .type "tuple_iterator", data := .fields #[.ref l, .int 0 0] }).IsTupleIter s.heap.objs.size l 0 := ⟨_, Heap.get?_push_size _ rfl, rfl, rfl⟩
  refine wpAny_bind (wpAny_holding ?_)
  show wpAny _ _ (pyNext (.ref s.heap.objs.size) >>= _) _ _ _
  refine wpAny_bind (wpAny_pyNext_tuple_item hit0 hl1 (x := items[0]) (by simp [h0]) fun h1 hit1 hs1 => ?_)
  refine wpAny_bind (wpAny_holding (wpAny_pure (wpAny_pure ?_)))
  show wpAny _ _ (if ([items[0]] : List Value).length < 1 then _ else _) _ _ _
  rw [if_neg (by simp)]
  have hl2 : h1.IsTuple l items := hl1.extBut hs1.extBut hlt
  have isz : s.heap.objs.size < h1.objs.size := by obtain ⟨o, ho, _⟩ := hit1; exact Heap.lt_size ho
  have lsz : l < h1.objs.size := by obtain ⟨o, ho, _⟩ := hl2; exact Heap.lt_size ho
  refine wpAny_bind (wpAny_holding (wpAny_collect_iter (T := "tuple_iterator") (.inr (.inr (.inr rfl))) (tail (A := A.in1) hh s.heap.objs.size l hlt items).toS (fun i s' st => st.1.typeIs) ⟨hit1, hl2⟩ (fun b hb => ?_) (by simp) (fun s' acc hm hacc => ?_) (by omega)))
  · simp only [List.mem_cons, List.mem_nil_iff, or_false] at hb
    rcases hb with e | e
    · rw [e]; exact isz
    · rw [e]; exact lsz
  have ea : acc.toList = items.toList.drop 1 := by
    refine List.ext_getElem? fun j => ?_
    rw [List.getElem?_drop]
    by_cases hj : j < acc.size
    · have h2 := hacc.2 j acc[j] (by simp [hj])
      have e1 : acc.toList[j]? = some acc[j] := by simp [hj]
      rw [e1]
      have : items.toList[1 + j]? = items[j + 1]? := by rw [Nat.add_comm 1 j]; simp
      rw [this, h2]
    · have hs := hacc.1
      rw [List.getElem?_eq_none (by simpa using hj), List.getElem?_eq_none (by simp; omega)]
  rw [ea]
  show wpAny _ _ (if (items.toList.drop 1).length < 0 then _ else _) _ _ _
  rw [if_neg (by omega)]
  have tk : (items.toList.drop 1).take (items.toList.drop 1).length = items.toList.drop 1 := List.take_length
  have dr : (items.toList.drop 1).drop (items.toList.drop 1).length = [] := List.drop_length
  show wpAny _ _ (newList ((items.toList.drop 1).take (items.toList.drop 1).length) >>= fun a => pure ([items[0]] ++ [a] ++ (items.toList.drop 1).drop (items.toList.drop 1).length)) _ _ _
  rw [tk, dr]
  refine wpAny_bind (wpAny_newObj_type (wpAny_pure ?_) (by show (List.drop 1 items.toList).toArray.size ≤ sizeLine; rw [List.size_toArray, List.length_drop]; have : items.toList.length = items.size := by simp
                                                           omega))
  obtain ⟨hp, g, d, tks, os⟩ := s'
  have e1 : g = _ := hm.gens
  have e2 : d = _ := hm.drawn
  have e3 : os = _ := hm.os
  subst e1 e2 e3
  refine hQ hp tks (fun b o e => ?_) hm.toks
  have nb : b ≠ s.heap.objs.size := Nat.ne_of_lt (Heap.lt_size e)
  exact hm.heap b o (by simp [nb]) (hs1.extBut b o nb (Heap.get?_push_of_some _ e))
theorem assign_star {l : Addr} {items : Array Value} {env : Env} {t1 t2 : Expr} {p2 pos : Pos} {k} {Q : Unit → Shared → Prop} (hh : A.handled = none) (hl : s.heap.IsTuple l items) (h0 : 0 < items.size) (hz : items.size ≤ sizeLine)
    (hs : assignEach [t1, .Starred t2 p2] env = [(false, assign t1 env), (true, assign t2 env)])
    (hQ : ∀ (h' : Heap) (tk : Nat), (∀ b o, s.heap.get? b = some o → h'.get? b = some o) → s.toks ≤ tk → wpAny (model prog w) A (assignInOrder [assign t1 env, assign t2 env] [items[0], .ref h'.objs.size]) Q E { s with heap := h'.push { cls := .type "list", data := .seq (items.toList.drop 1).toArray }, toks := tk }) :
    wpAny (model prog w) A (assign (.Tuple [t1, .Starred t2 p2] k pos) env (.ref l)) Q E s := by
  rw [assign_Tuple, hs]
  refine wpAny_bind (wpAny_standAt ?_)
  unfold unpack
  exact wpAny_bind (wpAny_holding (unpackItems_star hh hl h0 hz hQ))
end
end SV
namespace L2
open PySem PySem.Spec PyProof.Rows
/-- a, *b = a tuple that isn't empty -/
def gStarT (K : PySem.W.Frag) (g1 g2 : TG) : TG := fun v σ H Q => ∃ a y ys, v = .ref a ∧ SqT K H a (y :: ys) ∧ ys.length ≤ 1000 ∧ ∀ l, H l = none → g1 y σ (upd H l (.lst ys)) fun σ1 H1 => g2 (.ref l) σ1 H1 Q
theorem pg_starT {X : Cx} {t1 t2 : Expr} {p2 pos : Pos} {k : Nat} {g1 g2 : TG} (hc : X.calm = true) (h1 : PG X t1 g1) (h2 : PG X t2 g2) (hs : assignEach [t1, .Starred t2 p2] X.env = [(false, assign t1 X.env), (true, assign t2 X.env)] := by rfl) : PG X (.Tuple [t1, .Starred t2 p2] k pos) (gStarT X.K g1 g2) := by
  refine ⟨fun pins s σ H v u Q I r hw => ?_⟩
  obtain ⟨a, y, ys, e1, hq, hl, hw⟩ := hw
  subst e1
  cases r
  obtain ⟨its, rv, pl, hz⟩ := I.tuple hq
  cases rv with
  | cons ry rys =>
    rename_i uy uys
    refine SV.assign_star (I.ok.hd hc) pl (by simp) (by have e := rys.length; simp only [List.size_toArray, List.length_cons]; have hz : (y :: ys).length ≤ sizeLine := hz; rw [List.length_cons, e] at hz; exact hz) hs fun h' tk kk _ => ?_
    have I1 : Inv X pins σ H { s with heap := h', toks := tk } := I.kept kk
    have hf : H h'.objs.size = none := I1.hok.fresh (Nat.le_refl _)
    have I2 : Inv X pins σ (upd H h'.objs.size (.lst ys)) { s with heap := h'.push { cls := .type "list", data := .seq ((uy :: uys).toArray.toList.drop 1).toArray }, toks := tk } := I1.laid (t' := tk) (fun b u e => Heap.get?_push_of_some _ e) (Nat.le_refl _) (by
      refine ⟨?_, uys, 0, rys, Heap.get?_push_size _ rfl⟩
      exact Nat.le_of_lt (small1000 hl))
    have run := hw h'.objs.size hf
    refine assignInOrder_cons (thn (h1.run pins _ σ _ y _ _ I2 ry run) fun _ s1 ⟨σ1, H1, I3, q1⟩ => ?_)
    refine assignInOrder_cons (thn (h2.run pins s1 σ1 H1 (.ref h'.objs.size) _ _ I3 rfl q1) fun _ s2 ⟨σ2, H2, I4, q2⟩ => ?_)
    exact assignInOrder_nil ⟨σ2, H2, I4, q2⟩
end L2
set_option Elab.async false
set_option linter.all false
set_option maxRecDepth 100000
set_option maxHeartbeats 1000000
/-! _inner_of -/
namespace FR
open PySem PySem.Spec PyProof.Rows L2
def wtB (i : Int) : Bool := decide (1 ≤ i) && decide (i ≤ 99)
/-- a statement that may stand in a program -/
def okS : St → Bool
  | .note z => nameB z
  | .call z => nameB z
  | .stay => true
  | .again i j _ => wtB i && wtB j
  | .choose bs => decide ((2 : Int) ≤ (bs.length : Nat)) && decide (((bs.length : Nat) : Int) ≤ 3)
  | .toss rs => (decide ((2 : Int) ≤ (rs.length : Nat)) && decide (((rs.length : Nat) : Int) ≤ 4)) && rs.all fun r => wtB r.1
structure TxtI (mg : Str → Option Value) : Prop where
  isi : mg "isinstance" = none
  tup : mg "tuple" = none
  str : mg "str" = none
  len : mg "len" = none
  all : mg "all" = none
theorem name_len {z : Str} (h : nameB z = true) : z.length ≤ sizeLine := by
  unfold nameB at h
  have := of_decide_eq_true (Bool.and_eq_true_iff.mp (Bool.and_eq_true_iff.mp h).1).2
  exact Nat.le_of_lt (small1000 (by omega))
section
variable {P : Program} {w : World} {K : PySem.W.Frag} {mg : Str → Option Value} {base : Heap}
abbrev sBr : Stmt := top 28
theorem scBr : FnScope ["value"] ["value"] (defScope sBr) := ⟨rfl, rfl, rfl, by decide +kernel, rfl, by decide +kernel, by decide +kernel⟩
def spBr : Sp := fun vs H Q _ => ∃ p i x, vs = [.ref p] ∧ H p = some (.tup [.int i, x]) ∧ Q (.bl (wtB i)) H
theorem ok_br {f : Addr} {fd : FuncData} (F : Fun K "_is_branch" "_is_branch" sBr f fd) (T : TxtI mg) (gW : Glo P w K mg base "_is_weight" 3 ["value"] spWt) : FnOk P w K mg base CX0 4 f fd ["value"] spBr := by
  refine F.ok scBr (fun vs H Q E h => ?_) (fun cdv A outer s H vs Q E hr h => ?_)
  · obtain ⟨p, i, x, rfl, _⟩ := h
    rfl
  · obtain ⟨p, i, x, rfl, hp, q⟩ := h
    refine ⟨_, (pss_one (ps_ret (pe_and (pe_callB call_isi (by rfl) T.isi PyProof.Rows.boot_isinstance (pa_cons (pv 0) (pa_cons (pe_bltn (v := .ty "tuple") (by rfl) T.tup (by decide +kernel) rfl) pa_nil))) (pe_and (pe_cmpR op_eq (pe_callB call_len_seq (by rfl) T.len PySem.boot_len (pa_cons (pv 0) pa_nil)) pe_int (nomark _)) (pe_one (pe_call gW.G (hr.mono (by decide)) (by rfl) gW.m gW.k gW.b .nil pass0 (pa_cons (pe_ix ix_tup (pv 0) pe_int (fun _ _ => rfl)) pa_nil))))))), ?_⟩
    refine ⟨_, rfl, _, _, _, _, true, rfl, .ty _, .base (.tup hp), kit_ty (by decide +kernel), _, rfl, iteT ?_⟩
    refine ⟨_, rfl, p, _, rfl, .inr (SqT.of hp), rfl, _, rfl, ?_⟩
    refine iteT ⟨_, rfl, p, _, 0, _, rfl, rfl, SqT.of hp, atI_nat (j := 0) rfl, i, rfl, q⟩
abbrev sInn : Stmt := top 27
abbrev NInn : List Str := ["value", "word", "parts", "part"]
theorem scInn : FnScope NInn ["value"] (defScope sInn) := ⟨rfl, rfl, rfl, by decide +kernel, rfl, by decide +kernel, by decide +kernel⟩
def spInn (n : Nat) : Sp := fun vs H Q _ => ∃ v x, vs = [v] ∧ StAt n H v x ∧ okS x = true ∧ ∀ l us H', Same H H' → H' l = some (.lst us) → AG (fun w b => BdAt n H' w b) us x.kids → Q (.ref l) H'
theorem ok_inn {f : Addr} {fd : FuncData} {n : Nat} (F : Fun K "_inner_of" "_inner_of" sInn f fd) (T : TxtI mg) (gB : Glo P w K mg base "is_between" 2 ["value", "least", "greatest"] spBetX) (gN : Glo P w K mg base "is_name" 3 ["value"] (spNm K)) (gW : Glo P w K mg base "_is_weight" 3 ["value"] spWt) (gBr : Glo P w K mg base "_is_branch" 4 ["value"] spBr) : FnOk P w K mg base CX0 5 f fd ["value"] (spInn n) := by
  refine F.ok scInn (fun vs H Q E h => ?_) (fun cdv A outer s H vs Q E hr h => ?_)
  · obtain ⟨v, x, rfl, _⟩ := h
    rfl
  · obtain ⟨v, x, rfl, hv, ok, q⟩ := h
    refine ⟨_, (pss_cons (ps_if (PW.pt (pw_or (pt_not (pt_val (pe_callB call_isi (by rfl) T.isi PyProof.Rows.boot_isinstance (pa_cons (pv 0) (pa_cons (pe_bltn (v := .ty "tuple") (by rfl) T.tup (by decide +kernel) rfl) pa_nil))))) (pw_or (pt_cmpR op_eq (pe_callB call_len_seq (by rfl) T.len PySem.boot_len (pa_cons (pv 0) pa_nil)) pe_int (nomark _)) (pw_or1 (pt_not (pt_val (pe_callB call_isi (by rfl) T.isi PyProof.Rows.boot_isinstance (pa_cons (pe_ix ix_tup (pv 0) pe_int (fun _ _ => rfl)) (pa_cons (pe_bltn (v := .ty "str") (by rfl) T.str (by decide +kernel) rfl) pa_nil))))))))) (pss_one (ps_ret pe_non)) pss_nil)
      (pss_cons (ps_asg (pv 0) (pg_starT rfl (pg_name (i := 1) scInn.nd rfl (.inl rfl)) (pg_name (i := 2) scInn.nd rfl (.inl rfl))))
      (pss_cons (ps_if (pt_cmpR op_in_seq (pv 1) (pe_tup (pa_cons pe_str (pa_cons pe_str pa_nil))) rfl) (pss_one (ps_ret (pe_ifExp (PW.pt (pw_and (pt_cmpR op_eq (pe_callB call_len_seq (by rfl) T.len PySem.boot_len (pa_cons (pv 2) pa_nil)) pe_int (nomark _)) (pw_and1 (pt_val (pe_call gN.G (hr.mono (by decide)) (by rfl) gN.m gN.k gN.b .nil pass0 (pa_cons (pe_ix ix_list (pv 2) pe_int (fun _ _ => rfl)) pa_nil)))))) (pe_lst pa_nil) pe_non))) pss_nil)
      (pss_cons (ps_if (pt_cmpR op_eq (pv 1) pe_str (nomark _)) (pss_one (ps_ret (pe_ifExp (pt_cmpR op_eq (pe_callB call_len_seq (by rfl) T.len PySem.boot_len (pa_cons (pv 2) pa_nil)) pe_int (nomark _)) (pe_lst pa_nil) pe_non))) pss_nil)
      (pss_cons (ps_if (pt_cmpR op_eq (pv 1) pe_str (nomark _)) (pss_one (ps_ret (pe_ifExp (PW.pt (pw_and (pt_cmpR op_eq (pe_callB call_len_seq (by rfl) T.len PySem.boot_len (pa_cons (pv 2) pa_nil)) pe_int (nomark _)) (pw_and (pt_val (pe_call gW.G (hr.mono (by decide)) (by rfl) gW.m gW.k gW.b .nil pass0 (pa_cons (pe_ix ix_list (pv 2) pe_int (fun _ _ => rfl)) pa_nil))) (pw_and1 (pt_val (pe_call gW.G (hr.mono (by decide)) (by rfl) gW.m gW.k gW.b .nil pass0 (pa_cons (pe_ix ix_list (pv 2) pe_int (fun _ _ => rfl)) pa_nil))))))) (pe_slice sl_list (pv 2) (po_some pe_int) po_none) pe_non))) pss_nil)
      (pss_cons (ps_if (pt_cmpR op_eq (pv 1) pe_str (nomark _)) (pss_one (ps_ret (pe_ifExp (pt_val (pe_call gB.G (hr.mono (by decide)) (by rfl) gB.m gB.k gB.b .nil pass0 (pa_cons (pe_callB call_len_seq (by rfl) T.len PySem.boot_len (pa_cons (pv 2) pa_nil)) (pa_cons pe_int (pa_cons pe_int pa_nil))))) (pv 2) pe_non))) pss_nil)
      (pss_cons (ps_if (PW.pt (pw_and (pt_cmpR op_eq (pv 1) pe_str (nomark _)) (pw_and (pt_val (pe_call gB.G (hr.mono (by decide)) (by rfl) gB.m gB.k gB.b .nil pass0 (pa_cons (pe_callB call_len_seq (by rfl) T.len PySem.boot_len (pa_cons (pv 2) pa_nil)) (pa_cons pe_int (pa_cons pe_int pa_nil))))) (pw_and1 (pt_val (pe_callB (cr_all rfl) (by rfl) T.all (by decide +kernel) (pa_cons (pe_lc (X := (cxOf CX0 P w K mg base NInn "_inner_of" (defScope sInn) f cdv A outer s H E).nox) (own := [("part", 3)]) (g := (gName 3)) (tt := tYes) rfl scInn.nd (pi_list (pv 2)) (blkOk_by (N := NInn) (sc := defScope sInn) (by decide +kernel)) (fun _ _ _ _ _ => (pg_name (i := 3) scInn.nd rfl (.inl rfl))) (fun _ _ _ _ _ => pts_nil) (fun _ _ _ _ _ => (pe_call gBr.G (hr.mono (by decide)) (by rfl) gBr.m gBr.k gBr.b .nil pass0 (pa_cons (pv 3) pa_nil)))) pa_nil))))))) (pss_one (ps_ret (pe_lc (X := (cxOf CX0 P w K mg base NInn "_inner_of" (defScope sInn) f cdv A outer s H E).nox) (own := [("part", 3)]) (g := (gName 3)) (tt := tYes) rfl scInn.nd (pi_list (pv 2)) (blkOk_by (N := NInn) (sc := defScope sInn) (by decide +kernel)) (fun _ _ _ _ _ => (pg_name (i := 3) scInn.nd rfl (.inl rfl))) (fun _ _ _ _ _ => pts_nil) (fun _ _ _ _ _ => (pe_ix (ix_tupK (K := K) rfl) (pv 3) pe_int (fun _ _ => rfl)))))) pss_nil)
      (pss_one (ps_ret pe_non))))))))), ?_⟩
    obtain ⟨a, xs, rfl, ha⟩ := hv.head
    refine ⟨_, rfl, _, _, _, _, true, rfl, .ty _, .base (.tup ha), kit_ty (by decide +kernel), _, rfl, iteF ?_⟩
    refine ⟨_, rfl, a, _, rfl, .inr (SqT.of ha), rfl, _, rfl, ?_⟩
    have lx : decide (V.int ((.str x.word :: xs : List V).length : Nat) = V.int 0) = false := decide_eq_false fun z => by
      have := V.int.inj z
      rw [List.length_cons] at this
      omega
    rw [lx]
    refine iteF ⟨_, rfl, a, _, 0, _, rfl, rfl, SqT.of ha, atI_nat (j := 0) rfl, _, _, _, _, true, rfl, .ty _, .base (.str x.word), kit_ty (by decide +kernel), _, rfl, iteF ?_⟩
    match x, hv, ok, q with
    | .note z, ⟨_, e, hz⟩, ok, q =>
      cases e
      rw [hz] at ha
      cases ha
      have ok : nameB z = true := ok
      refine ⟨_, rfl, a, _, _, rfl, SqT.of hz, by show 1 ≤ 1000; decide, fun l hl => ?_⟩
      have s1 := same_new (o := .lst [V.str z]) hl
      have hl1 : upd H l (.lst [V.str z]) l = some (.lst [V.str z]) := upd_same
      generalize upd H l (.lst [V.str z]) = H1 at s1 hl1 ⊢
      refine ⟨_, rfl, small1000 (Nat.le_of_ble_eq_true rfl), fun p2 hp2 => ⟨p2, _, rfl, .inr (SqT.of upd_same), rfl, rfl, _, rfl, ?_⟩⟩
      have s2 := same_new (o := .tup [V.str "note", V.str "call"]) hp2
      have ei : inV (V.str "note") [V.str "note", V.str "call"] = true := by decide +kernel
      refine ite2 (fun _ => ?_) (fun h => (h ei).elim)
      refine ⟨_, rfl, l, _, rfl, .inl (SqL.of (s2 _ _ hl1)), rfl, _, rfl, iteT ⟨_, rfl, l, _, 0, _, rfl, rfl, SqL.of (s2 _ _ hl1), atI_nat (j := 0) rfl, .inl ⟨z, rfl, name_len ok, fun H3 s3 => ⟨_, rfl, ?_⟩⟩⟩⟩
      rw [ok]
      exact iteT ⟨Nat.zero_le _, fun p hp => q p [] _ (((s1.trans s2).trans s3).trans (same_new hp)) upd_same AG.nil⟩
    | .call z, ⟨_, e, hz⟩, ok, q =>
      cases e
      rw [hz] at ha
      cases ha
      have ok : nameB z = true := ok
      refine ⟨_, rfl, a, _, _, rfl, SqT.of hz, by show 1 ≤ 1000; decide, fun l hl => ?_⟩
      have s1 := same_new (o := .lst [V.str z]) hl
      have hl1 : upd H l (.lst [V.str z]) l = some (.lst [V.str z]) := upd_same
      generalize upd H l (.lst [V.str z]) = H1 at s1 hl1 ⊢
      refine ⟨_, rfl, small1000 (Nat.le_of_ble_eq_true rfl), fun p2 hp2 => ⟨p2, _, rfl, .inr (SqT.of upd_same), rfl, rfl, _, rfl, ?_⟩⟩
      have s2 := same_new (o := .tup [V.str "note", V.str "call"]) hp2
      have ei : inV (V.str "call") [V.str "note", V.str "call"] = true := by decide +kernel
      refine ite2 (fun _ => ?_) (fun h => (h ei).elim)
      refine ⟨_, rfl, l, _, rfl, .inl (SqL.of (s2 _ _ hl1)), rfl, _, rfl, iteT ⟨_, rfl, l, _, 0, _, rfl, rfl, SqL.of (s2 _ _ hl1), atI_nat (j := 0) rfl, .inl ⟨z, rfl, name_len ok, fun H3 s3 => ⟨_, rfl, ?_⟩⟩⟩⟩
      rw [ok]
      exact iteT ⟨Nat.zero_le _, fun p hp => q p [] _ (((s1.trans s2).trans s3).trans (same_new hp)) upd_same AG.nil⟩
    | .stay, ⟨_, e, hz⟩, ok, q =>
      cases e
      rw [hz] at ha
      cases ha
      refine ⟨_, rfl, a, _, _, rfl, SqT.of hz, Nat.zero_le _, fun l hl => ?_⟩
      have s1 := same_new (o := .lst []) hl
      have hl1 : upd H l (.lst []) l = some (.lst []) := upd_same
      generalize upd H l (.lst []) = H1 at s1 hl1 ⊢
      refine ⟨_, rfl, small1000 (Nat.le_of_ble_eq_true rfl), fun p2 hp2 => ⟨p2, _, rfl, .inr (SqT.of upd_same), rfl, rfl, _, rfl, ?_⟩⟩
      have s2 := same_new (o := .tup [V.str "note", V.str "call"]) hp2
      have ei : inV (V.str "stay") [V.str "note", V.str "call"] = false := by decide +kernel
      refine ite2 (fun h => absurd h (by rw [show (if false = true then !inV (V.str "stay") [V.str "note", V.str "call"] else inV (V.str "stay") [V.str "note", V.str "call"]) = inV (V.str "stay") [V.str "note", V.str "call"] from rfl, ei]; decide)) (fun _ => ?_)
      have s12 := s1.trans s2
      have hl2 := s2 _ _ hl1
      generalize upd H1 p2 (.tup [V.str "note", V.str "call"]) = H2 at s12 hl2 ⊢
      refine ⟨_, rfl, rfl, _, rfl, iteT ?_⟩
      exact ⟨_, rfl, l, _, rfl, .inl (SqL.of hl2), rfl, _, rfl, iteT ⟨Nat.zero_le _, fun p hp => q p [] _ (s12.trans (same_new hp)) upd_same AG.nil⟩⟩
    | .again i j b, ⟨a', w0, e, ha', g⟩, ok, q =>
      cases e
      rw [ha'] at ha
      cases ha
      refine ⟨_, rfl, a, _, _, rfl, SqT.of ha', by show 3 ≤ 1000; decide, fun l hl => ?_⟩
      have s1 := same_new (o := .lst [V.int i, V.int j, w0]) hl
      have hl1 : upd H l (.lst [V.int i, V.int j, w0]) l = some (.lst [V.int i, V.int j, w0]) := upd_same
      generalize upd H l (.lst [V.int i, V.int j, w0]) = H1 at s1 hl1 ⊢
      refine ⟨_, rfl, small1000 (Nat.le_of_ble_eq_true rfl), fun p2 hp2 => ⟨p2, _, rfl, .inr (SqT.of upd_same), rfl, rfl, _, rfl, ?_⟩⟩
      have s2 := same_new (o := .tup [V.str "note", V.str "call"]) hp2
      have ei : inV (V.str "again") [V.str "note", V.str "call"] = false := by decide +kernel
      refine ite2 (fun h => absurd h (by rw [show (if false = true then !inV (V.str "again") [V.str "note", V.str "call"] else inV (V.str "again") [V.str "note", V.str "call"]) = inV (V.str "again") [V.str "note", V.str "call"] from rfl, ei]; decide)) (fun _ => ?_)
      have s12 := s1.trans s2
      have hl2 := s2 _ _ hl1
      generalize upd H1 p2 (.tup [V.str "note", V.str "call"]) = H2 at s12 hl2 ⊢
      have ok : (wtB i && wtB j) = true := ok
      obtain ⟨o1, o2⟩ := Bool.and_eq_true_iff.mp ok
      refine ⟨_, rfl, rfl, _, rfl, iteF ⟨_, rfl, rfl, _, rfl, iteT ?_⟩⟩
      refine ⟨_, rfl, l, _, rfl, .inl (SqL.of hl2), rfl, _, rfl, iteT ?_⟩
      refine ⟨_, rfl, l, _, 0, _, rfl, rfl, SqL.of hl2, atI_nat (j := 0) rfl, i, rfl, _, rfl, ?_⟩
      have o1 : (decide (1 ≤ i) && decide (i ≤ 99)) = true := o1
      have o2 : (decide (1 ≤ j) && decide (j ≤ 99)) = true := o2
      rw [o1]
      refine iteT ⟨_, rfl, l, _, 1, _, rfl, rfl, SqL.of hl2, atI_nat (j := 1) rfl, j, rfl, _, rfl, ?_⟩
      rw [o2]
      refine iteT ⟨_, rfl, _, rfl, l, _, rfl, SqL.of hl2, fun p hp => ?_⟩
      have sp := same_new (o := .lst (cutV [V.int i, V.int j, w0] (some 2) none)) hp
      have hp1 : upd H2 p (.lst (cutV [V.int i, V.int j, w0] (some 2) none)) p = some (.lst [w0]) := upd_same
      exact q p [w0] _ (s12.trans sp) hp1 (AG.consA (BdAt.same g (s12.trans sp)) AG.nil)
    | .choose bs, ⟨a', ws, e, ha', g⟩, ok, q =>
      cases e
      rw [ha'] at ha
      cases ha
      have ok : (decide ((2 : Int) ≤ (bs.length : Nat)) && decide (((bs.length : Nat) : Int) ≤ 3)) = true := ok
      have lb : xs.length ≤ 3 := by
        have := of_decide_eq_true (Bool.and_eq_true_iff.mp ok).2
        rw [g.1]; omega
      refine ⟨_, rfl, a, _, _, rfl, SqT.of ha', by have := lb; omega, fun l hl => ?_⟩
      have s1 := same_new (o := .lst xs) hl
      have hl1 : upd H l (.lst xs) l = some (.lst xs) := upd_same
      generalize upd H l (.lst xs) = H1 at s1 hl1 ⊢
      refine ⟨_, rfl, small1000 (Nat.le_of_ble_eq_true rfl), fun p2 hp2 => ⟨p2, _, rfl, .inr (SqT.of upd_same), rfl, rfl, _, rfl, ?_⟩⟩
      have s2 := same_new (o := .tup [V.str "note", V.str "call"]) hp2
      have ei : inV (V.str "choose") [V.str "note", V.str "call"] = false := by decide +kernel
      refine ite2 (fun h => absurd h (by rw [show (if false = true then !inV (V.str "choose") [V.str "note", V.str "call"] else inV (V.str "choose") [V.str "note", V.str "call"]) = inV (V.str "choose") [V.str "note", V.str "call"] from rfl, ei]; decide)) (fun _ => ?_)
      have s12 := s1.trans s2
      have hl2 := s2 _ _ hl1
      generalize upd H1 p2 (.tup [V.str "note", V.str "call"]) = H2 at s12 hl2 ⊢
      refine ⟨_, rfl, rfl, _, rfl, iteF ⟨_, rfl, rfl, _, rfl, iteF ⟨_, rfl, rfl, _, rfl, iteT ?_⟩⟩⟩
      refine ⟨_, rfl, l, _, rfl, .inl (SqL.of hl2), _, 2, 3, rfl, _, rfl, ?_⟩
      rw [g.1, ok]
      exact iteT ⟨_, rfl, q l xs H2 s12 hl2 (g.imp fun _ _ z => BdAt.same z s12)⟩
    | .toss rs, ⟨a', ws, e, ha', g⟩, ok, q =>
      cases e
      rw [ha'] at ha
      cases ha
      have ok : ((decide ((2 : Int) ≤ (rs.length : Nat)) && decide (((rs.length : Nat) : Int) ≤ 4)) && rs.all fun r => wtB r.1) = true := ok
      obtain ⟨ok1, ok2⟩ := Bool.and_eq_true_iff.mp ok
      have lb : xs.length ≤ 4 := by
        have := of_decide_eq_true (Bool.and_eq_true_iff.mp ok1).2
        rw [g.1]; omega
      refine ⟨_, rfl, a, _, _, rfl, SqT.of ha', by have := lb; omega, fun l hl => ?_⟩
      have s1 := same_new (o := .lst xs) hl
      have hl1 : upd H l (.lst xs) l = some (.lst xs) := upd_same
      generalize upd H l (.lst xs) = H1 at s1 hl1 ⊢
      refine ⟨_, rfl, small1000 (Nat.le_of_ble_eq_true rfl), fun p2 hp2 => ⟨p2, _, rfl, .inr (SqT.of upd_same), rfl, rfl, _, rfl, ?_⟩⟩
      have s2 := same_new (o := .tup [V.str "note", V.str "call"]) hp2
      have ei : inV (V.str "toss") [V.str "note", V.str "call"] = false := by decide +kernel
      refine ite2 (fun h => absurd h (by rw [show (if false = true then !inV (V.str "toss") [V.str "note", V.str "call"] else inV (V.str "toss") [V.str "note", V.str "call"]) = inV (V.str "toss") [V.str "note", V.str "call"] from rfl, ei]; decide)) (fun _ => ?_)
      have s12 := s1.trans s2
      have hl2 := s2 _ _ hl1
      generalize upd H1 p2 (.tup [V.str "note", V.str "call"]) = H2 at s12 hl2 ⊢
      refine ⟨_, rfl, rfl, _, rfl, iteF ⟨_, rfl, rfl, _, rfl, iteF ⟨_, rfl, rfl, _, rfl, iteF ⟨_, rfl, rfl, _, rfl, iteT ?_⟩⟩⟩⟩
      refine ⟨_, rfl, l, _, rfl, .inl (SqL.of hl2), _, 2, 4, rfl, _, rfl, ?_⟩
      rw [g.1, ok1]
      have g2 := g.imp (R' := fun w0 r => ∃ p0 x, w0 = .ref p0 ∧ H2 p0 = some (.tup [.int r.1, x]) ∧ BdAt n H2 x r.2) fun _ _ ⟨p0, x, e1, h1, z⟩ => ⟨p0, x, e1, s12 _ _ h1, BdAt.same z s12⟩
      refine iteT ⟨_, rfl, l, rfl, ⟨_, SqL.of hl2⟩, fun D hD => ?_⟩
      refine lc_list (xs := xs) (fun i Hc => Same H2 Hc ∧ Hc D = some (.lst (((rs.take i).map fun r => wtB r.1).map V.bl))) ⟨same_new hD, upd_same⟩ (fun i Hc _ p' => SqL.of (p'.1 _ _ hl2)) ?_ ?_
      · rintro i v Hc hvi ⟨sm, hDc⟩
        obtain ⟨r, hr, p0, x0, rfl, h0, z⟩ := g2.2 i v hvi
        have il := (List.getElem?_eq_some_iff.mp hvi).1
        refine ⟨rfl, _, rfl, p0, r.1, x0, rfl, sm _ _ h0, _, hDc, small1000 (by rw [List.length_map, List.length_map, List.length_take]; omega), same_upd hD sm, ?_⟩
        rw [take_snoc hr, List.map_append, List.map_append]
        exact upd_same
      rintro H3 ⟨s3, hD3⟩
      rw [List.take_of_length_le (by rw [g.1]; exact Nat.le_refl _)] at hD3
      refine ⟨D, _, rfl, SqL.of hD3, _, rfl, ?_⟩
      have ea : (rs.map fun r => wtB r.1).all id = rs.all fun r => wtB r.1 := by rw [List.all_map]; rfl
      rw [ea, ok2]
      have hl3 := s3 _ _ hl2
      refine iteT ⟨_, rfl, l, rfl, ⟨_, SqL.of hl3⟩, fun D2 hD2 => ?_⟩
      refine lc_list (xs := xs) (fun i Hc => Same H3 Hc ∧ ∃ us, Hc D2 = some (.lst us) ∧ AG (fun w b => BdAt n Hc w b) us ((rs.take i).map fun r => r.2)) ⟨same_new hD2, [], upd_same, AG.nil⟩ (fun i Hc _ p' => SqL.of (p'.1 _ _ hl3)) ?_ ?_
      · rintro i v Hc hvi ⟨sm, us, hDc, hu⟩
        obtain ⟨r, hr, p0, x0, rfl, h0, z⟩ := g2.2 i v hvi
        have il := (List.getElem?_eq_some_iff.mp hvi).1
        have h0 := sm _ _ (s3 _ _ h0)
        have z := BdAt.same z (s3.trans sm)
        have kd := Kt.upd (o := .lst (us ++ [x0])) hDc
        refine ⟨rfl, _, rfl, p0, _, 1, _, rfl, rfl, SqT.of h0, atI_nat (j := 1) rfl, us, hDc, small1000 (by rw [hu.1, List.length_map, List.length_take]; omega), same_upd hD2 sm, us ++ [x0], upd_same, ?_⟩
        rw [take_snoc hr, List.map_append]
        exact AG.snoc (hu.imp fun _ _ y => kd.bd y) (kd.bd z)
      · rintro Hc ⟨sm, us, hDc, hu⟩
        rw [List.take_of_length_le (by rw [g.1]; exact Nat.le_refl _)] at hu
        exact q D2 us Hc ((s12.trans s3).trans sm) hDc hu
end
end FR
set_option Elab.async false
set_option linter.all false
set_option maxRecDepth 100000
set_option maxHeartbeats 1000000
/-! _left_behind -/
namespace FR
open PySem PySem.Spec PyProof.Rows L2
/-- how many statements -/
def cnt : Nat → Bd → Nat
  | 0, _ => 0
  | n + 1, b => b.length + (b.map fun s => (s.kids.map (cnt n)).sum).sum
def okB : Nat → Bd → Prop
  | 0, _ => True
  | n + 1, b => ∀ s ∈ b, okS s = true ∧ ∀ k ∈ s.kids, okB n k
theorem sum_take {α : Type} {f : α → Nat} {l : List α} {i : Nat} {x : α} (h : l[i]? = some x) : ((l.take (i + 1)).map f).sum = ((l.take i).map f).sum + f x := by
  rw [take_snoc h, List.map_append, List.sum_append]
  simp
theorem sum_take_le {α : Type} {f : α → Nat} (l : List α) (i : Nat) : ((l.take i).map f).sum ≤ (l.map f).sum := by
  conv => rhs; rw [← List.take_append_drop i l, List.map_append, List.sum_append]
  omega
section
variable {P : Program} {w : World} {K : PySem.W.Frag} {mg : Str → Option Value} {base : Heap}
abbrev sLb : Stmt := top 26
abbrev NLb : List Str := ["value", "depth", "left", "still", "statement", "inner", "body"]
theorem scLb : FnScope NLb ["value", "depth", "left"] (defScope sLb) := ⟨rfl, rfl, rfl, by decide +kernel, rfl, by decide +kernel, by decide +kernel⟩
def spLb (n : Nat) : Sp := fun vs H Q _ => ∃ (v : V) (d m : Nat) (b : Bd), vs = [v, .int ((d : Int) - 1), .int (m : Nat)] ∧ BdAt n H v b ∧ okB n b ∧ n ≤ d ∧ cnt n b ≤ m ∧ ∀ H', Same H H' → Q (.int ((m - cnt n b : Nat) : Nat)) H'
theorem ok_lb {f : Addr} {fd : FuncData} {n k : Nat} (F : Fun K "_left_behind" "_left_behind" sLb f fd) (T : TxtI mg) (gI : Glo P w K mg base "_inner_of" 5 ["value"] (spInn n)) (gS : FnOk P w K mg base CX0 k f fd ["value", "depth", "left"] (spLb n)) (k5 : 5 ≤ k) (mS : mg "_left_behind" = some (.ref f)) (kS : PySem.W.keepIn K (.ref f) = true) (bS : Binds K fd ["value", "depth", "left"] []) : FnOk P w K mg base CX0 (k + 1) f fd ["value", "depth", "left"] (spLb (n + 1)) := by
  refine F.ok scLb (fun vs H Q E h => ?_) (fun cdv A outer s H vs Q E hr h => ?_)
  · obtain ⟨v, d, m, b, rfl, _⟩ := h
    rfl
  · obtain ⟨v, d, m, b, rfl, ⟨a, xs, rfl, ha, hx⟩, ok, nd, le, q⟩ := h
    refine ⟨_, (pss_cons (ps_if (PW.pt (pw_or (pt_not (pt_val (pe_callB call_isi (by rfl) T.isi PyProof.Rows.boot_isinstance (pa_cons (pv 0) (pa_cons (pe_bltn (v := .ty "tuple") (by rfl) T.tup (by decide +kernel) rfl) pa_nil))))) (pw_or1 (pt_cmpR op_gt (pe_callB call_len_seq (by rfl) T.len PySem.boot_len (pa_cons (pv 0) pa_nil)) (pv 2) (nomark _))))) (pss_one (ps_ret pe_non)) pss_nil)
      (pss_cons (ps_set (i := 3) scLb.nd rfl (Or.inl rfl) (pe_op op_sub (pv 2) (pe_callB call_len_seq (by rfl) T.len PySem.boot_len (pa_cons (pv 0) pa_nil))))
      (pss_cons (ps_for PassesOwn.never rfl (pi_tup (pv 0)) (pg_name (i := 4) scLb.nd rfl (.inl rfl)) (pss_cons (ps_set (i := 5) scLb.nd rfl (Or.inl rfl) (pe_call gI.G (hr.mono k5) (by rfl) gI.m gI.k gI.b .nil pass0 (pa_cons (pv 4) pa_nil))) (pss_cons (ps_if (PW.pt (pw_or (pt_cmpR op_isN (pv 5) pe_non (nomark _)) (pw_or1 (PW.pt (pw_and (pt_cmpR op_gt (pe_callB call_len_seq (by rfl) T.len PySem.boot_len (pa_cons (pv 5) pa_nil)) pe_int (nomark _)) (pw_and1 (pt_cmpR op_eq (pv 1) pe_int (nomark _)))))))) (pss_one (ps_ret pe_non)) pss_nil) (pss_one (ps_for PassesOwn.never rfl (pi_list (pv 5)) (pg_name (i := 6) scLb.nd rfl (.inl rfl)) (pss_cons (ps_set (i := 3) scLb.nd rfl (Or.inl rfl) (pe_call gS hr (by rfl) mS kS bS .nil pass0 (pa_cons (pv 6) (pa_cons (pe_op op_sub (pv 1) pe_int) (pa_cons (pv 3) pa_nil))))) (pss_one (ps_if (pt_cmpR op_isN (pv 3) pe_non (nomark _)) (pss_one (ps_ret pe_non)) pss_nil))))))))
      (pss_one (ps_ret (pv 3)))))), ?_⟩
    have xl : xs.length = b.length := hx.1
    have bl : b.length ≤ m := by
      have : b.length + (b.map fun s => (s.kids.map (cnt n)).sum).sum ≤ m := le
      omega
    refine ⟨_, rfl, _, _, _, _, true, rfl, .ty _, .base (.tup ha), kit_ty (by decide +kernel), _, rfl, iteF ?_⟩
    refine ⟨_, rfl, a, _, rfl, .inr (SqT.of ha), _, rfl, _, _, rfl, rfl, _, rfl, ?_⟩
    refine ite2 (fun z => absurd (of_decide_eq_true z) (by omega)) (fun _ => ?_)
    refine ⟨_, rfl, _, rfl, a, _, rfl, .inr (SqT.of ha), _, _, rfl, rfl, ?_⟩
    let sf : St → Nat := fun s => (s.kids.map (cnt n)).sum
    let lf : Nat → Nat := fun i => m - (b.length + ((b.take i).map sf).sum)
    have hm : (fun i j : Int => V.int (i - j)) (m : Int) (xs.length : Int) = V.int (lf 0 : Nat) := by
      show V.int ((m : Int) - (xs.length : Int)) = V.int ((m - (b.length + 0) : Nat) : Int)
      congr 1
      omega
    rw [hm]
    refine ⟨_, rfl, a, rfl, ⟨_, SqT.of ha⟩, ?_⟩
    refine for_tup (xs := xs) (fun i σ Hc => Same H Hc ∧ ∃ (x4 x5 x6 : Option V), σ = [some (.ref a), some (.int ((d : Int) - 1)), some (.int (m : Nat)), some (.int (lf i : Nat)), x4, x5, x6]) ⟨Same.refl H, _, _, _, rfl⟩ (fun i σ Hc _ p => SqT.of (p.1 _ _ ha)) ?_ ?_
    · rintro i v Hc' Hc hvi ⟨sm, x4, x5, x6, e⟩
      subst e
      obtain ⟨st, hst, hs⟩ := hx.2 i v hvi
      obtain ⟨ok1, ok2⟩ := ok st (List.mem_of_getElem? hst)
      have hsm := (Kt.same sm).st hs
      refine ⟨_, rfl, v, st, rfl, hsm, ok1, fun l us H1 s1 hl hu => ?_⟩
      have ul : us.length = st.kids.length := hu.1
      refine ⟨_, rfl, rfl, _, rfl, iteF ?_⟩
      refine ⟨_, rfl, l, us, rfl, .inl (SqL.of hl), _, _, rfl, rfl, _, rfl, ?_⟩
      have deep : 0 < us.length → 0 < n := fun z => by
        cases n with
        | zero =>
          obtain ⟨w0, hw⟩ : ∃ w0, us[0]? = some w0 := ⟨_, List.getElem?_eq_getElem z⟩
          obtain ⟨b0, _, h0⟩ := hu.2 0 w0 hw
          exact h0.elim
        | succ n => omega
      have tot : b.length + ((b.take i).map sf).sum + sf st ≤ m := by
        have h1 : ((b.take (i + 1)).map sf).sum = ((b.take i).map sf).sum + sf st := sum_take hst
        have h2 := sum_take_le (f := sf) b (i + 1)
        have h3 : b.length + (b.map sf).sum ≤ m := le
        omega
      let kf : Nat → Nat := fun j => ((st.kids.take j).map (cnt n)).sum
      let li : Nat → Nat := fun j => m - (b.length + ((b.take i).map sf).sum + kf j)
      refine ite2 (fun z => ⟨_, rfl, rfl, _, rfl, ite2 (fun z2 => absurd (V.int.inj (of_decide_eq_true z2)) (by have := of_decide_eq_true z; have := deep (by omega); omega)) (fun _ => ?_)⟩) (fun z => iteF ?_)
      all_goals
        refine ⟨_, rfl, l, rfl, ⟨_, SqL.of hl⟩, ?_⟩
        refine for_list (xs := us) (fun j σ Hx => Same H1 Hx ∧ ∃ x6 : Option V, σ = [some (.ref a), some (.int ((d : Int) - 1)), some (.int (m : Nat)), some (.int (li j : Nat)), some v, some (.ref l), x6]) ⟨Same.refl H1, _, rfl⟩ (fun j σ Hx _ p => SqL.of (p.1 _ _ hl)) ?_ ?_
        · rintro j w0 σ Hx hwj ⟨sx, x6, rfl⟩
          obtain ⟨kb, hkb, hb⟩ := hu.2 j w0 hwj
          have hb := (Kt.same sx).bd hb
          have n0 : 0 < n := deep (Nat.lt_of_le_of_lt (Nat.zero_le _) (List.getElem?_eq_some_iff.mp hwj).1)
          have k1 : kf (j + 1) = kf j + cnt n kb := sum_take hkb
          have k2 : kf (j + 1) ≤ sf st := sum_take_le _ _
          have dd : ((d - 1 : Nat) : Int) = (d : Int) - 1 := by omega
          refine ⟨_, rfl, _, rfl, _, _, rfl, rfl, _, rfl, w0, d - 1, li j, kb, by rw [dd]; rfl, hb, ok2 kb (List.mem_of_getElem? hkb), by omega, by show cnt n kb ≤ m - _; omega, fun H2 s2 => ?_⟩
          refine ⟨_, rfl, rfl, _, rfl, iteF ⟨sx.trans s2, some w0, ?_⟩⟩
          have e : li j - cnt n kb = li (j + 1) := by
            show m - (b.length + ((b.take i).map sf).sum + kf j) - cnt n kb = m - (b.length + ((b.take i).map sf).sum + kf (j + 1))
            omega
          rw [← e]
          rfl
        · rintro σ Hx ⟨sx, x6, rfl⟩
          refine ⟨(sm.trans s1).trans sx, some v, some (.ref l), x6, ?_⟩
          have e : li us.length = lf (i + 1) := by
            have h1 : ((b.take (i + 1)).map sf).sum = ((b.take i).map sf).sum + sf st := sum_take hst
            have h2 : kf us.length = sf st := by
              show ((st.kids.take us.length).map (cnt n)).sum = (st.kids.map (cnt n)).sum
              rw [ul, List.take_length]
            show m - (b.length + ((b.take i).map sf).sum + kf us.length) = m - (b.length + ((b.take (i + 1)).map sf).sum)
            omega
          rw [← e]
    · rintro σ Hc ⟨sm, x4, x5, x6, rfl⟩
      have e : lf xs.length = m - cnt (n + 1) b := by
        show m - (b.length + ((b.take xs.length).map sf).sum) = m - (b.length + (b.map sf).sum)
        rw [xl, List.take_length]
      refine ⟨_, rfl, ?_⟩
      rw [e]
      exact q Hc sm
end
end FR
set_option Elab.async false
set_option linter.all false
set_option maxRecDepth 100000
set_option maxHeartbeats 1000000
/-! _left_behind at every level, is_body, _names_called -/
namespace FR
open PySem PySem.Spec PyProof.Rows L2
section
variable {P : Program} {w : World} {K : PySem.W.Frag} {mg : Str → Option Value} {base : Heap}
theorem ok_left {f : Addr} {fd : FuncData} (F : Fun K "_left_behind" "_left_behind" sLb f fd) (T : TxtI mg) (gI : ∀ n, Glo P w K mg base "_inner_of" 5 ["value"] (spInn n)) (mS : mg "_left_behind" = some (.ref f)) (kS : PySem.W.keepIn K (.ref f) = true) (bS : Binds K fd ["value", "depth", "left"] []) : ∀ n, FnOk P w K mg base CX0 (n + 5) f fd ["value", "depth", "left"] (spLb n)
  | 0 => by
    refine F.ok scLb (fun vs H Q E h => ?_) (fun cdv A outer s H vs Q E hr h => ?_)
    · obtain ⟨v, d, m, b, rfl, h, _⟩ := h
      exact h.elim
    · obtain ⟨v, d, m, b, rfl, h, _⟩ := h
      exact h.elim
  | n + 1 => by
    have := ok_lb F T (gI n) (ok_left F T gI mS kS bS n) (by omega) mS kS bS
    have e : n + 1 + 5 = n + 5 + 1 := by omega
    rw [e]
    exact this
abbrev sIb : Stmt := top 25
theorem scIb : FnScope ["value"] ["value"] (defScope sIb) := ⟨rfl, rfl, rfl, by decide +kernel, rfl, by decide +kernel, by decide +kernel⟩
/-- a body that may stand in a program -/
def spIb : Sp := fun vs H Q _ => ∃ v b, vs = [v] ∧ BdAt 5 H v b ∧ okB 5 b ∧ cnt 5 b ≤ 60 ∧ ∀ H', Same H H' → Q (.bl true) H'
theorem ok_ib {f : Addr} {fd : FuncData} {t1 t2 : Tok} (F : Fun K "is_body" "is_body" sIb f fd) (m1 : mg "MAX_DEPTH" = some (.int 4 t1)) (m2 : mg "MAX_STATEMENTS" = some (.int 60 t2)) (gL : Glo P w K mg base "_left_behind" 10 ["value", "depth", "left"] (spLb 5)) : FnOk P w K mg base CX0 11 f fd ["value"] spIb := by
  refine F.ok scIb (fun vs H Q E h => ?_) (fun cdv A outer s H vs Q E hr h => ?_)
  · obtain ⟨v, b, rfl, _⟩ := h
    rfl
  · obtain ⟨v, b, rfl, hb, ok, le, q⟩ := h
    refine ⟨_, (pss_one (ps_ret (pe_cmpR op_notN (pe_call gL.G (hr.mono (by decide)) (by rfl) gL.m gL.k gL.b .nil pass0 (pa_cons (pv 0) (pa_cons (pe_glob (v := .int 4) (by rfl) m1 ⟨t1, rfl⟩) (pa_cons (pe_glob (v := .int 60) (by rfl) m2 ⟨t2, rfl⟩) pa_nil)))) pe_non (nomark _)))), ?_⟩
    refine ⟨_, rfl, v, 5, 60, b, rfl, hb, ok, by omega, le, fun H' s' => ⟨rfl, ?_⟩⟩
    exact q H' s'
/-- the name in a statement -/
def St.nm : St → Str
  | .note s => s
  | .call s => s
  | _ => ""
def callsOf (b : Bd) : List Str := (ofWord 5 b "call").map St.nm
abbrev sNc : Stmt := top 31
abbrev NNc : List Str := ["body", "_", "name"]
theorem scNc : FnScope NNc ["body"] (defScope sNc) := ⟨rfl, rfl, rfl, by decide +kernel, rfl, by decide +kernel, by decide +kernel⟩
def spNc (K : PySem.W.Frag) : Sp := fun vs H Q _ => ∃ v b, vs = [v] ∧ BdAt 5 H v b ∧ FewB 5 b ∧ (placed 5 b []).length ≤ 900 ∧ ∀ l H', Same H H' → H' l = some (.lst ((callsOf b).map V.str)) → Q (.ref l) H'
theorem ofWord_len (n : Nat) (b : Bd) (z : Str) : (ofWord n b z).length ≤ (placed n b []).length := by
  unfold ofWord
  refine Nat.le_trans (List.length_filter_le _ _) ?_
  rw [List.length_map]
  exact Nat.le_refl _
theorem ofWord_mem {n : Nat} {b : Bd} {z : Str} {x : St} (h : x ∈ ofWord n b z) : x.word = z := by
  unfold ofWord at h
  exact of_decide_eq_true (List.mem_filter.mp h).2
theorem call_at {n : Nat} {H : Hp} {v : V} : ∀ {x : St}, x.word = "call" → StAt n H v x → ∃ a, v = .ref a ∧ H a = some (.tup [.str "call", .str x.nm])
  | .call s, _, ⟨a, e, h⟩ => ⟨a, e, h⟩
  | .note s, h, _ => absurd h (by show ¬ (("note" : Str) = "call"); decide +kernel)
  | .stay, h, _ => absurd h (by decide +kernel)
  | .again _ _ _, h, _ => absurd h (by show ¬ (("again" : Str) = "call"); decide +kernel)
  | .choose _, h, _ => absurd h (by show ¬ (("choose" : Str) = "call"); decide +kernel)
  | .toss _, h, _ => absurd h (by show ¬ (("toss" : Str) = "call"); decide +kernel)
theorem ok_nc {f : Addr} {fd : FuncData} (F : Fun K "_names_called" "_names_called" sNc f fd) (gS : Glo P w K mg base "statements_of" 7 ["body", "word"] (spSof K 5)) : FnOk P w K mg base CX0 8 f fd ["body"] (spNc K) := by
  refine F.ok scNc (fun vs H Q E h => ?_) (fun cdv A outer s H vs Q E hr h => ?_)
  · obtain ⟨v, b, rfl, _⟩ := h
    rfl
  · obtain ⟨v, b, rfl, hb, few, sz, q⟩ := h
    refine ⟨_, (pss_one (ps_ret (pe_lc (X := (cxOf CX0 P w K mg base NNc "_names_called" (defScope sNc) f cdv A outer s H E).nox) (own := [("_", 1), ("name", 2)]) (g := (gTup K 2 (gCons (gName 1) (gCons (gName 2) gNil)))) (tt := tYes) rfl scNc.nd (pi_list (pe_call gS.G (hr.mono (by decide)) (by rfl) gS.m gS.k gS.b .nil pass0 (pa_cons (pv 0) (pa_cons pe_str pa_nil)))) (blkOk_by (N := NNc) (sc := defScope sNc) (by decide +kernel)) (fun _ _ _ _ _ => (pg_tupK (K := K) rfl rfl (pgs_cons (pg_name (i := 1) scNc.nd rfl (.inl rfl)) (pgs_cons (pg_name (i := 2) scNc.nd rfl (.inl rfl)) pgs_nil)))) (fun _ _ _ _ _ => pts_nil) (fun _ _ _ _ _ => (pv 2))))), ?_⟩
    refine ⟨_, rfl, v, b, "call", rfl, hb, few, by decide, sz, fun l us H1 s1 hl hu => ?_⟩
    refine ⟨l, rfl, ⟨_, SqL.of hl⟩, fun D hD => ?_⟩
    have ul : us.length = (ofWord 5 b "call").length := hu.1
    have ub := ofWord_len 5 b "call"
    refine lc_list (xs := us) (fun i Hc => Same H1 Hc ∧ Hc D = some (.lst ((((ofWord 5 b "call").take i).map St.nm).map V.str))) ⟨same_new hD, upd_same⟩ (fun i Hc _ p => SqL.of (p.1 _ _ hl)) ?_ ?_
    · rintro i v' Hc hvi ⟨sm, hDc⟩
      obtain ⟨x, hx, hs⟩ := hu.2 i v' hvi
      have il := (List.getElem?_eq_some_iff.mp hvi).1
      obtain ⟨a, rfl, ha⟩ := call_at (ofWord_mem (List.mem_of_getElem? hx)) hs
      have ha := sm _ _ ha
      refine ⟨a, _, rfl, SqT.of ha, rfl, _, _, rfl, _, _, rfl, rfl, rfl, ?_⟩
      refine ⟨_, rfl, _, hDc, small1000 (by rw [List.length_map, List.length_map, List.length_take]; omega), same_upd hD sm, ?_⟩
      rw [take_snoc hx, List.map_append, List.map_append]
      exact upd_same
    · rintro Hc ⟨sm, hDc⟩
      rw [List.take_of_length_le (by omega)] at hDc
      exact q D Hc (s1.trans sm) hDc
end
end FR
set_option Elab.async false
set_option linter.all false
set_option maxRecDepth 100000
set_option maxHeartbeats 1000000
/-! _are_program of a right dict -/
namespace FR
open PySem PySem.Spec PyProof.Rows L2
abbrev Pg : Type := List (Str × Bd)
/-- a program -/
structure Prg (p : Pg) : Prop where
  len : 1 ≤ p.length ∧ p.length ≤ 8
  ok : ∀ x ∈ p, nameB x.1 = true ∧ okB 5 x.2 ∧ cnt 5 x.2 ≤ 60 ∧ FewB 5 x.2
  sz : (p.map fun x => (placed 5 x.2 []).length).sum ≤ 60
  cl : ∀ x ∈ p, ∀ z ∈ callsOf x.2, z ∈ p.map (·.1)
/-- these pairs are it -/
def PrgK (H : Hp) (kvs : List (Key × V)) (p : Pg) : Prop := kvs.length = p.length ∧ ∀ (i : Nat) (k : Key) (v : V), kvs[i]? = some (k, v) → ∃ z b, k = .inr z ∧ p[i]? = some (z, b) ∧ BdAt 5 H v b
theorem PrgK.keep {H H' : Hp} {kvs : List (Key × V)} {p : Pg} (h : PrgK H kvs p) (e : ∀ a xs, H a = some (.tup xs) → H' a = some (.tup xs)) : PrgK H' kvs p := ⟨h.1, fun i k v q => by
  obtain ⟨z, b, e1, e2, e3⟩ := h.2 i k v q
  exact ⟨z, b, e1, e2, bdAt_keep e 5 v b e3⟩⟩
theorem same_lock {H H' : Hp} {d : Addr} {u : HO} {od : Obj} (hd : H d = some u) (s : Same (upd H d (.frz od u)) H') : Same H (upd H' d u) := fun a o e => by
  by_cases h : a = d
  · rw [h] at e ⊢
    rw [upd_same, ← hd, e]
  · rw [upd_ne h]
    exact s a o (by rw [upd_ne h]; exact e)
theorem lock_tup {H : Hp} {d : Addr} {kvs : List (Key × V)} {x : HO} (hd : H d = some (.dK kvs)) : ∀ a xs, H a = some (.tup xs) → upd H d x a = some (.tup xs) := fun a xs e => by
  rw [upd_ne (fun z => by rw [z, hd] at e; cases e)]
  exact e
theorem len_mem_sum {α : Type} {f : α → Nat} : ∀ {l : List α} {x : α}, x ∈ l → f x ≤ (l.map f).sum
  | y :: l, x, h => by
    show f x ≤ f y + (l.map f).sum
    rcases List.mem_cons.mp h with e | e
    · rw [e]; omega
    · have := len_mem_sum (f := f) e
      omega
theorem valV_of {kvs : List (Key × V)} {k : Key} (h : k ∈ kvs.map (·.1)) : (valV kvs k).isSome = true := by
  cases e : valV kvs k with
  | some v => rfl
  | none => exact absurd h (valV_not e)
theorem PrgK.at {H : Hp} {kvs : List (Key × V)} {p : Pg} (h : PrgK H kvs p) {i : Nat} (hi : i < kvs.length) : ∃ z v b, kvs[i]? = some (.inr z, v) ∧ p[i]? = some (z, b) ∧ BdAt 5 H v b := by
  cases e : kvs[i]? with
  | none => exact absurd (List.getElem?_eq_none_iff.mp e) (by omega)
  | some kv =>
    obtain ⟨k, v⟩ := kv
    obtain ⟨z, b, rfl, h1, h2⟩ := h.2 i k v e
    exact ⟨z, v, b, rfl, h1, h2⟩
theorem PrgK.mem {H : Hp} {kvs : List (Key × V)} {p : Pg} (h : PrgK H kvs p) {z : Str} (hz : z ∈ p.map (·.1)) : (Sum.inr z : Key) ∈ kvs.map (·.1) := by
  obtain ⟨x, hx, rfl⟩ := List.mem_map.mp hz
  obtain ⟨i, hi, e⟩ := List.getElem_of_mem hx
  obtain ⟨z', v, b, h1, h2, _⟩ := h.at (i := i) (by rw [h.1]; exact hi)
  rw [List.getElem?_eq_getElem hi, e] at h2
  have e2 := Option.some.inj h2
  rw [e2]
  exact List.mem_map.mpr ⟨_, List.mem_of_getElem? h1, rfl⟩
theorem str_bl : ∀ {xs : List Str} {bs : List Bool}, xs.map V.str = bs.map V.bl → xs = []
  | [], _, _ => rfl
  | x :: xs, [], h => by cases h
  | x :: xs, y :: bs, h => by
    have := (List.cons.inj h).1
    cases this
theorem rep_bl {n : Nat} : ((List.replicate n true).map V.bl) ++ [V.bl true] = (List.replicate (n + 1) true).map V.bl := by
  rw [List.replicate_succ', List.map_append]
  rfl
theorem rep_all {n : Nat} : (List.replicate n true).all id = true := by
  induction n with
  | zero => rfl
  | succ n ih => rw [List.replicate_succ, List.all_cons, ih]; rfl
theorem sum_cast {α : Type} {f : α → Nat} : ∀ l : List α, (l.map fun x => ((f x : Nat) : Int)).sum = (((l.map f).sum : Nat) : Int)
  | [] => rfl
  | x :: l => by
    show (f x : Int) + (l.map fun x => ((f x : Nat) : Int)).sum = ((f x + (l.map f).sum : Nat) : Int)
    rw [sum_cast l]
    omega
/-- walks, whatever the turn does -/
theorem walk_core {J : It} {n : Nat} {G : Hp → Prop} {Y : Nat → Hp → V → Hp → Prop} (w : Walk J n G Y) {Body : (Hp → Prop) → V → Hp → Prop} {H0 : Hp} {Qd : Hp → Prop} (Pv : Nat → Hp → Prop) (h0 : Pv 0 H0) (hG : ∀ i H, i ≤ n → Pv i H → G H)
    (hs : ∀ i x H H', i < n → Pv i H → Y i H x H' → Body (Pv (i + 1)) x H') (hd : ∀ H, Pv n H → Qd H) :
    ∃ W : Nat → Nat → Hp → Prop, (∃ m, W 0 m H0) ∧ ∀ i m H, W i m H → (J.stop i H ∧ Qd H) ∨ (J.go i H ∧ ∃ Nx : Hp → Prop, (∀ H', Nx H' → ∃ m', m' < m ∧ W (i + 1) m' H') ∧ ∀ x H', J.yld i H x H' → Body Nx x H') := by
  refine ⟨fun i m H => m = n - i ∧ i ≤ n ∧ Pv i H, ⟨n, by simp, Nat.zero_le _, h0⟩, ?_⟩
  rintro i m H ⟨rfl, hi, p⟩
  have q := hG i H hi p
  by_cases hlt : i < n
  · exact .inr ⟨w.goes i H hlt q, Pv (i + 1), fun H' p' => ⟨n - (i + 1), by omega, rfl, hlt, p'⟩, fun x H' y => hs i x H H' hlt p (w.yields i H x H' hlt q y)⟩
  · have e : i = n := by omega
    subst e
    exact .inl ⟨w.stops H q, hd H p⟩
section
variable {P : Program} {w : World} {K : PySem.W.Frag} {mg : Str → Option Value} {base : Heap}
abbrev sAp : Stmt := top 30
abbrev NAp : List Str := ["bodies", "name", "body"]
theorem scAp : FnScope NAp ["bodies"] (defScope sAp) := ⟨rfl, rfl, rfl, by decide +kernel, rfl, by decide +kernel, by decide +kernel⟩
def spAp : Sp := fun vs H Q _ => ∃ d kvs p, vs = [.ref d] ∧ H d = some (.dK kvs) ∧ PrgK H kvs p ∧ Prg p ∧ ∀ H', Same H H' → Q (.bl true) H'
structure TxtD (mg : Str → Option Value) : Prop where
  isi : mg "isinstance" = none
  dict : mg "dict" = none
  len : mg "len" = none
  all : mg "all" = none
  sum : mg "sum" = none
theorem ok_ap {f fp dT : Addr} {fd fdp : FuncData} {t8 t60 : Tok} (F : Fun K "_are_program" "_are_program" sAp f fd) (T : TxtD mg) (m8 : mg "MAX_PROCEDURES" = some (.int 8 t8)) (m60 : mg "MAX_STATEMENTS" = some (.int 60 t60)) (gB : Glo P w K mg base "is_between" 2 ["value", "least", "greatest"] spBetX) (gN : Glo P w K mg base "is_name" 3 ["value"] (spNm K)) (gI : Glo P w K mg base "is_body" 11 ["value"] spIb) (gC : Glo P w K mg base "_names_called" 8 ["body"] (spNc K))
    (GP : FnOk P w K mg base CX0 6 fp fdp ["body", "path"] (spPls K 5)) (mP : mg "placed_statements" = some (.ref fp)) (kP : PySem.W.keepIn K (.ref fp) = true) {ds : List Value} (bP : Binds K fdp ["body", "path"] ds) (vP : Vals [V.ref dT] ds) (hT : ∀ H, SqT K H dT []) : FnOk P w K mg base CX0 12 f fd ["bodies"] spAp := by
  refine F.ok scAp (fun vs H Q E h => ?_) (fun cdv A outer s H vs Q E hr h => ?_)
  · obtain ⟨d, kvs, p, rfl, _⟩ := h
    rfl
  · obtain ⟨d, kvs, p, rfl, hd, hk, hp, q⟩ := h
    have hu := hu_of hr
    refine ⟨_, (pss_cons (ps_if (PW.pt (pw_or (pt_not (pt_val (pe_callB call_isi (by rfl) T.isi PyProof.Rows.boot_isinstance (pa_cons (pv 0) (pa_cons (pe_bltn (v := .ty "dict") (by rfl) T.dict (by decide +kernel) rfl) pa_nil))))) (pw_or1 (pt_not (pt_val (pe_call gB.G (hr.mono (by decide)) (by rfl) gB.m gB.k gB.b .nil pass0 (pa_cons (pe_callB call_lenD (by rfl) T.len PySem.boot_len (pa_cons (pv 0) pa_nil)) (pa_cons pe_int (pa_cons (pe_glob (v := .int 8) (by rfl) m8 ⟨t8, rfl⟩) pa_nil))))))))) (pss_one (ps_ret pe_bl)) pss_nil)
      (pss_cons (ps_if (pt_not (pt_val (pe_callB (cr_all rfl) (by rfl) T.all (by decide +kernel) (pa_cons (pe_lock (pe_lc (X := (cxOf CX0 P w K mg base NAp "_are_program" (defScope sAp) f cdv A outer s H E).nox) (own := [("name", 1), ("body", 2)]) (g := (gTup K 2 (gCons (gName 1) (gCons (gName 2) gNil)))) (tt := tYes) rfl scAp.nd (pi_items (pv 0)) (blkOk_by (N := NAp) (sc := defScope sAp) (by decide +kernel)) (fun _ _ _ _ _ => (pg_tupK (K := K) rfl rfl (pgs_cons (pg_name (i := 1) scAp.nd rfl (.inl rfl)) (pgs_cons (pg_name (i := 2) scAp.nd rfl (.inl rfl)) pgs_nil)))) (fun _ _ _ _ _ => pts_nil) (fun _ _ _ _ _ => (pe_and (pe_call gN.G (hr.mono (by decide)) (by rfl) gN.m gN.k gN.b .nil pass0 (pa_cons (pv 1) pa_nil)) (pe_one (pe_call gI.G (hr.mono (by decide)) (by rfl) gI.m gI.k gI.b .nil pass0 (pa_cons (pv 2) pa_nil))))))) pa_nil)))) (pss_one (ps_ret pe_bl)) pss_nil)
      (pss_cons (ps_if (pt_cmpR op_gt (pe_callB (cr_sum rfl) (by rfl) T.sum (by decide +kernel) (pa_cons (pe_lock (pe_lc (X := (cxOf CX0 P w K mg base NAp "_are_program" (defScope sAp) f cdv A outer s H E).nox) (own := [("body", 2)]) (g := (gName 2)) (tt := tYes) rfl scAp.nd (pi_values (pv 0)) (blkOk_by (N := NAp) (sc := defScope sAp) (by decide +kernel)) (fun _ _ _ _ _ => (pg_name (i := 2) scAp.nd rfl (.inl rfl))) (fun _ _ _ _ _ => pts_nil) (fun _ _ _ _ _ => (pe_callB (call_len_seqK (K := K) rfl) (by rfl) T.len PySem.boot_len (pa_cons (pe_call GP (hr.mono (by decide)) (by rfl) mP kP bP vP pass0 (pa_cons (pv 2) pa_nil)) pa_nil))))) pa_nil)) (pe_glob (v := .int 60) (by rfl) m60 ⟨t60, rfl⟩) (nomark _)) (pss_one (ps_ret pe_bl)) pss_nil)
      (pss_one (ps_ret (pe_callB (cr_all rfl) (by rfl) T.all (by decide +kernel) (pa_cons (pe_lock (pe_lc2 (X := (cxOf CX0 P w K mg base NAp "_are_program" (defScope sAp) f cdv A outer s H E).nox) (own := [("body", 2), ("name", 1)]) (vs1 := [1]) (g := (gName 2)) (tt := tYes) (g1 := (gName 1)) (tt1 := tYes) rfl scAp.nd (pi_values (pv 0)) (blkOk_by (N := NAp) (sc := defScope sAp) (by decide +kernel)) (by decide) (fun _ _ _ _ _ => (pg_name (i := 2) scAp.nd rfl (.inl rfl))) (fun _ _ _ _ _ => pts_nil) (fun _ _ _ _ _ => (pi_listK (K := K) rfl (pe_call gC.G (hr.mono (by decide)) (by rfl) gC.m gC.k gC.b .nil pass0 (pa_cons (pv 2) pa_nil)))) (fun _ _ _ _ _ => (pg_name (i := 1) scAp.nd rfl (.inl rfl))) (fun _ _ _ _ _ => pts_nil) (fun _ _ _ _ _ => (pe_cmp (pc_din hu (pv 1) (pv 0)))))) pa_nil))))))), ?_⟩
    have lk : kvs.length = p.length := hk.1
    have c1 : (decide ((1 : Int) ≤ (kvs.length : Nat)) && decide (((kvs.length : Nat) : Int) ≤ 8)) = true := by
      have := hp.len
      rw [Bool.and_eq_true]
      exact ⟨decide_eq_true (by omega), decide_eq_true (by omega)⟩
    refine ⟨_, rfl, _, _, _, _, true, rfl, .ty _, .base (.dK hd), kit_ty (by decide +kernel), _, rfl, iteF ?_⟩
    refine ⟨_, rfl, d, kvs, rfl, hd, _, 1, 8, rfl, _, rfl, ?_⟩
    rw [c1]
    refine iteF ?_
    -- names and bodies
    refine ⟨d, _, hd, trivial, fun od => ?_⟩
    have hk1 := hk.keep (lock_tup (x := .frz od (.dK kvs)) hd)
    have hdl : upd H d (.frz od (.dK kvs)) d = some (.frz od (.dK kvs)) := upd_same
    have back : ∀ H', Same (upd H d (.frz od (.dK kvs))) H' → Same H (upd H' d (.dK kvs)) := fun H' s => same_lock hd s
    generalize upd H d (.frz od (.dK kvs)) = H1 at hk1 hdl back ⊢
    refine ⟨_, rfl, d, od, kvs, rfl, hdl, fun D hD => ?_⟩
    refine lc_it walk_items (fun i Hc => Same H1 Hc ∧ Hc D = some (.lst ((List.replicate i true).map V.bl))) ⟨same_new hD, upd_same⟩ (fun i Hc _ p => p.1 _ _ hdl) ?_ ?_
    · rintro i x Hc H' hi ⟨sm, hDc⟩ ⟨T1, x1, y1, rfl, hT1, rfl, hx, hy⟩
      obtain ⟨z, v, b, hkv, hpi, hb⟩ := hk1.at hi
      have hx : (kvs[i]?.map fun kv => kV kv.1) = some x1 := hx
      have hy : (kvs[i]?.map Prod.snd) = some y1 := hy
      rw [hkv] at hx hy
      have ex : V.str z = x1 := Option.some.inj hx
      have ey : v = y1 := Option.some.inj hy
      subst ex ey
      have sT := same_new (o := .tup [V.str z, v]) hT1
      have hDt := sT _ _ hDc
      have sm2 := sm.trans sT
      have h1 : upd Hc T1 (.tup [V.str z, v]) T1 = some (.tup [V.str z, v]) := upd_same
      generalize upd Hc T1 (.tup [V.str z, v]) = H2 at hDt sm2 h1 ⊢
      obtain ⟨nb, ob, cb, fb⟩ := hp.ok _ (List.mem_of_getElem? hpi)
      refine ⟨T1, _, rfl, SqT.of h1, rfl, _, _, rfl, _, _, rfl, rfl, rfl, ?_⟩
      refine ⟨_, rfl, .inl ⟨z, rfl, name_len nb, fun H3 s3 => ?_⟩⟩
      rw [nb]
      refine ⟨_, rfl, iteT ?_⟩
      refine ⟨_, rfl, v, b, rfl, ((hb.same sm2).same s3), ob, cb, fun H4 s4 => ?_⟩
      have hD4 := s4 _ _ (s3 _ _ hDt)
      refine ⟨_, hD4, small1000 (by rw [List.length_map, List.length_replicate]; have := hp.len; omega), same_upd hD ((sm2.trans s3).trans s4), ?_⟩
      rw [rep_bl]
      exact upd_same
    · rintro Hc ⟨sm, hDc⟩
      refine ⟨sm _ _ hdl, ?_⟩
      have sb := back Hc sm
      have hDb : upd Hc d (.dK kvs) D = some (.lst ((List.replicate kvs.length true).map V.bl)) := by
        rw [upd_ne (fun z => by rw [z, hdl] at hD; cases hD)]
        exact hDc
      generalize upd Hc d (.dK kvs) = Ha at sb hDb ⊢
      refine ⟨D, _, rfl, SqL.of hDb, _, rfl, ?_⟩
      rw [rep_all]
      refine iteF ?_
      -- sizes
      have hda := sb _ _ hd
      have hka := hk.keep (fun a xs e => sb a _ e)
      clear hDb hDc
      refine ⟨d, _, hda, trivial, fun od2 => ?_⟩
      have hk1 := hka.keep (lock_tup (x := .frz od2 (.dK kvs)) hda)
      have hdl : upd Ha d (.frz od2 (.dK kvs)) d = some (.frz od2 (.dK kvs)) := upd_same
      have back : ∀ H', Same (upd Ha d (.frz od2 (.dK kvs))) H' → Same Ha (upd H' d (.dK kvs)) := fun H' s => same_lock hda s
      generalize upd Ha d (.frz od2 (.dK kvs)) = H2 at hk1 hdl back ⊢
      refine ⟨_, rfl, d, od2, kvs, rfl, hdl, fun D2 hD2 => ?_⟩
      let ls : List Int := p.map fun x => (((placed 5 x.2 []).length : Nat) : Int)
      refine lc_it walk_values (fun i Hc => Same H2 Hc ∧ Hc D2 = some (.lst ((ls.take i).map V.int))) ⟨same_new hD2, upd_same⟩ (fun i Hc _ p => p.1 _ _ hdl) ?_ ?_
      · rintro i x Hc H' hi ⟨sm, hDc⟩ ⟨rfl, k0, hkv⟩
        obtain ⟨z, b, rfl, hpi, hb⟩ := hk1.2 i _ _ hkv
        obtain ⟨nb, ob, cb, fb⟩ := hp.ok _ (List.mem_of_getElem? hpi)
        have l60 : (placed 5 b []).length ≤ 60 := Nat.le_trans (len_mem_sum (f := fun x : Str × Bd => (placed 5 x.2 []).length) (List.mem_of_getElem? hpi)) hp.sz
        refine ⟨rfl, _, rfl, x, dT, b, [], rfl, hb.same sm, hT _, fb, by decide, Nat.le_trans l60 (by decide), fun l zs H3 nl3 s3 hl hz => ?_⟩
        refine ⟨l, zs, rfl, .inl (SqL.of hl), _, s3 _ _ hDc, small1000 (by rw [List.length_map, List.length_take]; have := hp.len; omega), same_upd hD2 (sm.trans s3), ?_⟩
        have hls : ls[i]? = some ((zs.length : Nat) : Int) := by
          show (p.map _)[i]? = _
          rw [List.getElem?_map, hpi, hz.1]
          rfl
        rw [take_snoc hls, List.map_append]
        exact upd_same
      · rintro Hc ⟨sm, hDc⟩
        rw [List.take_of_length_le (by show (p.map _).length ≤ _; rw [List.length_map]; omega)] at hDc
        refine ⟨sm _ _ hdl, ?_⟩
        have sb2 := back Hc sm
        have hDb : upd Hc d (.dK kvs) D2 = some (.lst (ls.map V.int)) := by
          rw [upd_ne (fun z => by rw [z, hdl] at hD2; cases hD2)]
          exact hDc
        generalize upd Hc d (.dK kvs) = Hb at sb2 hDb ⊢
        refine ⟨D2, ls, rfl, SqL.of hDb, _, _, rfl, rfl, _, rfl, ?_⟩
        have le60 : ls.sum ≤ 60 := by
          show (p.map fun x => (((placed 5 x.2 []).length : Nat) : Int)).sum ≤ 60
          rw [sum_cast]
          have := hp.sz
          omega
        refine ite2 (fun z => absurd (of_decide_eq_true z) (by omega)) (fun _ => ?_)
        -- what is called
        have sab := sb.trans sb2
        have hdb := sab _ _ hd
        have hkb := hk.keep (fun a xs e => sab a _ e)
        clear hDb hDc
        refine ⟨d, _, hdb, trivial, fun od3 => ?_⟩
        have hk1 := hkb.keep (lock_tup (x := .frz od3 (.dK kvs)) hdb)
        have hdl : upd Hb d (.frz od3 (.dK kvs)) d = some (.frz od3 (.dK kvs)) := upd_same
        have back : ∀ H', Same (upd Hb d (.frz od3 (.dK kvs))) H' → Same Hb (upd H' d (.dK kvs)) := fun H' s => same_lock hdb s
        generalize upd Hb d (.frz od3 (.dK kvs)) = H3 at hk1 hdl back ⊢
        refine ⟨_, rfl, d, od3, kvs, rfl, hdl, fun D3 hD3 => ?_⟩
        refine walk_core walk_values (fun i Hc => Same H3 Hc ∧ ∃ m, m ≤ 60 * i ∧ Hc D3 = some (.lst ((List.replicate m true).map V.bl))) ⟨same_new hD3, 0, Nat.zero_le _, upd_same⟩ (fun i Hc _ p => p.1 _ _ hdl) ?_ ?_
        · rintro i x Hc H' hi ⟨sm, m, hm, hDc⟩ ⟨rfl, k0, hkv⟩
          obtain ⟨z, b, rfl, hpi, hb⟩ := hk1.2 i _ _ hkv
          obtain ⟨nb, ob, cb, fb⟩ := hp.ok _ (List.mem_of_getElem? hpi)
          have cl := hp.cl _ (List.mem_of_getElem? hpi)
          have l60 : (placed 5 b []).length ≤ 60 := Nat.le_trans (len_mem_sum (f := fun x : Str × Bd => (placed 5 x.2 []).length) (List.mem_of_getElem? hpi)) hp.sz
          have c60 : (callsOf b).length ≤ 60 := by
            unfold callsOf
            rw [List.length_map]
            exact Nat.le_trans (ofWord_len 5 b "call") l60
          refine ⟨rfl, _, rfl, x, b, rfl, hb.same sm, fb, Nat.le_trans l60 (by decide), fun l H4 s4 hl => ?_⟩
          have sm4 := sm.trans s4
          have hD4 := s4 _ _ hDc
          refine ⟨l, rfl, ⟨_, SqL.of hl⟩, ?_⟩
          refine walk_core (walk_list (xs := (callsOf b).map V.str)) (fun j Hx => Same H3 Hx ∧ Hx l = some (.lst ((callsOf b).map V.str)) ∧ Hx D3 = some (.lst ((List.replicate (m + j) true).map V.bl))) ⟨sm4, hl, hD4⟩ (fun j Hx _ p => SqL.of p.2.1) ?_ ?_
          · rintro j y Hx H' hj ⟨sx, hlx, hDx⟩ ⟨rfl, hy⟩
            rw [List.length_map] at hj
            rw [List.getElem?_map, List.getElem?_eq_getElem hj] at hy
            have ey : V.str ((callsOf b)[j]) = y := Option.some.inj hy
            subst ey
            have hin := cl _ (List.getElem_mem hj)
            have hv := valV_of (hk.mem hin)
            refine ⟨rfl, _, rfl, _, rfl, d, _, rfl, .inl ⟨kvs, .inr _, .inr ⟨od3, sx _ _ hdl⟩, rfl, rfl⟩, ?_⟩
            rw [hv]
            refine ⟨_, hDx, small1000 (by rw [List.length_map, List.length_replicate]; have := hp.len; omega), same_upd hD3 sx, ?_, ?_⟩
            · rw [upd_ne (fun e => by
                rw [e, hDx] at hlx
                have e2 : (List.replicate (m + j) true).map V.bl = (callsOf b).map V.str := by injection hlx with h; injection h
                rw [str_bl e2.symm] at hj
                exact absurd hj (Nat.not_lt_zero _))]
              exact hlx
            · rw [rep_bl]
              exact upd_same
          · rintro Hx ⟨sx, hlx, hDx⟩
            rw [List.length_map] at hDx
            exact ⟨sx, _, by omega, hDx⟩
        · rintro Hc ⟨sm, m, hm, hDc⟩
          refine ⟨sm _ _ hdl, ?_⟩
          have sb3 := back Hc sm
          have hDb : upd Hc d (.dK kvs) D3 = some (.lst ((List.replicate m true).map V.bl)) := by
            rw [upd_ne (fun z => by rw [z, hdl] at hD3; cases hD3)]
            exact hDc
          generalize upd Hc d (.dK kvs) = Hd at sb3 hDb ⊢
          refine ⟨D3, _, rfl, SqL.of hDb, ?_⟩
          rw [rep_all]
          exact q Hd (sab.trans sb3)
end
end FR
set_option Elab.async false
set_option linter.all false
set_option maxRecDepth 100000
set_option maxHeartbeats 1000000
/-! def f(self, **rest): a call with one keyword -/
namespace FR
open PySem PySem.Spec PyProof.Rows L2
theorem put_new (name : Str) (h : Int) (key v : Value) : Obj.putName name h key v { cls := .type "dict", data := .dict #[] } = { cls := .type "dict", data := .dict #[⟨h, key, v⟩] 1 } := by
  rw [Obj.putName_eq]
  simp [Obj.putNameByArray]
theorem nsSet_new {prog : Program} {w : World} {A : Around} {E : Value → Shared → Prop} {s : Shared} {a : Addr} {name : Str} {v : Value} {Q : Unit → Shared → Prop} (ha : s.heap.get? a = some { cls := .type "dict", data := .dict #[] })
    (h : ∀ h', h'.DictOf (mixKind prog w) a [(.inr name, v)] → Heap.SameBut a s.heap h' → Q () { s with heap := h', toks := s.toks + 1 }) : wpAny (model prog w) A (nsSet a name v) Q E s := fun Γ p _ => by
  simp only [nsSet, strHash, Sem.wp_bind', Sem.wp_cmd_ask, Sem.wp_pure', Sem.wp_cmd_mkText]
  rw [Sem.wp_loadPart_of (model prog w) Γ _ p { s with toks := s.toks + 1 } (o := { cls := .type "dict", data := .dict #[] }) _ ha]
  simp only [aRefKeyMayBeTheName_eq, aRefKeyMayBeTheNameByArray]
  rw [if_neg (by simp)]
  simp only [Sem.wp_cmd_updatePart]
  refine ⟨by rw [ha]; rfl, h _ ?_ (Heap.SameBut.update ..)⟩
  refine ⟨_, #[⟨_, _, v⟩], 1, Heap.get?_update_self _ ha (by rw [put_new]; rfl), ?_, by rw [put_new], ?_, ?_, ?_⟩
  · rw [put_new]; exact ⟨rfl, rfl, rfl⟩
  · intro e he
    have he := List.mem_singleton.mp (Array.mem_toList_iff.mpr he)
    subst he
    exact ⟨.inr name, keyIs_str _ s.toks, rfl⟩
  · exact .cons (keyIs_str _ s.toks) rfl .nil
  · simp
theorem bind_rest {prog : Program} {w : World} {A : Around} {E : Value → Shared → Prop} {s : Shared} {Q : List (Str × Value) → Shared → Prop} {fd : FuncData} {x y : Arg} {k : Str} {u v : Value} 
    (hp : fd.params = ⟨[], [x], none, [], [], some y, []⟩) (hd : fd.defaults = .none) (hk : ¬ k = x.arg)
    (h : ∀ h' d, h'.DictOf (mixKind prog w) d [(.inr k, v)] → s.heap.objs.size = d → (∀ b o, s.heap.get? b = some o → h'.get? b = some o) → Q [(x.arg, u), (y.arg, .ref d)] { s with heap := h', toks := s.toks + 1 }) :
    wpAny (model prog w) A (bindArgs fd ⟨[u], [(k, v)]⟩) Q E s := by
  unfold bindArgs
  rw [hp, hd]
  simp [hk, seqItems?]
  refine wpAny_bind (wpAny_pure (wpAny_bind (wpAny_alloc ?_)))
  rw [← bind_pure_comp]
  refine wpAny_bind (nsSet_new (Heap.get?_push_size _ rfl) fun h' hd' sb => wpAny_pure (h h' _ hd' rfl fun b o e => ?_))
  exact (sb.2 b (Nat.ne_of_lt (Heap.lt_size e))).trans (Heap.get?_push_of_some _ e)
theorem frs_there {h base : Heap} : ∀ {l : List Env}, h.FunFrames base l → ∀ b ∈ frs l, ∃ o, h.get? b = some o
  | [], _, b, hb => absurd hb (by simp [frs])
  | env :: l, ⟨_, ⟨L, o, hf, _, ho, _⟩, hr⟩, b, hb => by
    unfold frs at hb
    simp [hf] at hb
    rcases hb with e | e
    · exact ⟨o, by rw [e]; exact ho⟩
    · exact frs_there hr b (by unfold frs; simpa using e)
/-- def f(x, **y), called with one value and one keyword of this name -/
structure FnRest (P : Program) (w : World) (K : PySem.W.Frag) (mg : Str → Option Value) (base : Heap) (k : Nat) (f : Addr) (key : Str) (sp : Sp) : Prop where
  run : ∀ (A : Around) (outer : List Env) (s : Shared) (H : Hp) (u g : Value) (vu vg : V) (Q : VK) (E : XK), Room k A → Env0 P w K mg base A outer s H → RelV vu u → RelV vg g → (∀ d, H d = none → sp [vu, .ref d] (upd H d (.dK [(.inr key, vg)])) Q E) →
    codeAny (model P w) A (.call (.ref f) ⟨[u], [(key, g)]⟩) (CR CX0 outer P w H s Q E) s
section
variable {P : Program} {w : World} {K : PySem.W.Frag} {mg : Str → Option Value} {base : Heap}
theorem rest_ok {nm qual key : Str} {x y : Arg} {st : Stmt} {f : Addr} {fd : FuncData} {N : List Str} {k : Nat} {sp : Sp} (F : Fun K nm qual st f fd) (hp : defArgs st = ⟨[], [x], none, [], [], some y, []⟩) (S : FnScope N [x.arg, y.arg] (defScope st)) (hk : ¬ key = x.arg)
    (len : ∀ vs H Q E, sp vs H Q E → vs.length = 2)
    (hbody : ∀ (cdv : Value) (A : Around) (outer : List Env) (s : Shared) (H : Hp) (vs : List V) (Q : VK) (E : XK), Room k (A.deeper (envOfC qual (defScope st) s.heap.objs.size f cdv)) → sp vs H Q E →
      ∃ t, PSs (cxOf CX0 P w K mg base N qual (defScope st) f cdv A outer s H E).nox (defBody st) t ∧ t { nx := fun _ H' => Q .non H', rt := Q } (start N vs) H) : FnRest P w K mg base (k + 1) f key sp := by
  obtain ⟨oc, od, kV, doc, pm, an, cdv, ct, osl, rfl, lk, hcd⟩ := F.ex
  refine ⟨fun A outer s H u g vu vg Q E hr e0 ru rg hsp => ?_⟩
  have KX0 : K.In s.heap := e0.mod.kin.keeps fun b o e => (e0.bs b o e).1
  refine codeAny_call_function hr.depth (KX0 _ _ lk) rfl S.co S.gen rfl (PySem.W.codeRec_of KX0 hcd) (bind_rest hp rfl hk fun h' d hd' ed keep => ?_)
  -- the state behind the binding
  have hn : H d = none := e0.hok.fresh (Nat.le_of_eq ed)
  have hlt : d < h'.objs.size := by
    obtain ⟨o, es, ep, e, _⟩ := hd'
    exact Heap.lt_size e
  have big : sysModules < s.heap.objs.size := by
    have h : mainGlobals < s.heap.objs.size := (e0.mod.glob.keeps fun b o e => (e0.bs b o e).1).lt
    exact Nat.lt_trans (by decide) h
  have hok : HOk P w (upd H d (.dK [(.inr key, vg)])) h' := e0.hok.laid keep (Nat.le_of_eq ed) ⟨by show 1 ≤ sizeLine; rw [sizeLine_eq]; omega, beq_eq_false_iff_ne.mpr (by rw [← ed]; exact Ne.symm (Nat.ne_of_lt big)), _, .cons ⟨rfl, rg⟩ .nil, hd'⟩
  have un : Un (frs outer) [] H (upd H d (.dK [(.inr key, vg)])) s.heap h' := Un.laid keep (Nat.le_of_eq ed) hn
  have e1 : Env0 P w K mg base A outer { s with heap := h', toks := s.toks + 1 } (upd H d (.dK [(.inr key, vg)])) := by
    refine ⟨e0.frames, e0.mod, fun b o e => ⟨keep _ _ (e0.bs b o e).1, ?_⟩, Nat.le_trans e0.bsz (by rw [ed]; exact Nat.le_of_lt hlt), Heap.FunFrames.of_keeps (fun b o e _ => ⟨o, keep _ _ e, rfl⟩) e0.funs, fun b hb => ?_, hok, e0.bare⟩
    · have lt := Heap.lt_size (e0.bs b o e).1
      rw [ed] at lt
      rw [upd_ne (Nat.ne_of_lt lt)]
      exact (e0.bs b o e).2
    · have hb0 := e0.frf b hb
      obtain ⟨o, e⟩ := frs_there e0.funs b hb
      have lt := Heap.lt_size e
      rw [ed] at lt
      rw [upd_ne (Nat.ne_of_lt lt)]
      exact hb0
  have q1 := hsp d hn
  generalize hs1 : ({ s with heap := h', toks := s.toks + 1 } : Shared) = s1 at e1
  have es1 : s1.heap = h' := by rw [← hs1]
  have eo1 : s1.os = s.os := by rw [← hs1]
  have hl : [vu, V.ref d].length = [x.arg, y.arg].length := rfl
  have r : Vals [vu, V.ref d] [u, Value.ref d] := .cons ru (.cons rfl .nil)
  have KX : K.In s1.heap := e1.mod.kin.keeps fun b o e => (e1.bs b o e).1
  have lim : s1.heap.NoLimit := e1.mod.nolimit.keeps fun b o e => (e1.bs b o e).1
  have hkind : ∀ z ∈ [x.arg, y.arg].zip [u, Value.ref d], (defScope st).names.lookup z.1 = some .local ∨ ((defScope st).names.lookup z.1 = some .cell ∧ ((cellsFrom (s1.heap.objs.size + 1) (defScope st).names []).lookup z.1).isSome = true) := fun ⟨n, v⟩ hy => by
    rcases S.par n (List.of_mem_zip hy).1 with q | q
    · exact .inl q
    · exact .inr ⟨q, PySem.W.cellsFrom_some _ _ _ (.inl q)⟩
  refine wpAny_newFunctionEnv_cells (binds := [x.arg, y.arg].zip [u, Value.ref d]) S.kind hkind fun env he s2 x2 => ?_
  subst he
  refine ⟨lim.keeps x2.toInCall.keep, codeAny_func ?_⟩
  obtain ⟨t, ht, hq⟩ := hbody cdv A outer s1 _ _ _ _ (hr.deeper _) q1
  have I : Inv (cxOf CX0 P w K mg base N qual (defScope st) f cdv A outer s1 (upd H d (.dK [(.inr key, vg)])) E) [] (start N [vu, V.ref d]) (upd H d (.dK [(.inr key, vg)])) s2 := inv_start S hr.hd e1 hl r x2
  refine wpAny_mono (ht.nox.run [] s2 (start N [vu, V.ref d]) _ _ I hq) (fun fl s' hs => ?_) fun e s' hs => hs
  have fin : ∀ {σ' : L2.St} {H' : Hp} {v : V} {u : Value}, Inv (cxOf CX0 P w K mg base N qual (defScope st) f cdv A outer s1 (upd H d (.dK [(.inr key, vg)])) E) [] σ' H' s' → RelV v u → Q v H' → CE outer P w H s Q u s' :=
    fun {σ' H' v u} J rv q => ⟨v, H', J.os.trans eo1, J.bare, un.trans (by rw [← es1]; exact J.base), J.hok, rv, q⟩
  cases fl with
  | ret u =>
    obtain ⟨v, σ', H', J, rv, q⟩ := hs
    exact fin J rv q
  | next =>
    obtain ⟨σ', H', J, q⟩ := hs
    exact fin (v := V.non) (u := Value.none) J rfl q
  | brk =>
    obtain ⟨_, _, _, q⟩ := hs
    exact False.elim q
  | cont =>
    obtain ⟨_, _, _, q⟩ := hs
    exact False.elim q
end
end FR
set_option Elab.async false
set_option linter.all false
set_option maxRecDepth 100000
set_option maxHeartbeats 1000000
/-! C(key = e), C's __init__ takes self and **rest -/
namespace FR
open PySem PySem.Spec PyProof.Rows L2
/-- a new instance and its dict, a new dict of the keyword, then __init__ -/
def tMakeR (C : Addr) (key : Str) (sp : Sp) (tk : TA) : TE := fun σ H Q => tk σ H fun zs H2 => ∃ g, zs = [g] ∧ ∀ x dx, H2 x = none → H2 dx = none → dx ≠ x → ∀ d, upd (upd H2 dx (.own x)) x (.ins C dx []) d = none →
  sp [.ref x, .ref d] (upd (upd (upd H2 dx (.own x)) x (.ins C dx [])) d (.dK [(.inr key, g)])) (fun v H3 => v = .non ∧ Q (.ref x) H3) E0
section
variable {X : Cx} {k : Nat} {f C : Addr} {key : Str} {sp : Sp} {x : Str} {p pos : Pos} {kws : List Keyword} {tk : TA}
theorem pe_makeR (M : Mk X.K C f) (F : FnRest X.prog X.w X.K X.mg X.base k f key sp) (hr : Room (k + 1) X.A) (hg : Gl X x) (hm : X.mg x = some (.ref C)) (hkw : PK X kws tk)
    (hall : (backToKw pos (keywordEach kws X.env)).all (·.1.isSome) = true := by rfl) (hks : (backToKw pos (keywordEach kws X.env)).filterMap (·.1) = [key] := by rfl) (hdb : (x == ("__debug__" : Str)) = false := by decide)
    (hpl : ((backTo pos (starEach [] X.env)).any (·.1) || (backToKw pos (keywordEach kws X.env)).any (·.1.isNone)) = false := by rfl) :
    PE X (.Call (.Name x p) [] kws pos) (tMakeR C key sp tk) := by
  refine ⟨fun pins s σ H Q I h => ?_⟩
  refine wpAny_Call_Name_kw (ld_glob I hg hm ?_ hdb)
  refine PySem.W.callWith_KW0 (h₀ := X.base) I.ok.mod.kin M.kp hall ?_ hpl
  refine thn (hkw.run pos pins s σ H _ I h) fun ws s2 ⟨zs, H2, I2, rz, g, ez, q2⟩ => ⟨I2.kIn, ?_⟩
  rw [hks]
  subst ez
  obtain ⟨w, rfl, rw⟩ := vals1 rz
  have hq := q2 (s2.heap.objs.size + 1) s2.heap.objs.size (I2.hok.fresh (Nat.le_succ _)) (I2.hok.fresh (Nat.le_refl _)) (Nat.ne_of_lt (Nat.lt_succ_self _))
  have I3 := Inv.made (C := C) I2
  refine wpAny_call (make_map (f := f) I2.kIn M.makes M.init (beq_iff_eq.mp M.fn) (codeAny_mono (F.run _ X.stack _ _ (.ref (s2.heap.objs.size + 1)) w (.ref (s2.heap.objs.size + 1)) g _ E0 (hr.make C [] [(key, w)]) (I3.env0.make C [] [(key, w)]) rfl rw hq) fun r s' hq' => ?_))
  cases r with
  | error e => exact False.elim hq'
  | ok fl =>
    cases fl with
    | ret u =>
      obtain ⟨v, H', I4, rv, ev, q3⟩ := I3.after hq'
      subst ev
      exact ⟨rv, ⟨V.ref (s2.heap.objs.size + 1), H', I4, rfl, q3⟩⟩
    | next => exact False.elim hq'
    | brk => exact False.elim hq'
    | cont => exact False.elim hq'
end
end FR
set_option Elab.async false
set_option linter.all false
set_option maxRecDepth 100000
set_option maxHeartbeats 1000000
/-! Given; Program.__init__: its names -/
namespace FR
open PySem PySem.Spec PyProof.Rows L2
section
variable {P : Program} {w : World} {K : PySem.W.Frag} {mg : Str → Option Value} {base : Heap}
abbrev sGi : Stmt := inClass (top 32) 0
theorem scGi : FnScope ["self", "table"] ["self", "table"] (defScope sGi) := ⟨rfl, rfl, rfl, by decide +kernel, rfl, by decide +kernel, by decide +kernel⟩
/-- Given(v) is told by its instance -/
def spGi (C : Addr) : Sp := fun vs H Q _ => ∃ (p dx : Addr) (v : V), vs = [.ref p, v] ∧ H p = some (.ins C dx []) ∧ Q .non (upd H p (.ins C dx [("table", v)]))
theorem ok_gi {f C : Addr} {fd : FuncData} (F : Fun K "__init__" "Given.__init__" sGi f fd) (cl : Cls K C) (nt : NoAttr K C "table") : FnOk P w K mg base CX0 1 f fd ["self", "table"] (spGi C) := by
  refine F.ok scGi (fun vs H Q E h => ?_) (fun cdv A outer s H vs Q E hr h => ?_)
  · obtain ⟨p, dx, v, rfl, _⟩ := h
    rfl
  · obtain ⟨p, dx, v, rfl, hp, q⟩ := h
    refine ⟨_, pss_one (ps_fld (pv 0) (pv 1) rfl), ?_⟩
    exact ⟨_, rfl, _, rfl, p, C, dx, [], rfl, hp, cl, nt, by show 0 < 1000; decide, q⟩
abbrev sPi : Stmt := inClass (top 33) 0
abbrev NPi : List Str := ["self", "bodies", "given", "table", "placed", "name", "body", "path", "statement", "_"]
theorem scPi : FnScope NPi ["self", "bodies"] (defScope sPi) := ⟨rfl, rfl, rfl, by decide +kernel, rfl, by decide +kernel, by decide +kernel⟩
end
end FR
set_option Elab.async false
set_option linter.all false
set_option maxRecDepth 100000
set_option maxHeartbeats 1000000
/-! Program.__init__: its first six statements are read by these rules -/
namespace FR
open PySem PySem.Spec PyProof.Rows L2
section
variable {P : Program} {w : World} {K : PySem.W.Frag} {mg : Str → Option Value} {base : Heap}
structure TxtP (mg : Str → Option Value) : Prop where
  isi : mg "isinstance" = none
  sorted : mg "sorted" = none
  len : mg "len" = none
  tup : mg "tuple" = none
theorem pi_head {k : Nat} {f fp dT : Addr} {fdp : FuncData} (GP : FnOk P w K mg base CX0 6 fp fdp ["body", "path"] (spPls K 5)) (mP : mg "placed_statements" = some (.ref fp)) (kP : PySem.W.keepIn K (.ref fp) = true) {ds : List Value} (bP : Binds K fdp ["body", "path"] ds) (vP : Vals [V.ref dT] ds) {CG : Addr} {cdv : Value} {A : Around} {outer : List Env} {s : Shared} {H : Hp} {E : XK} (T : TxtP mg) (mG : mg "Given" = some (.ref CG)) (gA : Glo P w K mg base "_are_program" 12 ["bodies"] spAp) (hr : Room 12 (A.deeper (envOfC "Program.__init__" (defScope sPi) s.heap.objs.size f cdv))) :
    ∃ t, PSs (cxOf CX0 P w K mg base NPi "Program.__init__" (defScope sPi) f cdv A outer s H E).nox (defBody sPi) t := by
  have hu := hu_of hr
  exact ⟨_, (pss_cons (ps_set (i := 2) scPi.nd rfl (Or.inl rfl) (pe_dget1 hu (pv 1) pe_str ⟨by rfl, by rfl, by rfl, by rfl⟩))
      (pss_cons (ps_set (i := 3) scPi.nd rfl (Or.inr rfl) (pe_ifExp (pt_val (pe_callB call_isi (by rfl) T.isi PyProof.Rows.boot_isinstance (pa_cons (pv 2) (pa_cons (pe_glob (v := .ref CG) (by rfl) mG rfl) pa_nil)))) (pe_fld (pv 2) rfl) (pv 1)))
      (pss_cons (ps_if (pt_not (pt_val (pe_call gA.G (hr.mono (by decide)) (by rfl) gA.m gA.k gA.b .nil pass0 (pa_cons (pv 3) pa_nil)))) pss_never pss_nil)
      (pss_cons (ps_fld (pv 0) (pe_dc (X := (cxOf CX0 P w K mg base NPi "Program.__init__" (defScope sPi) f cdv A outer s H E).nox) (own := [("name", 5)]) (g := (gName 5)) (tt := tYes) rfl scPi.nd (pi_list (pe_callB (call_sortedD rfl) (by rfl) T.sorted (by decide +kernel) (pa_cons (pv 3) pa_nil))) (blkOk_by (N := NPi) (sc := defScope sPi) (by decide +kernel)) (fun _ _ _ _ _ => (pg_name (i := 5) scPi.nd rfl (.inl rfl))) (fun _ _ _ _ _ => pts_nil) (fun _ _ _ _ _ => (pv 5)) (fun _ _ _ _ _ => (pe_dget hu (pv 3) (pv 5) (fun _ _ => rfl)))) rfl)
      (pss_cons (ps_lock (ps_setLc2 (i := 4) (X := (cxOf CX0 P w K mg base NPi "Program.__init__" (defScope sPi) f cdv A outer s H E).nox) (own := [("name", 5), ("body", 6), ("path", 7), ("statement", 8)]) (vs1 := [7, 8]) (g := (gTup K 2 (gCons (gName 5) (gCons (gName 6) gNil)))) (tt := tYes) (g1 := (gTup K 2 (gCons (gName 7) (gCons (gName 8) gNil)))) (tt1 := tYes) rfl scPi.nd rfl rfl (by rfl) (pi_items (pe_fld (pv 0) rfl)) (blkOk_by (N := NPi) (sc := defScope sPi) (by decide +kernel)) (by decide) (fun _ _ _ _ _ => (pg_tupK (K := K) rfl rfl (pgs_cons (pg_name (i := 5) scPi.nd rfl (.inl rfl)) (pgs_cons (pg_name (i := 6) scPi.nd rfl (.inl rfl)) pgs_nil)))) (fun _ _ _ _ _ => pts_nil) (fun _ _ _ _ _ => (pi_listK (K := K) rfl (pe_call GP (hr.mono (by decide)) (by rfl) mP kP bP vP pass0 (pa_cons (pv 6) pa_nil)))) (fun _ _ _ _ _ => (pg_tupK (K := K) rfl rfl (pgs_cons (pg_name (i := 7) scPi.nd rfl (.inl rfl)) (pgs_cons (pg_name (i := 8) scPi.nd rfl (.inl rfl)) pgs_nil)))) (fun _ _ _ _ _ => pts_nil) (fun _ _ _ _ _ => (pe_tup (pa_cons (pv 5) (pa_cons (pv 7) (pa_cons (pv 8) pa_nil)))))))
      (pss_cons (ps_fld (pv 0) (pe_callB call_len_seq (by rfl) T.len PySem.boot_len (pa_cons (pv 4) pa_nil)) rfl)
      pss_never))))))⟩
end
end FR
set_option Elab.async false
set_option linter.all false
set_option maxRecDepth 100000
set_option maxHeartbeats 1000000
/-! sorted texts; a program's procedures in order -/
namespace FR
open PySem PySem.Spec PyProof.Rows L2
def leS (a b : Str) : Prop := ltCps b.cps.toList a.cps.toList = false
theorem leS_iff {a b : Str} : leS a b ↔ a.cps.toList ≤ b.cps.toList := by
  unfold leS
  rw [PyProof.Rows.ltCps_eq]
  simp
theorem leS_trans {a b c : Str} (h : leS a b) (g : leS b c) : leS a c := leS_iff.mpr (List.le_trans (leS_iff.mp h) (leS_iff.mp g))
theorem leS_antisymm {a b : Str} (h : leS a b) (g : leS b a) : a = b := by
  have e : a.cps.toList = b.cps.toList := List.le_antisymm (leS_iff.mp h) (leS_iff.mp g)
  obtain ⟨⟨x⟩⟩ := a
  obtain ⟨⟨y⟩⟩ := b
  have e : x = y := e
  rw [e]
theorem rising_pair : ∀ (p : Str) (l : List Str), risingS p l = true → (p :: l).Pairwise leS
  | p, [], _ => List.pairwise_singleton _ _
  | p, x :: r, h => by
    have h : (!ltCps x.cps.toList p.cps.toList && risingS x r) = true := h
    rw [Bool.and_eq_true] at h
    have a : leS p x := by
      unfold leS
      have := h.1
      simpa using this
    have b := rising_pair x r h.2
    refine List.pairwise_cons.mpr ⟨fun y hy => ?_, b⟩
    rcases List.mem_cons.mp hy with e | hy
    · rw [e]; exact a
    · exact leS_trans a ((List.pairwise_cons.mp b).1 y hy)
theorem sorted_pair : ∀ {l : List Str}, sortedS l = true → l.Pairwise leS
  | [], _ => List.Pairwise.nil
  | x :: r, h => rising_pair x r h
/-- two sorted rows of the same texts are one -/
theorem sorted_perm {l m : List Str} (p : l.Perm m) (h : sortedS l = true) (g : sortedS m = true) : l = m :=
  p.eq_of_pairwise (fun _ _ _ _ x y => leS_antisymm x y) (sorted_pair h) (sorted_pair g)
theorem nodup_perm {α : Type} [DecidableEq α] : ∀ {l m : List α}, l.Nodup → m.Nodup → (∀ z, z ∈ l ↔ z ∈ m) → l.Perm m
  | [], m, _, _, h => by
    cases m with
    | nil => exact .refl _
    | cons x m => exact absurd ((h x).mpr List.mem_cons_self) (by simp)
  | x :: l, m, hl, hm, h => by
    obtain ⟨h1, h2⟩ := List.nodup_cons.mp hl
    have hx : x ∈ m := (h x).mp List.mem_cons_self
    have pm := List.perm_cons_erase hx
    refine ((nodup_perm h2 (hm.erase x) fun z => ?_).cons x).trans pm.symm
    rw [hm.mem_erase_iff]
    constructor
    · intro hz
      exact ⟨fun e => h1 (e ▸ hz), (h z).mp (List.mem_cons_of_mem _ hz)⟩
    · rintro ⟨a, b⟩
      rcases List.mem_cons.mp ((h z).mpr b) with e | hz
      · exact absurd e a
      · exact hz
theorem sorted_nodup {l m : List Str} (a : l.Nodup) (b : m.Nodup) (h : ∀ z, z ∈ l ↔ z ∈ m) (x : sortedS l = true) (y : sortedS m = true) : l = m := sorted_perm (nodup_perm a b h) x y
abbrev names (p : Pg) : List Str := p.map (·.1)
/-- the body of a procedure -/
def bodyOf : Pg → Str → Bd
  | [], _ => []
  | x :: p, z => if x.1 = z then x.2 else bodyOf p z
theorem bodyOf_mem : ∀ {p : Pg}, (names p).Nodup → ∀ {x : Str × Bd}, x ∈ p → bodyOf p x.1 = x.2
  | y :: p, h, x, hx => by
    obtain ⟨h1, h2⟩ := List.nodup_cons.mp h
    unfold bodyOf
    rcases List.mem_cons.mp hx with e | hx
    · rw [e, if_pos rfl]
    · have ne : ¬ y.1 = x.1 := fun e => h1 (by show y.1 ∈ _; rw [e]; exact List.mem_map.mpr ⟨x, hx, rfl⟩)
      rw [if_neg ne]
      exact bodyOf_mem h2 hx
theorem pg_eta {p : Pg} (h : (names p).Nodup) : (names p).map (fun z => (z, bodyOf p z)) = p := by
  rw [List.map_map]
  conv => rhs; rw [← List.map_id p]
  exact List.map_congr_left fun x hx => by
    show (x.1, bodyOf p x.1) = x
    rw [bodyOf_mem h hx]
/-- the procedures in another order -/
theorem pg_perm {p : Pg} (h : (names p).Nodup) {ys : List Str} (hy : ys.Perm (names p)) : (ys.map fun z => (z, bodyOf p z)).Perm p ∧ names (ys.map fun z => (z, bodyOf p z)) = ys := by
  refine ⟨?_, by rw [names, List.map_map]; exact List.map_id _⟩
  have e := hy.map fun z => (z, bodyOf p z)
  rw [pg_eta h] at e
  exact e
theorem PrgK.keys {H : Hp} : ∀ {kvs : List (Key × V)} {p : Pg}, PrgK H kvs p → kvs.map (·.1) = (names p).map Sum.inr
  | [], [], _ => rfl
  | [], _ :: _, h => by simp [PrgK] at h
  | _ :: _, [], h => by simp [PrgK] at h
  | (k, v) :: kvs, y :: p, h => by
    obtain ⟨z, b, e1, e2, _⟩ := h.2 0 k v rfl
    cases e2
    have t : PrgK H kvs p := ⟨by have := h.1; simpa using this, fun i k v e => h.2 (i + 1) k v e⟩
    show k :: kvs.map (·.1) = Sum.inr z :: (names p).map Sum.inr
    rw [e1, t.keys]
theorem valV_get {kvs : List (Key × V)} {k : Key} {v : V} (h : valV kvs k = some v) : ∃ i : Nat, kvs[i]? = some (k, v) := by
  induction kvs with
  | nil => cases h
  | cons x r ih =>
    by_cases e : x.1 = k
    · rw [valV_pos e] at h
      refine ⟨0, ?_⟩
      rw [← e, ← Option.some.inj h]
      rfl
    · rw [valV_neg e] at h
      obtain ⟨i, hi⟩ := ih h
      exact ⟨i + 1, hi⟩
theorem PrgK.val {H : Hp} {kvs : List (Key × V)} {p : Pg} (h : PrgK H kvs p) (hn : (names p).Nodup) {z : Str} (hz : z ∈ names p) : ∃ v, valV kvs (Sum.inr z) = some v ∧ BdAt 5 H v (bodyOf p z) := by
  cases e : valV kvs (Sum.inr z) with
  | none =>
    have := valV_of (h.mem hz)
    rw [e] at this
    cases this
  | some v =>
    obtain ⟨i, hi⟩ := valV_get e
    obtain ⟨z', b, e1, e2, hb⟩ := h.2 i _ v hi
    cases e1
    have := bodyOf_mem hn (List.mem_of_getElem? e2)
    rw [this]
    exact ⟨v, rfl, hb⟩
theorem PrgK.none {H : Hp} {kvs : List (Key × V)} {p : Pg} (h : PrgK H kvs p) {z : Str} (hz : z ∉ names p) : valV kvs (Sum.inr z) = none := by
  cases e : valV kvs (Sum.inr z) with
  | none => rfl
  | some v =>
    obtain ⟨i, hi⟩ := valV_get e
    obtain ⟨z', b, e1, e2, hb⟩ := h.2 i _ v hi
    cases e1
    exact absurd (List.mem_map.mpr ⟨_, List.mem_of_getElem? e2, rfl⟩) hz
theorem PrgK.nil {H : Hp} : PrgK H [] [] := ⟨rfl, fun i k v e => by simp at e⟩
theorem PrgK.snoc {H : Hp} {kvs : List (Key × V)} {p : Pg} {z : Str} {v : V} {b : Bd} (h : PrgK H kvs p) (hv : BdAt 5 H v b) : PrgK H (kvs ++ [(.inr z, v)]) (p ++ [(z, b)]) := by
  refine ⟨by rw [List.length_append, List.length_append, h.1]; rfl, fun i k x e => ?_⟩
  by_cases c : i < kvs.length
  · rw [List.getElem?_append_left c] at e
    obtain ⟨z', b', e1, e2, e3⟩ := h.2 i k x e
    exact ⟨z', b', e1, by rw [List.getElem?_append_left (by rw [← h.1]; exact c)]; exact e2, e3⟩
  · have ei : i = kvs.length := by
      have := (List.getElem?_eq_some_iff.mp e).1
      rw [List.length_append] at this
      have : ([(Sum.inr z, v)] : List (Key × V)).length = 1 := rfl
      omega
    subst ei
    rw [List.getElem?_append_right (Nat.le_refl _), Nat.sub_self] at e
    cases e
    exact ⟨z, b, rfl, by rw [List.getElem?_append_right (by rw [h.1]; exact Nat.le_refl _), h.1, Nat.sub_self]; rfl, hv⟩
theorem Prg.perm {p q : Pg} (h : Prg p) (e : q.Perm p) : Prg q where
  len := by rw [e.length_eq]; exact h.len
  ok := fun x hx => h.ok x (e.mem_iff.mp hx)
  sz := by
    have : (q.map fun x => (placed 5 x.2 []).length).sum = (p.map fun x => (placed 5 x.2 []).length).sum := (e.map _).sum_nat
    rw [this]
    exact h.sz
  cl := fun x hx z hz => (e.map (·.1)).mem_iff.mpr (h.cl x (e.mem_iff.mp hx) z hz)
end FR
set_option Elab.async false
set_option linter.all false
set_option maxRecDepth 100000
set_option maxHeartbeats 1000000
/-! what a program's instance holds -/
namespace FR
open PySem PySem.Spec PyProof.Rows L2
/-- all statements, with the procedure and the path -/
def allP (p : Pg) : List (Str × PL1) := p.flatMap fun x => (placed 5 x.2 []).map fun y => (x.1, y)
def notes (l : List (Str × PL1)) : List Str := l.flatMap fun z => if z.2.2.word = ("note" : Str) then [z.2.2.nm] else []
def chosen (l : List (Str × PL1)) : List (Str × List Nat) := l.flatMap fun z => if z.2.2.word = ("choose" : Str) then [(z.1, z.2.1)] else []
def TrAt (K : PySem.W.Frag) (H : Hp) (z : V) (y : Str × PL1) : Prop := ∃ t a s, z = .ref t ∧ H t = some (.tup [.str y.1, .ref a, s]) ∧ SqT K H a (y.2.1.map fun i => V.int (i : Nat)) ∧ StAt 5 H s y.2.2
def ChAt (K : PySem.W.Frag) (H : Hp) (z : V) (y : Str × List Nat) : Prop := ∃ t a, z = .ref t ∧ H t = some (.tup [.str y.1, .ref a]) ∧ SqT K H a (y.2.map fun i => V.int (i : Nat))
def EvOk (es : List Str) (p : Pg) : Prop := sortedS es = true ∧ es.Nodup ∧ ∀ z, z ∈ es ↔ z ∈ notes (allP p)
/-- the instance at x is this program -/
def IsPg (K : PySem.W.Frag) (C : Addr) (H : Hp) (x : Addr) (p : Pg) : Prop := ∃ dx d e c kvs es cs, H x = some (.ins C dx [("_bodies", .ref d), ("_size", .int ((allP p).length : Nat)), ("_events", .ref e), ("_choices", .ref c)]) ∧ H d = some (.dK kvs) ∧ PrgK H kvs p ∧
  H e = some (.tup (es.map V.str)) ∧ EvOk es p ∧ H c = some (.tup cs) ∧ AG (fun z y => ChAt K H z y) cs (chosen (allP p))
/-- tuples stay -/
def Tk (H H' : Hp) : Prop := (∀ a xs, H a = some (.tup xs) → H' a = some (.tup xs)) ∧ ∀ a o xs, H a = some (.frz o (.tup xs)) → H' a = some (.frz o (.tup xs))
theorem Tk.trans {H H1 H2 : Hp} (a : Tk H H1) (b : Tk H1 H2) : Tk H H2 := ⟨fun q x e => b.1 q x (a.1 q x e), fun q o x e => b.2 q o x (a.2 q o x e)⟩
theorem Tk.refl (H : Hp) : Tk H H := ⟨fun _ _ e => e, fun _ _ _ e => e⟩
theorem Tk.same {H H' : Hp} (s : Same H H') : Tk H H' := ⟨fun a xs e => s a _ e, fun a o xs e => s a _ e⟩
theorem Tk.upd {H : Hp} {l : Addr} {u o : HO} (h : H l = some u) (n1 : ∀ xs, u ≠ .tup xs) (n2 : ∀ q xs, u ≠ .frz q (.tup xs)) : Tk H (L2.upd H l o) :=
  ⟨fun a xs e => by rw [upd_ne (fun z => by rw [z, h] at e; exact n1 xs (Option.some.inj e))]; exact e, fun a q xs e => by rw [upd_ne (fun z => by rw [z, h] at e; exact n2 q xs (Option.some.inj e))]; exact e⟩
theorem Tk.seqT {K : PySem.W.Frag} {H H' : Hp} (k : Tk H H') {a : Addr} {xs : List V} (h : SqT K H a xs) : SqT K H' a xs := by
  rcases h with (h | ⟨o, h⟩) | h
  · exact .inl (.inl (k.1 _ _ h))
  · exact .inl (.inr ⟨o, k.2 _ _ _ h⟩)
  · exact .inr h
theorem Tk.bd {n : Nat} {H H' : Hp} (k : Tk H H') {v : V} {b : Bd} (h : BdAt n H v b) : BdAt n H' v b := bdAt_keep k.1 n v b h
theorem Tk.st {n : Nat} {H H' : Hp} (k : Tk H H') {v : V} {x : St} (h : StAt n H v x) : StAt n H' v x := stW_imp k.1 (bdAt_keep k.1 n) h
theorem Tk.pg {H H' : Hp} (k : Tk H H') {kvs : List (Key × V)} {p : Pg} (h : PrgK H kvs p) : PrgK H' kvs p := h.keep k.1
theorem Tk.tr {K : PySem.W.Frag} {H H' : Hp} (k : Tk H H') {z : V} {y : Str × PL1} (h : TrAt K H z y) : TrAt K H' z y := by
  obtain ⟨t, a, s, e, ht, ha, hs⟩ := h
  exact ⟨t, a, s, e, k.1 _ _ ht, k.seqT ha, k.st hs⟩
theorem Tk.ch {K : PySem.W.Frag} {H H' : Hp} (k : Tk H H') {z : V} {y : Str × List Nat} (h : ChAt K H z y) : ChAt K H' z y := by
  obtain ⟨t, a, e, ht, ha⟩ := h
  exact ⟨t, a, e, k.1 _ _ ht, k.seqT ha⟩
theorem Tk.trs {K : PySem.W.Frag} {H H' : Hp} (k : Tk H H') {zs : List V} {ys : List (Str × PL1)} (h : AG (fun z y => TrAt K H z y) zs ys) : AG (fun z y => TrAt K H' z y) zs ys := h.imp fun _ _ x => k.tr x
theorem Tk.chs {K : PySem.W.Frag} {H H' : Hp} (k : Tk H H') {zs : List V} {ys : List (Str × List Nat)} (h : AG (fun z y => ChAt K H z y) zs ys) : AG (fun z y => ChAt K H' z y) zs ys := h.imp fun _ _ x => k.ch x
/-- all stays but what stands at x -/
def But (x : Addr) (H H' : Hp) : Prop := ∀ a o, a ≠ x → H a = some o → H' a = some o
theorem But.trans {x : Addr} {H H1 H2 : Hp} (a : But x H H1) (b : But x H1 H2) : But x H H2 := fun q o n e => b q o n (a q o n e)
theorem But.same {x : Addr} {H H' : Hp} (s : Same H H') : But x H H' := fun a o _ e => s a o e
theorem But.upd {x : Addr} {H : Hp} {o : HO} : But x H (L2.upd H x o) := fun a u n e => by rw [upd_ne n]; exact e
theorem But.tk {x : Addr} {H H' : Hp} (s : But x H H') {u : HO} (h : H x = some u) (n1 : ∀ xs, u ≠ .tup xs) (n2 : ∀ q xs, u ≠ .frz q (.tup xs)) : Tk H H' :=
  ⟨fun a xs e => s a _ (fun z => by rw [z, h] at e; exact n1 xs (Option.some.inj e)) e, fun a q xs e => s a _ (fun z => by rw [z, h] at e; exact n2 q xs (Option.some.inj e)) e⟩
theorem IsPg.keep {K : PySem.W.Frag} {C : Addr} {H H' : Hp} {x : Addr} {p : Pg} (h : IsPg K C H x p) (k : Tk H H') (h1 : ∀ a C dx fs, H a = some (.ins C dx fs) → H' a = some (.ins C dx fs)) (h2 : ∀ a kvs, H a = some (.dK kvs) → H' a = some (.dK kvs)) : IsPg K C H' x p := by
  obtain ⟨dx, d, e, c, kvs, es, cs, a1, a2, a3, a4, a5, a6, a7⟩ := h
  exact ⟨dx, d, e, c, kvs, es, cs, h1 _ _ _ _ a1, h2 _ _ a2, k.pg a3, k.1 _ _ a4, a5, k.1 _ _ a6, k.chs a7⟩
theorem IsPg.same {K : PySem.W.Frag} {C : Addr} {H H' : Hp} {x : Addr} {p : Pg} (h : IsPg K C H x p) (s : Same H H') : IsPg K C H' x p := h.keep (Tk.same s) (fun a _ _ _ e => s a _ e) fun a _ e => s a _ e
theorem allP_len (p : Pg) : (allP p).length = (p.map fun x => (placed 5 x.2 []).length).sum := by
  unfold allP
  rw [List.length_flatMap]
  congr 1
  exact List.map_congr_left fun x _ => by rw [List.length_map]
theorem notes_snoc (l : List (Str × PL1)) (y : Str × PL1) : notes (l ++ [y]) = notes l ++ (if y.2.2.word = ("note" : Str) then [y.2.2.nm] else []) := by
  unfold notes
  rw [List.flatMap_append, List.flatMap_cons, List.flatMap_nil, List.append_nil]
theorem chosen_snoc (l : List (Str × PL1)) (y : Str × PL1) : chosen (l ++ [y]) = chosen l ++ (if y.2.2.word = ("choose" : Str) then [(y.1, y.2.1)] else []) := by
  unfold chosen
  rw [List.flatMap_append, List.flatMap_cons, List.flatMap_nil, List.append_nil]
theorem notes_len (l : List (Str × PL1)) : (notes l).length ≤ l.length := by
  induction l with
  | nil => exact Nat.le_refl _
  | cons y l ih =>
    have e : notes (y :: l) = (if y.2.2.word = ("note" : Str) then [y.2.2.nm] else []) ++ notes l := List.flatMap_cons
    rw [e, List.length_append, List.length_cons]
    split
    · show 1 + _ ≤ _; omega
    · show 0 + _ ≤ _; omega
theorem chosen_len (l : List (Str × PL1)) : (chosen l).length ≤ l.length := by
  induction l with
  | nil => exact Nat.le_refl _
  | cons y l ih =>
    have e : chosen (y :: l) = (if y.2.2.word = ("choose" : Str) then [(y.1, y.2.1)] else []) ++ chosen l := List.flatMap_cons
    rw [e, List.length_append, List.length_cons]
    split
    · show 1 + _ ≤ _; omega
    · show 0 + _ ≤ _; omega
theorem note_at {n : Nat} {H : Hp} {v : V} : ∀ {x : St}, x.word = ("note" : Str) → StAt n H v x → ∃ a, v = .ref a ∧ H a = some (.tup [.str "note", .str x.nm])
  | .note s, _, ⟨a, e, h⟩ => ⟨a, e, h⟩
  | .call s, h, _ => absurd h (by show ¬ (("call" : Str) = "note"); decide +kernel)
  | .stay, h, _ => absurd h (by decide +kernel)
  | .again _ _ _, h, _ => absurd h (by show ¬ (("again" : Str) = "note"); decide +kernel)
  | .choose _, h, _ => absurd h (by show ¬ (("choose" : Str) = "note"); decide +kernel)
  | .toss _, h, _ => absurd h (by show ¬ (("toss" : Str) = "note"); decide +kernel)
theorem dec_str {a b : Str} : decide (V.str a = V.str b) = decide (a = b) := by
  by_cases h : a = b
  · rw [h, decide_eq_true rfl, decide_eq_true rfl]
  · rw [decide_eq_false h, decide_eq_false fun e => h (V.str.inj e)]
end FR
set_option Elab.async false
set_option linter.all false
set_option maxRecDepth 100000
set_option maxHeartbeats 1000000
/-! sets of texts that can be walked: what one holds, and an add -/
namespace SX
open PySem PySem.Spec PyProof.Rows L2 PySem.Froz
noncomputable section
def txOf : Value → Str
  | .str x _ => x
  | _ => Str.empty
theorem strs_of : ∀ {vs : List Value}, (∀ v ∈ vs, ∃ x u, v = Value.str x u) → StrsAre vs (vs.map txOf)
  | [], _ => .nil
  | v :: vs, h => by
    obtain ⟨x, u, rfl⟩ := h v List.mem_cons_self
    exact .cons x u (strs_of fun y hy => h y (List.mem_cons_of_mem _ hy))
/-- a text more -/
def ins (k : Str) (l : List Str) : List Str := if k ∈ l then l else k :: l
theorem mem_ins {k x : Str} {l : List Str} : x ∈ ins k l ↔ x = k ∨ x ∈ l := by
  unfold ins
  by_cases h : k ∈ l
  · rw [if_pos h]
    exact ⟨.inr, fun z => z.elim (fun e => e ▸ h) id⟩
  · rw [if_neg h, List.mem_cons]
theorem nodup_ins {k : Str} {l : List Str} (h : l.Nodup) : (ins k l).Nodup := by
  unfold ins
  by_cases c : k ∈ l
  · rw [if_pos c]; exact h
  · rw [if_neg c]; exact List.nodup_cons.mpr ⟨c, h⟩
theorem len_ins (k : Str) (l : List Str) : (ins k l).length ≤ l.length + 1 := by
  unfold ins
  by_cases c : k ∈ l
  · rw [if_pos c]; omega
  · rw [if_neg c]; exact Nat.le_refl _
section
variable {P : Program} {w : World}
/-- a set's payload: the texts l, each once; its table rises -/
structure Pay (P : Program) (w : World) (D : SD) (l : List Str) : Prop where
  ok : TxOk P w D l
  nd : l.Nodup
  few : l.length < scanBound
  pm : (D.1.toList.map fun e => txOf e.2).Perm l
  ris : Ris D.2.2.place.toList
  led : w.params.followText "set-order" = true ∨ D.2.2.led = true
theorem Pay.strs {D : SD} {l : List Str} (F : Pay P w D l) : ∀ v ∈ D.1.toList.map (·.2), ∃ x u, v = Value.str x u := fun v hv => by
  obtain ⟨e, he, rfl⟩ := List.mem_map.mp hv
  obtain ⟨⟨k, hk, _⟩, _⟩ := F.ok.el e he
  obtain ⟨t, z⟩ := Value.isStrOf_shape (x := k) (v := e.2) hk
  exact ⟨k, t, z⟩
theorem tail_facts (ep : Nat) (es1 : Array (Int × Value)) (t2 : SetTable) (d : Bool) (r : Ris t2.place.toList) : (tailTx ep es1 t2 d).1.toList.Perm es1.toList ∧ Ris (tailTx ep es1 t2 d).2.2.place.toList ∧ (tailTx ep es1 t2 d).2.2.led = t2.led := by
  unfold tailTx
  split
  · exact ⟨relayAll_perm _ _ _, relayAll_ris _ _ _, relayAll_led _ _ _⟩
  · exact ⟨List.Perm.refl _, r, rfl⟩
theorem add_facts (h : Int) (v : Value) (D : SD) (r : Ris D.2.2.place.toList) : (addTx h v D).1.toList.Perm ((h, v) :: D.1.toList) ∧ Ris (addTx h v D).2.2.place.toList ∧ (addTx h v D).2.2.led = D.2.2.led := by
  obtain ⟨es, ep, t⟩ := D
  have p1 := layNew_perm t es h v
  have r1 := layNew_ris t es h v r
  have l1 := layNew_led t es h v
  rw [Array.toList_push] at p1
  unfold addTx
  dsimp only
  generalize layNew t es h v = Z at p1 r1 l1 ⊢
  have z : ∀ t2 : SetTable, Ris t2.place.toList → t2.led = t.led → (tailTx ep Z.1 t2 Z.2.2.1).1.toList.Perm ((h, v) :: es.toList) ∧ Ris (tailTx ep Z.1 t2 Z.2.2.1).2.2.place.toList ∧ (tailTx ep Z.1 t2 Z.2.2.1).2.2.led = t.led := fun t2 r2 l2 => by
    obtain ⟨a, b, c⟩ := tail_facts ep Z.1 t2 Z.2.2.1 r2
    exact ⟨a.trans (p1.trans (List.perm_append_singleton _ _)), b, c.trans l2⟩
  by_cases c : Z.2.1.plain = true
  · rw [if_pos c]; exact z _ r1 l1
  · rw [if_neg c]; exact z _ r1 l1
theorem Pay.add {D : SD} {l : List Str} {k : Str} (u : Tok) (F : Pay P w D l) (hk : k ∉ l) (room : l.length + 1 < scanBound) : Pay P w (addTx (hashStr w k) (.str k u) D) (k :: l) where
  ok := add_ok u F.ok
  nd := List.nodup_cons.mpr ⟨hk, F.nd⟩
  few := room
  pm := ((add_facts (hashStr w k) (.str k u) D F.ris).1.map fun e => txOf e.2).trans (List.Perm.cons _ F.pm)
  ris := (add_facts _ _ _ F.ris).2.1
  led := F.led.imp id fun z => by rw [(add_facts _ _ _ F.ris).2.2]; exact z
/-- a new set's payload -/
def new0 (w : World) : SD := (#[], 0, .fresh 0 0 (!w.params.followText "set-order"))
theorem pay_new : Pay P w (new0 w) [] where
  ok := TxOk.nil rfl
  nd := List.nodup_nil
  few := by decide
  pm := List.Perm.refl _
  ris := List.Pairwise.nil
  led := by
    show _ ∨ (!w.params.followText "set-order") = true
    cases w.params.followText "set-order"
    · exact .inr rfl
    · exact .inl rfl
/-- at a stands the set of the texts l -/
def SetT (P : Program) (w : World) (h : Heap) (a : Addr) (l : List Str) : Prop := ∃ D, h.get? a = some (sObj "set" D) ∧ Pay P w D l
variable {h h' : Heap} {a : Addr} {l : List Str}
theorem SetT.at (R : SetT P w h a l) (k : ∀ o, h.get? a = some o → h'.get? a = some o) : SetT P w h' a l := by
  obtain ⟨D, e, p⟩ := R
  exact ⟨D, k _ e, p⟩
theorem SetT.ty {s : Shared} (R : SetT P w s.heap a l) : s.TypeIs (.ref a) "set" := by
  obtain ⟨D, e, p⟩ := R
  exact ⟨_, e, rfl⟩
end
section
variable {P : Program} {w : World} {A : Around} {E : Value → Shared → Prop} {s : Shared} {a : Addr} {l : List Str} {k : Str} {u : Tok}
/-- the add of a text with its hash, there or not -/
theorem put_hashed {Q : Bool → Shared → Prop} (R : SetT P w s.heap a l) (room : l.length + 1 < scanBound)
    (hQ : ∀ b h', Heap.SameBut a s.heap h' → SetT P w h' a (ins k l) → Q b { s with heap := h' }) : wpAny (model P w) A (setAddHashed a (.str k u) (hashStr w k)) Q E s := by
  obtain ⟨D, ho, F⟩ := R
  by_cases hk : k ∈ l
  · have hk' : ins k l = l := if_pos hk
    obtain ⟨es, ep, t⟩ := D
    obtain ⟨e0, he0, q0⟩ := (F.ok.mem k).mp hk
    have sz : es.size < scanBound := by
      rw [show es.size = l.length from F.ok.sz]
      exact F.few
    unfold setAddHashed setAddHashedIn
    refine wpAny_holding (wpAny_bind (wpAny_setState_of ho (t := t) (es := es) (ep := ep) rfl F.ok.fit ?_))
    dsimp only
    rw [byScan_of (knd := strKind P w) (x := Value.str k u) rfl sz F.ok.el, if_pos rfl]
    unfold setAddByScan
    refine wpAny_bind (wpAny_bind (wpAny_rule (wpAny_bind (wpAny_setScan_of (knd := strKind P w) (k := k) (is_str k u) ho (t := t) (es := es) (ep := ep) rfl F.ok.fit F.ok.el ?_))))
    cases hr : List.findIdx? (fun e => (strKind P w).is k e.2) es.toList with
    | none =>
      have c := List.findIdx?_eq_none_iff.mp hr e0 he0
      rw [q0] at c
      cases c
    | some j =>
      dsimp only
      exact wpAny_pure (wpAny_pure (hQ _ s.heap (Heap.SameBut.refl a _) ⟨_, ho, hk'.symm ▸ F⟩))
  · have hk' : ins k l = k :: l := if_neg hk
    refine add_x (l := l) ho F.ok hk room (hQ _ _ (Heap.SameBut.update _ _ _) ⟨_, get_upd _ ho rfl, ?_⟩)
    rw [hk']
    exact F.add u hk room
/-- x.add(k) -/
theorem put_call {Q : Value → Shared → Prop} (R : SetT P w s.heap a l) (room : l.length + 1 < scanBound)
    (hQ : ∀ h', Heap.SameBut a s.heap h' → SetT P w h' a (ins k l) → Q .none { s with heap := h', toks := s.toks + 1 }) : wpAny (model P w) A (call (.builtin "set.add") [.ref a, .str k u]) Q E s := by
  refine wpAny_call_entry PySem.F.slot_set_add R.ty PySem.F.entry_set_add ?_ (PySem.F.args_set_add_2 _ _)
  unfold Builtin.«set.add» Builtin.Frozenset.oneOther
  simp only [List.isEmpty_nil, bind_assoc]
  unfold Builtin.Frozenset.addrOf setAdd
  refine wpAny_bind (wpAny_pure ?_)
  try dsimp only
  refine wpAny_bind (wpAny_pure ?_)
  try dsimp only
  refine wpAny_bind (wpAny_holding (wpAny_bind ((strKind P w).pyHash (k := k) (is_str k u) ?_)))
  exact put_hashed (s := { s with toks := s.toks + 1 }) R room fun b h' sb r => wpAny_pure ⟨_, rfl, hQ h' sb r⟩
end
/-! ### as a tracked thing -/
/-- the set of the texts l at a -/
def SetTO (P : Program) (w : World) (a : Addr) (l : List Str) : HO := .ext fun h => SetT P w h a l
theorem setTO_new {P : Program} {w : World} {H : Hp} {h : Heap} {a : Addr} {l : List Str} (R : SetT P w h a l) : ObjOk P w H h a (SetTO P w a l) := by
  have ⟨D, ho, _⟩ := R
  exact ⟨R, ⟨_, ho⟩, fun h1 h2 p k => SetT.at p k⟩
section
variable {X : Cx} {pins : List (Addr × Obj)} {σ : L2.St} {H : Hp} {s : Shared}
theorem setTO_get {a : Addr} {l : List Str} (I : Inv X pins σ H s) (ha : H a = some (SetTO X.prog X.w a l)) : SetT X.prog X.w s.heap a l := (I.hok a _ ha).1
theorem put_ok {E : Value → Shared → Prop} {D : Addr} {l : List Str} {k : Str} {u : Tok} {Q : Value → Shared → Prop} (I : Inv X pins σ H s) (hD : H D = some (SetTO X.prog X.w D l)) (room : l.length + 1 < scanBound)
    (h : ∀ s', Inv X pins σ (upd H D (SetTO X.prog X.w D (ins k l))) s' → Q .none s') : wpAny (model X.prog X.w) X.A (call (.builtin "set.add") [.ref D, .str k u]) Q E s :=
  put_call (setTO_get I hD) room fun h' sb new => by
    have he : ∃ q, h'.get? D = some q := let ⟨_, e, _⟩ := new; ⟨_, e⟩
    exact h _ (I.write (e := D) (t' := s.toks + 1) (by rw [hD]; trivial) (.inl rfl) (fun b q hb hq => (sb.2 b hb).trans hq) he (setTO_new new))
end
end
end SX
set_option Elab.async false
set_option linter.all false
set_option maxRecDepth 100000
set_option maxHeartbeats 1000000
/-! sorted of a set of texts; set(texts); {e for ..} of texts -/
namespace SX
open PySem PySem.Spec PyProof.Rows L2 PySem.Froz
noncomputable section
section
variable {X : Cx}
/-- sorted(s), s a set of fewer than 64 texts -/
def rSortedTx (P : Program) (w : World) : List V → Hp → VK → Prop := fun vs H Q => ∃ (a : Addr) (l : List Str), vs = [V.ref a] ∧ H a = some (SetTO P w a l) ∧ l.length < 64 ∧
  ∀ ys p, ys.Perm l → sortedS ys = true → ys.Nodup → H p = none → Q (.ref p) (upd H p (.lst (ys.map V.str)))
theorem cr_sortedTx (hc : X.calm = true) : CallR X (.builtin "sorted") (rSortedTx X.prog X.w) := by
  intro pins s σ H vs us Q I r h
  obtain ⟨a, l, rfl, ha, h64, q⟩ := h
  obtain ⟨⟨es, ep, t⟩, ho, F⟩ := setTO_get I ha
  rw [Vals.ref1 r]
  have sz : es.size = l.length := F.ok.sz
  have szb : es.size < scanBound := by rw [sz]; exact F.few
  refine Calls.call_function_entry PyProof.Rows.kind_sorted PyProof.Rows.plain_sorted PyProof.Rows.entry_sorted (PyProof.Rows.args_sorted1 _) ?_
  unfold Builtin.«sorted»
  refine wpAny_bind (m := checkCount "sorted" 1 1 _) (wpAny_pure (wpAny_bind (collect_set (A := X.A.in1) (I.ok.hd hc) ⟨_, ho, rfl, rfl⟩ F.ok.fit szb F.ris F.led fun s1 out k1 hz g1 o1 pm => ?_)))
  have I1 : Inv X pins σ H s1 := I.call' (ch := []) o1 (Un.kept k1) (I.hok.kept k1) (by rw [g1]; exact I.bare) (fun _ z => nomatch z)
  have ol : out.length = l.length := by rw [pm.length_eq, List.length_map, Array.length_toList, sz]
  have S : StrsAre out (out.map txOf) := strs_of fun v hv => F.strs v (pm.mem_iff.mp hv)
  have pl : (out.map txOf).Perm l := by
    refine (pm.map txOf).trans ?_
    rw [List.map_map]
    exact F.pm
  have big : out.length < 64 := by rw [ol]; exact h64
  refine wpAny_bind (wpAny_newList ?_ (by rw [sizeLine_eq]; omega))
  have oL : (s1.heap.push (seqObj "list" out.toArray 0)).get? s1.heap.objs.size = some (seqObj "list" out.toArray 0) := Heap.get?_push_size _ rfl
  refine wpAny_bind (wpAny_holding (wpAny_call_entry PyProof.Rows.slot_list_sort ⟨_, oL, rfl⟩ PyProof.Rows.entry_list_sort
    (list_sort_treeK strKind_oneLt (s := { s1 with heap := s1.heap.push (seqObj "list" out.toArray 0) }) oL S.keysOf (fun v₁ v₂ rest e => keyKind_strs (by rw [← e]; exact S)) big fun st' hp hs => ⟨_, rfl, ?_⟩)
    (PyProof.Rows.args_list_sort _)))
  obtain ⟨ys, g1', g2, g3⟩ := sorted_out_str S hp hs
  obtain ⟨e', he'⟩ := PyProof.Rows.sortedHeap_at (vs := out) (out := (arrOf st').map (·.2)) oL
  have hlen : (ys.map V.str).length ≤ sizeLine := by
    rw [List.length_map, g2.length_eq, List.length_map, sizeLine_eq]; omega
  have py : ys.Perm l := g2.trans pl
  refine wpAny_pure ⟨_, rfl, .ref s1.heap.objs.size, upd H s1.heap.objs.size (.lst (ys.map V.str)), I1.laid (t' := s1.toks) (fun b u e => ?_) (Nat.le_refl _)
    (show ObjOk X.prog X.w _ _ _ (.lst (ys.map V.str)) from ⟨hlen, ((arrOf st').map (·.2)).toList, e', vals_of_strs g1', by rw [Array.toArray_toList]; exact he'⟩), rfl, q ys _ py g3 (py.nodup_iff.mpr F.nd) (I1.hok.fresh (Nat.le_refl _))⟩
  have hb : b < s1.heap.objs.size := Heap.lt_size e
  rw [PyProof.Rows.sortedHeap_old (Nat.ne_of_lt hb) (by rw [size_push']; exact Nat.lt_succ_of_lt hb)]
  exact Heap.get?_push_of_some _ e
end
/-! ### set(texts) -/
/-- the texts met, each once -/
def gather (xs : List Str) : List Str := xs.foldl (fun l k => ins k l) []
theorem gather_snoc (xs : List Str) (k : Str) : gather (xs ++ [k]) = ins k (gather xs) := by
  unfold gather
  rw [List.foldl_append]
  rfl
theorem mem_gather_go {x : Str} : ∀ (xs l : List Str), x ∈ xs.foldl (fun l k => ins k l) l ↔ x ∈ xs ∨ x ∈ l
  | [], l => by simp
  | k :: xs, l => by
    show x ∈ xs.foldl (fun l k => ins k l) (ins k l) ↔ _
    rw [mem_gather_go xs (ins k l), mem_ins, List.mem_cons]
    exact ⟨fun h => h.elim (fun z => .inl (.inr z)) fun h => h.elim (fun z => .inl (.inl z)) .inr, fun h => h.elim (fun h => h.elim (fun z => .inr (.inl z)) .inl) fun z => .inr (.inr z)⟩
theorem mem_gather {x : Str} {xs : List Str} : x ∈ gather xs ↔ x ∈ xs := by
  unfold gather
  rw [mem_gather_go]
  simp
theorem len_gather_go : ∀ (xs l : List Str), (xs.foldl (fun l k => ins k l) l).length ≤ l.length + xs.length
  | [], l => Nat.le_refl _
  | k :: xs, l => by
    have h1 := len_gather_go xs (ins k l)
    have h2 := len_ins k l
    show (xs.foldl (fun l k => ins k l) (ins k l)).length ≤ l.length + (xs.length + 1)
    omega
theorem len_gather (xs : List Str) : (gather xs).length ≤ xs.length := by
  have := len_gather_go xs []
  simpa [gather] using this
theorem nodup_gather_go : ∀ (xs l : List Str), l.Nodup → (xs.foldl (fun l k => ins k l) l).Nodup
  | [], _, h => h
  | k :: xs, l, h => nodup_gather_go xs (ins k l) (nodup_ins h)
theorem nodup_gather (xs : List Str) : (gather xs).Nodup := nodup_gather_go xs [] List.nodup_nil
/-- all that stood stands, and the rest of the machine is as it was -/
structure Old (s0 s : Shared) : Prop where
  heap : ∀ b o, s0.heap.get? b = some o → s.heap.get? b = some o
  gens : s.gens = s0.gens
  drawn : s.drawn = s0.drawn
  os : s.os = s0.os
section
variable {P : Program} {w : World} {A : Around} {E : Value → Shared → Prop} {s : Shared}
theorem update_loop {I S : Addr} {fp wr : List Addr} {G : Array GenState → Array GenState → Prop} {n : Nat} {Pv : Nat → Value → Prop} {St : Nat → Shared → Prop} {R : Result → Shared → Prop} (W : WalksS P w A.in1 I fp wr G n Pv St) (hG : ∀ x y, G x y → y = x) (hS : S ∉ fp) {xs : List Str} (hn : n = xs.length) (hb : n < scanBound)
    (hv : ∀ i v, Pv i v → ∃ x u, xs[i]? = some x ∧ v = Value.str x u) {s0 : Shared} (f1 : s0.heap.get? S = none) (f2 : ∀ b ∈ wr, s0.heap.get? b = none) (hR : ∀ s', Old s0 s' → SetT P w s'.heap S (gather xs) → R (.ok (.ret .none)) s') :
    ∀ (m i : Nat) (s : Shared), n - i = m → i ≤ n → St i s → Old s0 s → SetT P w s.heap S (gather (xs.take i)) → codeAny (model P w) A (.builtin "set.update.loop" ⟨[.ref S, .ref I], []⟩) R s := by
  have old : ∀ {s s' : Shared}, Moved wr G s s' → Old s0 s → Old s0 s' := fun m o => ⟨fun b u e => m.heap b u (fun z => by rw [f2 b z] at e; cases e) (o.heap b u e), (hG _ _ m.gens).trans o.gens, m.drawn.trans o.drawn, m.os.trans o.os⟩
  have stays : ∀ {s s' : Shared} {l : List Str}, Moved wr G s s' → SetT P w s.heap S l → SetT P w s'.heap S l := fun m r => r.at fun o e => m.heap S o (fun z => hS (W.sub _ z)) e
  intro m
  induction m with
  | zero =>
    intro i s hm hi st o r
    have e : i = n := by omega
    rw [e] at st r
    refine codeAny_builtin PyProof.Rows.F.entry_set_update_loop ?_
    rw [Around.under_plainId PyProof.Rows.F.plain_set_update_loop _]
    show wpAny _ A.in1 (pyNext (.ref I) >>= _) _ _ s
    refine wpAny_bind (W.done s _ _ st fun s' mv => wpAny_pure (hR s' (old mv o) ?_))
    rw [hn, List.take_length] at r
    exact stays mv r
  | succ m ih =>
    intro i s hm hi st o r
    have lt : i < n := by omega
    refine codeAny_builtin PyProof.Rows.F.entry_set_update_loop ?_
    rw [Around.under_plainId PyProof.Rows.F.plain_set_update_loop _]
    show wpAny _ A.in1 (pyNext (.ref I) >>= _) _ _ s
    refine wpAny_bind (W.item i s _ _ lt st fun v s' hP st' mv => ?_)
    obtain ⟨x, u, hx, rfl⟩ := hv i v hP
    have r' := stays mv r
    have o' := old mv o
    have tk : xs.take (i + 1) = xs.take i ++ [x] := take_next hx
    have room : (gather (xs.take i)).length + 1 < scanBound + 1 := by
      have h1 := len_gather (xs.take i)
      have h2 : (xs.take i).length ≤ i := by rw [List.length_take]; omega
      omega
    show wpAny _ A.in1 (holding [Value.str x u] (setAdd S (.str x u)) >>= _) _ _ s'
    refine wpAny_bind (wpAny_holding ?_)
    unfold setAdd
    refine wpAny_holding (wpAny_bind ((strKind P w).pyHash (k := x) (is_str x u) (put_hashed (s := { s' with toks := s'.toks + 1 }) r' ?_ fun b h' sb r2 => ?_)))
    · have h1 := len_gather (xs.take i)
      have h2 : (xs.take i).length ≤ i := by rw [List.length_take]; omega
      omega
    · rw [← gather_snoc, ← tk] at r2
      refine wpAny_pure ⟨plainId_quiet PyProof.Rows.F.plain_set_update_loop _, ih (i + 1) _ (by omega) lt (W.frame _ s' _ _ st' (Nat.le_add_right _ _) fun b hb o e => ?_) ⟨fun b u e => ?_, o'.gens, o'.drawn, o'.os⟩ r2⟩
      · exact (sb.2 b (fun z => hS (z ▸ hb))).trans e
      · exact (sb.2 b (fun z => by rw [z, f1] at e; cases e)).trans (o'.heap b u e)
end
abbrev sNew (w : World) : Obj := sObj "set" (new0 w)
theorem set_new (h : Heap) {P : Program} {w : World} {h' : Heap} (k : ∀ b o, (h.push (sNew w)).get? b = some o → h'.get? b = some o) : SetT P w h' h.objs.size [] := ⟨_, k _ _ (Heap.get?_push_size _ rfl), pay_new⟩
section
variable {P : Program} {w : World} {A : Around} {E : Value → Shared → Prop} {s : Shared}
theorem none_up {h : Heap} {b : Addr} (z : h.objs.size ≤ b) : h.get? b = none := by
  cases q : h.get? b with
  | none => rfl
  | some o => exact absurd (Nat.lt_of_lt_of_le (Heap.lt_size q) z) (Nat.lt_irrefl _)
theorem strs_get {xs : List Str} : ∀ {us : List Value}, StrsAre us xs → ∀ (i : Nat) (v : Value), us[i]? = some v → ∃ x u, xs[i]? = some x ∧ v = Value.str x u := by
  intro us h
  induction h with
  | nil => intro i v e; simp at e
  | cons y t r ih =>
    intro i v e
    cases i with
    | zero => exact ⟨y, t, rfl, (Option.some.inj e).symm⟩
    | succ i => exact ih i v e
theorem strs_len {us : List Value} {xs : List Str} (h : StrsAre us xs) : us.length = xs.length := by
  induction h with
  | nil => rfl
  | cons y t r ih => simp [ih]
set_option maxHeartbeats 4000000 in
theorem call_setTx {l : Addr} {items : Array Value} {xs : List Str} {Q : Value → Shared → Prop} (hh : A.handled = none) (hl : s.heap.IsList l items) (hx : StrsAre items.toList xs) (hb : xs.length < scanBound)
    (hQ : ∀ s', Old s s' → SetT P w s'.heap s.heap.objs.size (gather xs) → Q (.ref s.heap.objs.size) s') : wpAny (model P w) A (call (.type "set") [.ref l]) Q E s := by
  have isz : items.size = xs.length := by rw [← Array.length_toList]; exact strs_len hx
  obtain ⟨c, tl, hmro⟩ := PySem.F.called_set.mro
  have hm := PySem.F.called_set.made
  have hs := PySem.F.called_set.sub
  refine wpAny_call (codeAny_of_tree ?_)
  show wpAny _ _ (callAny (.type "set") _) _ _ _
  refine wpAny_pure ⟨Code.quiet_builtin _ (by decide +kernel), codeAny_builtin PySem.F.entry_type_call ?_⟩
  rw [Around.under_plain (weight_type_call_type "set" [.ref l] []) rfl]
  have t1 := PySem.F.called_set.notType
  have t2 := PySem.F.called_set.canCreate
  have ct := PySem.F.typeCall_set_1 (.ref l)
  repeat (any_goals (first | assumption | wp_step))
  refine codeAny_mono (code_set_led1 (.ref l) (E := E) (Q₁ := fun obj s₁ => obj = .ref s.heap.objs.size ∧ s₁ = { s with heap := s.heap.push (sNew w) }) ⟨rfl, rfl⟩) fun r s₁ hr => ?_
  cases r with
  | error e => exact hr
  | ok fl => cases fl with
    | ret obj =>
      obtain ⟨rfl, rfl⟩ := hr
      have ob : (s.heap.push (sNew w)).get? s.heap.objs.size = some (sNew w) := Heap.get?_push_size _ rfl
      have ty : Shared.TypeIs { s with heap := s.heap.push (sNew w) } (.ref s.heap.objs.size) "set" := ⟨_, ob, rfl⟩
      have li := PySem.F.called_set.init.lookup
      have bi := PySem.F.called_set.init.bind (.ref s.heap.objs.size)
      repeat (any_goals (first | assumption | wp_step))
      refine codeAny_mono (codeAny_call_builtin (R := wants (fun r s₂ => r = .none ∧ Old s s₂ ∧ SetT P w s₂.heap s.heap.objs.size (gather xs)) E) PySem.F.called_set.init.plain PySem.F.entry_set_init (check_set_init_1 ty ?_)) fun r₂ s₂ hr₂ => ?_
      · obtain ⟨⟨oc, od, odata, osl⟩, hol, hcl, nl, hdl⟩ := hl
        simp only at hcl hdl
        subst hcl hdl
        have hol' : (s.heap.push (sNew w)).get? l = some { cls := .type "list", dict := od, data := .seq items nl, slots := osl } := Heap.get?_push_of_some _ hol
        have s1 := PySem.F.sub_list_set
        have s2 := PySem.F.sub_list_frozenset
        have s3 : (Value.type "list" == Value.type "dict") = false := by decide
        have hl1 : (s.heap.push (sNew w)).IsList l items := ⟨_, hol', rfl, nl, rfl⟩
        unfold Builtin.«set.__init__» noKeywords Builtin.Frozenset.updateFrom
        generalize hPI : pyIter = PI
        wp_walk
        subst hPI
        refine wpAny_pyIter_list hl1 (wpAny_bind (wpAny_runValue ?_))
        have lt : l < s.heap.objs.size := Heap.lt_size hol
        have z1 : (s.heap.push (sNew w)).objs.size = s.heap.objs.size + 1 := Heap.size_push ..
        have ne1 : l ≠ (s.heap.push (sNew w)).objs.size := by rw [z1]; exact Nat.ne_of_lt (Nat.lt_succ_of_lt lt)
        refine update_loop ((Walks.list (by simp [hh]) _ l ne1 items).toS) (fun _ _ e => e) (S := s.heap.objs.size) ?_ (xs := xs) isz (by omega) (fun i v hv => strs_get hx i v (by rw [Array.getElem?_toList]; exact hv))
          (s0 := s) (none_up (Nat.le_refl _)) (fun b hb => none_up ?_) (fun s' o r => ?_) (items.size - 0) 0 _ rfl (Nat.zero_le _) ⟨⟨_, Heap.get?_push_size _ rfl, rfl, rfl⟩, hl1.push _⟩
          ⟨fun b o e => Heap.get?_push_of_some _ (Heap.get?_push_of_some _ e), rfl, rfl, rfl⟩ (set_new s.heap fun b o e => Heap.get?_push_of_some _ e)
        · simp only [List.mem_cons, List.mem_singleton, List.not_mem_nil, or_false, not_or]
          exact ⟨by rw [z1]; exact Nat.ne_of_lt (Nat.lt_succ_self _), Nat.ne_of_gt lt⟩
        · rw [List.mem_singleton.mp hb]; omega
        · refine wpAny_pure ?_
          show wpAny _ _ (ret Value.none) _ _ _
          exact wpAny_pure ⟨rfl, o, r⟩
      · cases r₂ with
        | error e => exact hr₂
        | ok fl₂ => cases fl₂ with
          | ret r =>
            obtain ⟨rfl, o, hr⟩ := hr₂
            repeat (any_goals (first | assumption | wp_step))
            exact hQ _ o hr
          | _ => exact hr₂.elim
    | _ => exact hr.elim
end
section
variable {X : Cx}
/-- set(xs), xs a list of texts -/
def rSetOfTx (K : PySem.W.Frag) (P : Program) (w : World) : List V → Hp → VK → Prop := fun vs H Q => ∃ (a : Addr) (xs : List Str), vs = [V.ref a] ∧ SqL K H a (xs.map V.str) ∧ xs.length < scanBound ∧ ∀ p, H p = none → Q (.ref p) (upd H p (SetTO P w p (gather xs)))
theorem cr_setOfTx (hc : X.calm = true) : CallR X (.type "set") (rSetOfTx X.K X.prog X.w) := by
  intro pins s σ H vs us Q I r h
  obtain ⟨a, xs, rfl, hs, hb, q⟩ := h
  obtain ⟨its, rv, hl, hz⟩ := I.list hs
  rw [Vals.ref1 r]
  refine call_setTx (I.ok.hd hc) hl.isList (by simpa using rv.strs) hb fun s' o new => ?_
  have hn : H s.heap.objs.size = none := I.hok.fresh (Nat.le_refl _)
  exact ⟨.ref _, _, I.call' (ch := []) o.os (Un.laid o.heap (Nat.le_refl _) hn) (I.hok.laid o.heap (Nat.le_refl _) (setTO_new new)) (by rw [o.gens]; exact I.bare) (fun _ z => nomatch z), rfl, q _ hn⟩
end
end
end SX
set_option Elab.async false
set_option linter.all false
set_option maxRecDepth 100000
set_option maxHeartbeats 2000000
/-! {e for target in walked if test}, e a text -/
namespace SX
open PySem PySem.Spec PyProof.Rows L2 PySem.Froz PpSet
noncomputable section
/-- behind a turn's test: the text goes into the set at D -/
def tPut (P : Program) (w : World) (D : Addr) (te : TE) (σ : L2.St) (Nx : Hp → Prop) : Bool → Hp → Prop := fun b H =>
  if b = true then te σ H fun y H' => ∃ k l, y = .str k ∧ H' D = some (SetTO P w D l) ∧ l.length + 1 < scanBound ∧ Nx (upd H' D (SetTO P w D (ins k l))) else Nx H
def tSetc (P : Program) (w : World) (wi : TI) (g : TG) (tt : TT) (te : TE) (vs : List Nat) : TE := fun σ H Q => wi σ H fun J H1 => ∀ D, H1 D = none → ∃ W : Nat → Nat → Hp → Prop, (∃ m, W 0 m (upd H1 D (SetTO P w D []))) ∧ ∀ i m H, W i m H →
  (J.stop i H ∧ Q (.ref D) H) ∨ (J.go i H ∧ ∃ Nx : Hp → Prop, (∀ H', Nx H' → ∃ m', m' < m ∧ W (i + 1) m' H') ∧ ∀ x H', J.yld i H x H' → g x (wipe σ vs) H' fun σ2 H2 => wipe σ2 vs = wipe σ vs ∧ tt σ2 H2 (tPut P w D te σ2 Nx))
section
variable {X : Cx}
theorem pe_setc {elt tg iter : Expr} {ifs : List Expr} {scope : Scope} {own : List (PySem.Str × Nat)} {pos : Pos} {wi : TI} {g : TG} {tt : TT} {te : TE} (hc : X.calm = true) (hN : X.N.Nodup) (hi : PI X tg iter wi) (ok : BlkOk X.N X.env.scope scope own)
    (hg : ∀ (s : Shared) (H : Hp) (C : Addr) (cl : List (PySem.Str × Addr)) (fp : List Addr), PG (X.blk s H scope (compEnvC scope cl C X.env) fp) tg g) (ht : ∀ (s : Shared) (H : Hp) (C : Addr) (cl : List (PySem.Str × Addr)) (fp : List Addr), PTs (X.blk s H scope (compEnvC scope cl C X.env) fp) ifs tt)
    (he : ∀ (s : Shared) (H : Hp) (C : Addr) (cl : List (PySem.Str × Addr)) (fp : List Addr), PE (X.blk s H scope (compEnvC scope cl C X.env) fp) elt te) (hs : ∀ x, foldedSetIterable iter X.env x = pure x := by intro _; rfl) :
    PE X (.SetComp elt [⟨tg, iter, ifs, 0⟩] scope pos) (tSetc X.prog X.w wi g tt te (own.map (·.2))) := by
  refine ⟨fun pins s σ H Q I h => ?_⟩
  rw [eval_SetComp]
  refine wpAny_comprehension_free (use := none) rfl hs (closure_ok fun y hy e => (ok.free y hy e).elim (fun k => I.ok.has _ (.inl k)) fun k => I.ok.has _ (.inr k)) ok.kind (fun y hy e => by rw [ok.uniq y hy, e])
    (thn (hi.run pins s σ H _ I h) fun xv s1 hx => thn hx fun itv s2 ⟨it, fp, tn, J, H2, e, I2, T, st2, f2, q⟩ => ?_)
  subst e
  refine newSet_ok (newEnv_comp ?_)
  generalize hD : s2.heap.objs.size = D
  have nD : H2 D = none := I2.hok.fresh (Nat.le_of_eq hD)
  obtain ⟨W, ⟨m0, w0⟩, turn⟩ := q D nD
  generalize hs3 : ({ s2 with heap := s2.heap.push { cls := .type "set", dict := none, data := .set #[] 0 (.fresh 0 0 (!X.w.params.followText "set-order")) } } : Shared) = s3
  have h3 : s3.heap = s2.heap.push (sNew X.w) := by rw [← hs3]; rfl
  have I3 : Inv X pins σ (upd H2 D (SetTO X.prog X.w D [])) s3 := by
    rw [← hs3]
    exact I2.laid (t' := s2.toks) (fun b o e => Heap.get?_push_of_some _ e) (Nat.le_of_eq hD) (hD ▸ setTO_new (set_new s2.heap fun b o e => e))
  have f3 : ∀ b ∈ fp, FpOk X pins (upd H2 D (SetTO X.prog X.w D [])) b ∧ b < s3.heap.objs.size := fun b hb => by
    obtain ⟨o, e, _⟩ := T.obj _ _ st2 b hb
    have lt := Heap.lt_size e
    refine ⟨⟨?_, (f2 b hb).2⟩, by rw [h3, Heap.size_push]; exact Nat.lt_succ_of_lt lt⟩
    rw [upd_ne (Nat.ne_of_lt (hD ▸ lt))]
    exact (f2 b hb).1
  have st3 : tn 0 s3.heap := T.keep _ _ _ st2 fun b _ o e => by rw [h3]; exact Heap.get?_push_of_some _ e
  have I4 := block_start I3 ok hN f3
  show codeAny _ _ (.compStart (.SetComp elt [⟨tg, iter, ifs, 0⟩] scope pos) 0 (.ref it) (.ref D) (compEnvC scope (cellsFrom (s3.heap.objs.size + 1) scope.names (cloFrom X.env.cells scope.names [])) s3.heap.objs.size X.env)) (compPost (model X.prog X.w) X.A X.xe none (EP X pins σ Q) (.ref D) s3.heap.objs.size) { s3 with heap := pushCells (s3.heap.push { cls := .type "dict", data := .dict #[] }) scope.names }
  generalize hC : s3.heap.objs.size = C at I4 ⊢
  generalize hcl : cellsFrom (C + 1) scope.names (cloFrom X.env.cells scope.names []) = cl at I4 ⊢
  generalize hH3 : upd H2 D (SetTO X.prog X.w D []) = H3 at I3 I4 w0 f3
  have pg := hg s3 H3 C cl fp
  have pt := ht s3 H3 C cl fp
  have pe := he s3 H3 C cl fp
  generalize hce : compEnvC scope cl C X.env = ce at I4 pg pt pe ⊢
  have cL : ce.locals = C := by rw [← hce]; rfl
  generalize hs4 : ({ s3 with heap := pushCells (s3.heap.push { cls := .type "dict", data := .dict #[] }) scope.names } : Shared) = s4 at I4 ⊢
  have st4 : tn 0 s4.heap := T.keep _ _ _ st3 fun b _ o e => by rw [← hs4]; exact pushCells_keeps _ _ _ _ (Heap.get?_push_of_some _ e)
  have stat : ∀ {σ' : L2.St} {H' : Hp} {s' : Shared}, Inv (X.blk s3 H3 scope ce fp) [] σ' H' s' → (∀ b ∈ fp, H' b = none) → ∀ b ∈ fp, FpOk (X.blk s3 H3 scope ce fp) [] H' b := fun I' hn b hb =>
    ⟨hn b hb, (I'.ok.exf b hb).1, I'.ok.exfs b hb, .inl hb, fun x c e => (I'.ok.exf b hb).2 x c e, fun p hp => absurd (show p ∈ ([] : List (Addr × Obj)) ++ [] from hp) (by simp)⟩
  have loop : codeAny (model X.prog X.w) X.A (.compLoop (.SetComp elt [⟨tg, iter, ifs, 0⟩] scope pos) 0 (.ref it) (.ref D) ce) (compPost (model X.prog X.w) X.A X.xe none (EP X pins σ Q) (.ref D) C) s4 := by
    refine compLoopS_any (fun n s' => ∃ i H', Inv (X.blk s3 H3 scope ce fp) [] (wipe σ (own.map (·.2))) H' s' ∧ tn i s'.heap ∧ (∀ b ∈ fp, H' b = none) ∧ W i n H') ?_ m0 ⟨0, H3, I4, st4, fun b hb => (f3 b hb).1.1, w0⟩
    rintro n s5 ⟨i, H5, I5, st5, n5, w5⟩
    rcases turn i n H5 w5 with ⟨stop, qq⟩ | ⟨go, Nx, hNx, step⟩
    · refine thnF (T.done (X.blk s3 H3 scope ce fp) rfl rfl rfl hc i [] s5 _ H5 (fun _ _ => False) I5 (stat I5 n5) st5 stop) fun r s6 ⟨hr, I6⟩ => ?_
      subst hr
      have I7 : Inv X pins σ H5 s6 := I3.call' (ch := fp) I6.os I6.base I6.hok I6.bare fun b hb => ⟨(f3 b hb).1.2.2.2.1, (f3 b hb).1.2.1, (f3 b hb).1.2.2.2.2.1, (f3 b hb).1.2.2.2.2.2⟩
      have nC : H5 s3.heap.objs.size = none := by rw [hC, ← cL]; exact I6.free
      obtain ⟨m, hn, _⟩ := I6.loc
      have hn : s6.heap.Ns ce.locals m := hn
      rw [cL] at hn
      obtain ⟨f0, f1, _, f3', f4, f5⟩ := I3.fpOk (Nat.le_refl _) nC
      refine ⟨m, hn, fun h'' sb => ⟨.ref D, H5, I7.turned (t' := s6.toks) (fun b o hb e => (sb.2 b hb).trans e) (by rw [← hC]; exact f0) (by rw [← hC]; exact f1) (by rw [← hC]; exact f3') (by rw [← hC]; exact f4) (by rw [← hC]; exact f5), rfl, qq⟩⟩
    · refine thnF (T.item (X.blk s3 H3 scope ce fp) rfl rfl rfl hc i [] s5 _ H5 (fun _ _ => False) I5 (stat I5 n5) st5 go) fun r s6 ⟨u, hr, h6⟩ => ?_
      subst hr
      refine thnF h6 fun _ s7 ⟨x, H7, I7, r7, y7, st7, n7⟩ => ?_
      have I7' := I7.pinned (stat I7 n7) (T.obj _ _ st7)
      refine thnF (pg.run _ s7 _ H7 x u _ I7' r7 (step x H7 y7)) fun _ s8 ⟨σ8, H8, I8, hw8, q8⟩ => ?_
      refine thnF (pt.run _ s8 σ8 H8 _ I8 q8) fun b s9 ⟨H9, I9, q9⟩ => ?_
      have fin : ∀ {s' : Shared} {H' : Hp}, Inv (X.blk s3 H3 scope ce fp) ([] ++ pinsAt fp s7.heap) σ8 H' s' → Nx H' → ∃ m, m < n ∧ ∃ i H', Inv (X.blk s3 H3 scope ce fp) [] (wipe σ (own.map (·.2))) H' s' ∧ tn i s'.heap ∧ (∀ b ∈ fp, H' b = none) ∧ W i m H' := fun {s' H'} I' nx => by
        obtain ⟨m', hm, w'⟩ := hNx H' nx
        have pin : ∀ b ∈ fp, ∀ o, s7.heap.get? b = some o → s'.heap.get? b = some o ∧ H' b = none := fun b hb o e =>
          let z := I'.pin (b, o) (List.mem_append_right _ (List.mem_append_right _ (mem_pinsAt hb e)))
          ⟨z.1, z.2.1⟩
        refine ⟨m', hm, i + 1, H', (I'.unpinned (pins := [])).weak (by rw [← hw8, wipe_length]) (fun j v e => (wipe_some (hw8 ▸ e)).1), T.keep _ _ _ st7 fun b hb o e => (pin b hb o e).1, fun b hb => ?_, w'⟩
        obtain ⟨o, e, _⟩ := T.obj _ _ st7 b hb
        exact (pin b hb o e).2
      unfold tPut at q9
      cases b with
      | false =>
        simp only [Bool.false_eq_true, if_false] at q9 ⊢
        exact fin I9 q9
      | true =>
        simp only [if_true] at q9 ⊢
        refine thnF (pe.run _ s9 σ8 H9 _ I9 q9) fun z s10 ⟨yv, H10, I10, r10, k, l, ey, hl, room, nx⟩ => ?_
        subst ey
        obtain ⟨tk, rfl⟩ := r10
        exact put_ok (X := X.blk s3 H3 scope ce fp) I10 hl room fun s11 I11 => fin I11 nx
  exact codeAny_compStart_set loop (T.self X.A 0 _ _ _ st4 loop)
end
end
end SX
set_option Elab.async false
set_option linter.all false
set_option maxRecDepth 100000
set_option maxHeartbeats 1000000
/-! Program.__init__ -/
namespace FR
open PySem PySem.Spec PyProof.Rows L2

section
variable {P : Program} {w : World} {K : PySem.W.Frag} {mg : Str → Option Value} {base : Heap}
/-- instances of an own class, as isinstance sees them -/
structure OwnTy (K : PySem.W.Frag) (C : Addr) : Prop where
  cl : Cls K C
  ha : PySem.W.findIn K (.ref C) "__class__" = some (some (.builtin "object.__class__"))
  hn : PySem.W.specialIn K (.builtin "object.__class__") "__get__" = some (some (.builtin "getset_descriptor.__get__"))
  htk : PySem.W.takesIn K (.builtin "object.__class__") = some true
  hm : PySem.W.mroIn K C (.type "object") = some true
theorem OwnTy.ins {K : PySem.W.Frag} {C : Addr} (o : OwnTy K C) {H : Hp} {a dx : Addr} {fs : List (Str × V)} (e : H a = some (.ins C dx fs)) : TyOf K H (.ref a) (.ref C) := TyOf.ins e o.cl o.ha o.hn o.htk o.hm
/-- the dict of bodies in the instance at x is new -/
def FreshB (H H' : Hp) (x : Addr) : Prop := ∃ d C dx r, H' x = some (.ins C dx (("_bodies", .ref d) :: r)) ∧ H d = none
theorem FreshB.back {H H1 H' : Hp} {x : Addr} (h : FreshB H1 H' x) (s : Same H H1) : FreshB H H' x := by
  obtain ⟨d, C, dx, r, e, n⟩ := h
  refine ⟨d, C, dx, r, e, ?_⟩
  cases c : H d with
  | none => rfl
  | some o => rw [s _ _ c] at n; cases n
/-- Program(..): the bodies come in a Given, or as keywords -/
def spPi (K : PySem.W.Frag) (C CG : Addr) : Sp := fun vs H Q _ => ∃ (x d dx : Addr) (kvs : List (Key × V)) (p : Pg), vs = [.ref x, .ref d] ∧ H x = some (.ins C dx []) ∧
  ((∃ g dg t, H d = some (.dK [(.inr "_given", .ref g)]) ∧ H g = some (.ins CG dg [("table", .ref t)]) ∧ H t = some (.dK kvs)) ∨ (H d = some (.dK kvs) ∧ valV kvs (.inr "_given") = none)) ∧ PrgK H kvs p ∧ Prg p ∧ (names p).Nodup ∧
  ∀ q H', q.Perm p → sortedS (names q) = true → (∀ a o, a ≠ x → H a = some o → H' a = some o) → IsPg K C H' x q → FreshB H H' x → Q .non H'
theorem pi_read {k : Nat} {f fp dT : Addr} {fdp : FuncData} (GP : FnOk P w K mg base CX0 6 fp fdp ["body", "path"] (spPls K 5)) (mP : mg "placed_statements" = some (.ref fp)) (kP : PySem.W.keepIn K (.ref fp) = true) {ds : List Value} (bP : Binds K fdp ["body", "path"] ds) (vP : Vals [V.ref dT] ds) (hT : ∀ H, SqT K H dT []) {C CG : Addr} (cl : Cls K C) (nb : NoAttr K C "_bodies") (ns : NoAttr K C "_size") (ne : NoAttr K C "_events") (nc : NoAttr K C "_choices") (clG : Cls K CG) (nG : NoAttr K CG "table") (oG : OwnTy K CG) (kNo : PySem.W.kitOne K (.type "NoneType") (.ref CG) = some false) (kYes : PySem.W.kitOne K (.ref CG) (.ref CG) = some true) {cdv : Value} {A : Around} {outer : List Env} {s : Shared} {H : Hp} {E : XK} {vs : List V} {Q : VK} (T : TxtP mg) (mG : mg "Given" = some (.ref CG)) (gA : Glo P w K mg base "_are_program" 12 ["bodies"] spAp) (hr : Room 12 (A.deeper (envOfC "Program.__init__" (defScope sPi) s.heap.objs.size f cdv)))
    (h : spPi K C CG vs H Q E) : ∃ t, PSs (cxOf CX0 P w K mg base NPi "Program.__init__" (defScope sPi) f cdv A outer s H E).nox (defBody sPi) t ∧ t { nx := fun _ H' => Q .non H', rt := Q } (start NPi vs) H := by
  have hu := hu_of hr
  obtain ⟨x, d, dx, kvs, p, rfl, hx, hd, hk, hp, hn, q⟩ := h
  obtain ⟨tR, hR, qR⟩ : ∃ t, PSs (cxOf CX0 P w K mg base NPi "Program.__init__" (defScope sPi) f cdv A outer s H E).nox ((defBody sPi).drop 2) t ∧ ∀ (gv : V) (tt : Addr), H tt = some (.dK kvs) → t { nx := fun _ H' => Q .non H', rt := Q } [some (.ref x), some (.ref d), some gv, some (.ref tt), none, none, none, none, none, none] H := by
    refine ⟨_, (pss_cons (ps_if (pt_not (pt_val (pe_call gA.G (hr.mono (by decide)) (by rfl) gA.m gA.k gA.b .nil pass0 (pa_cons (pv 3) pa_nil)))) pss_never pss_nil)
      (pss_cons (ps_fld (pv 0) (pe_dc (X := (cxOf CX0 P w K mg base NPi "Program.__init__" (defScope sPi) f cdv A outer s H E).nox) (own := [("name", 5)]) (g := (gName 5)) (tt := tYes) rfl scPi.nd (pi_list (pe_callB (call_sortedD rfl) (by rfl) T.sorted (by decide +kernel) (pa_cons (pv 3) pa_nil))) (blkOk_by (N := NPi) (sc := defScope sPi) (by decide +kernel)) (fun _ _ _ _ _ => (pg_name (i := 5) scPi.nd rfl (.inl rfl))) (fun _ _ _ _ _ => pts_nil) (fun _ _ _ _ _ => (pv 5)) (fun _ _ _ _ _ => (pe_dget hu (pv 3) (pv 5) (fun _ _ => rfl)))) rfl)
      (pss_cons (ps_lock (ps_setLc2 (i := 4) (X := (cxOf CX0 P w K mg base NPi "Program.__init__" (defScope sPi) f cdv A outer s H E).nox) (own := [("name", 5), ("body", 6), ("path", 7), ("statement", 8)]) (vs1 := [7, 8]) (g := (gTup K 2 (gCons (gName 5) (gCons (gName 6) gNil)))) (tt := tYes) (g1 := (gTup K 2 (gCons (gName 7) (gCons (gName 8) gNil)))) (tt1 := tYes) rfl scPi.nd rfl rfl (by rfl) (pi_items (pe_fld (pv 0) rfl)) (blkOk_by (N := NPi) (sc := defScope sPi) (by decide +kernel)) (by decide) (fun _ _ _ _ _ => (pg_tupK (K := K) rfl rfl (pgs_cons (pg_name (i := 5) scPi.nd rfl (.inl rfl)) (pgs_cons (pg_name (i := 6) scPi.nd rfl (.inl rfl)) pgs_nil)))) (fun _ _ _ _ _ => pts_nil) (fun _ _ _ _ _ => (pi_listK (K := K) rfl (pe_call GP (hr.mono (by decide)) (by rfl) mP kP bP vP pass0 (pa_cons (pv 6) pa_nil)))) (fun _ _ _ _ _ => (pg_tupK (K := K) rfl rfl (pgs_cons (pg_name (i := 7) scPi.nd rfl (.inl rfl)) (pgs_cons (pg_name (i := 8) scPi.nd rfl (.inl rfl)) pgs_nil)))) (fun _ _ _ _ _ => pts_nil) (fun _ _ _ _ _ => (pe_tup (pa_cons (pv 5) (pa_cons (pv 7) (pa_cons (pv 8) pa_nil)))))))
      (pss_cons (ps_fld (pv 0) (pe_callB call_len_seq (by rfl) T.len PySem.boot_len (pa_cons (pv 4) pa_nil)) rfl)
      (pss_cons (ps_fld (pv 0) (pe_callTy (call_tuple_ofK (K := K) rfl) (by rfl) T.tup (by decide +kernel) (pa_cons (pe_callB (SX.cr_sortedTx rfl) (by rfl) T.sorted (by decide +kernel) (pa_cons (SX.pe_setc (X := (cxOf CX0 P w K mg base NPi "Program.__init__" (defScope sPi) f cdv A outer s H E).nox) (own := [("_", 9), ("statement", 8)]) (g := (gTup K 3 (gCons (gName 9) (gCons (gName 9) (gCons (gName 8) gNil))))) rfl scPi.nd (pi_listK (K := K) rfl (pv 4)) (blkOk_by (N := NPi) (sc := defScope sPi) (by decide +kernel)) (fun _ _ _ _ _ => (pg_tupK (K := K) rfl rfl (pgs_cons (pg_name (i := 9) scPi.nd rfl (.inl rfl)) (pgs_cons (pg_name (i := 9) scPi.nd rfl (.inl rfl)) (pgs_cons (pg_name (i := 8) scPi.nd rfl (.inl rfl)) pgs_nil))))) (fun _ _ _ _ _ => (pts_one (pt_cmpR op_eq (pe_ix (ix_tupK (K := K) rfl) (pv 8) pe_int (fun _ _ => rfl)) pe_str (nomark _)))) (fun _ _ _ _ _ => (pe_ix (ix_tupK (K := K) rfl) (pv 8) pe_int (fun _ _ => rfl)))) pa_nil)) pa_nil)) rfl)
      (pss_one (ps_fld (pv 0) (pe_callTy (call_tuple_ofK (K := K) rfl) (by rfl) T.tup (by decide +kernel) (pa_cons (pe_lc (X := (cxOf CX0 P w K mg base NPi "Program.__init__" (defScope sPi) f cdv A outer s H E).nox) (own := [("name", 5), ("path", 7), ("statement", 8)]) (g := (gTup K 3 (gCons (gName 5) (gCons (gName 7) (gCons (gName 8) gNil))))) rfl scPi.nd (pi_listK (K := K) rfl (pv 4)) (blkOk_by (N := NPi) (sc := defScope sPi) (by decide +kernel)) (fun _ _ _ _ _ => (pg_tupK (K := K) rfl rfl (pgs_cons (pg_name (i := 5) scPi.nd rfl (.inl rfl)) (pgs_cons (pg_name (i := 7) scPi.nd rfl (.inl rfl)) (pgs_cons (pg_name (i := 8) scPi.nd rfl (.inl rfl)) pgs_nil))))) (fun _ _ _ _ _ => (pts_one (pt_cmpR op_eq (pe_ix (ix_tupK (K := K) rfl) (pv 8) pe_int (fun _ _ => rfl)) pe_str (nomark _)))) (fun _ _ _ _ _ => (pe_tup (pa_cons (pv 5) (pa_cons (pv 7) pa_nil))))) pa_nil)) rfl))))))), fun gv tt htt => ?_⟩
    have lk : kvs.length = p.length := hk.1
    refine ⟨_, rfl, tt, kvs, p, rfl, htt, hk, hp, fun H1 s1 => ⟨_, rfl, iteF ?_⟩⟩
    have hx1 := s1 _ _ hx
    have htt1 := s1 _ _ htt
    have hk1 := hk.keep fun a xs e => s1 a _ e
    refine ⟨_, rfl, tt, kvs, names p, rfl, .inl htt1, hk1.keys, by rw [List.length_map]; have := hp.len; omega, fun ys l hy sy hl => ?_⟩
    have hy64 : ys.length ≤ 8 := by rw [hy.length_eq, List.length_map]; exact hp.len.2
    obtain ⟨qp, qn⟩ := pg_perm hn hy
    have sl := same_new (o := .lst (ys.map V.str)) hl
    have hl2 : upd H1 l (.lst (ys.map V.str)) l = some (.lst (ys.map V.str)) := upd_same
    have hx2 := sl _ _ hx1
    have htt2 := sl _ _ htt1
    have hk2 := (Tk.same sl).pg hk1
    have s2 := s1.trans sl
    generalize upd H1 l (.lst (ys.map V.str)) = H2 at sl hl2 hx2 htt2 hk2 s2 ⊢
    let qq : Pg := ys.map fun z => (z, bodyOf p z)
    have qd : qq = ys.map fun z => (z, bodyOf p z) := rfl
    rw [← qd] at qp qn
    have hq := hp.perm qp
    refine ⟨l, rfl, ⟨_, SqL.of hl2⟩, fun D hD => ?_⟩
    refine walk_core (walk_list (xs := ys.map V.str)) (fun i Hc => Same H2 Hc ∧ ∃ kvs2, Hc D = some (.dK kvs2) ∧ PrgK Hc kvs2 (qq.take i)) ⟨same_new hD, [], upd_same, PrgK.nil⟩ (fun i Hc _ p => SqL.of (p.1 _ _ hl2)) ?_ ?_
    · rintro i v Hc H' hi ⟨sm, kvs2, hDc, hkc⟩ ⟨rfl, hv⟩
      rw [List.length_map] at hi
      rw [List.getElem?_map, List.getElem?_eq_getElem hi] at hv
      have ev : V.str ys[i] = v := Option.some.inj hv
      subst ev
      have hz : ys[i] ∈ names p := hy.mem_iff.mp (List.getElem_mem hi)
      obtain ⟨bv, e1, hb⟩ := hk2.val hn hz
      have hnew : valV kvs2 (Sum.inr ys[i]) = none := hkc.none fun z => by
        have e : names (qq.take i) = ys.take i := by rw [names, List.map_take, ← names, qn]
        rw [e] at z
        have nd : ys.Nodup := hy.nodup_iff.mpr hn
        obtain ⟨j, hj, ej⟩ := List.getElem_of_mem z
        rw [List.length_take] at hj
        rw [List.getElem_take] at ej
        exact List.pairwise_iff_getElem.mp nd j i (by omega) hi (by omega) ej
      have lt : kvs2.length ≤ 8 := by rw [hkc.1, List.length_take]; have : qq.length = ys.length := List.length_map ..; omega
      refine ⟨rfl, _, rfl, _, rfl, _, rfl, tt, bv, rfl, ?_, kvs2, .inr ys[i], rfl, hDc, small1000 (by omega), same_upd hD sm, _, upd_same, ?_⟩
      · have g := DGet.k (k := .inr ys[i]) (sm _ _ htt2)
        rw [e1] at g
        exact g
      · rw [putK_new _ hnew]
        have e : qq[i]? = some (ys[i], bodyOf p ys[i]) := by
          show (ys.map _)[i]? = _
          rw [List.getElem?_map, List.getElem?_eq_getElem hi]
          rfl
        rw [take_snoc e]
        have kt : Tk H' (upd H' D (.dK (kvs2 ++ [(Sum.inr ys[i], bv)]))) := Tk.upd hDc (fun _ z => by cases z) (fun _ _ z => by cases z)
        exact PrgK.snoc (kt.pg hkc) (kt.bd ((Tk.same sm).bd hb))
    · rintro Hc ⟨sm, kvs2, hDc, hkc⟩
      rw [List.length_map] at hkc
      rw [List.take_of_length_le (by show (ys.map _).length ≤ _; rw [List.length_map]; exact Nat.le_refl _)] at hkc
      have hx3 := sm _ _ hx2
      have b3 := But.same (x := x) (s2.trans sm)
      have nDx : D ≠ x := fun z => by rw [z, hx2] at hD; cases hD
      refine ⟨_, rfl, x, C, dx, [], rfl, hx3, cl, nb, by show 0 < 1000; decide, ?_⟩
      have hx4 : upd Hc x (.ins C dx [("_bodies", .ref D)]) x = some (.ins C dx [("_bodies", .ref D)]) := upd_same
      have hD4 : upd Hc x (.ins C dx [("_bodies", .ref D)]) D = some (.dK kvs2) := by rw [upd_ne nDx]; exact hDc
      have hk4 : PrgK (upd Hc x (.ins C dx [("_bodies", .ref D)])) kvs2 qq := (Tk.upd hx3 (fun _ z => by cases z) (fun _ _ z => by cases z)).pg hkc
      have b4 := b3.trans (But.upd (o := .ins C dx [("_bodies", .ref D)]))
      have nDH : H D = none := by
        cases e : H D with
        | none => rfl
        | some o => rw [s2 _ _ e] at hD; cases hD
      clear hDc hkc hx3 sm
      show tLock _ _ _ (upd Hc x (.ins C dx [("_bodies", .ref D)]))
      generalize upd Hc x (.ins C dx [("_bodies", .ref D)]) = H4 at hx4 hD4 hk4 b4 ⊢
      refine ⟨D, _, hD4, trivial, fun od => ?_⟩
      have hk5 := hk4.keep (lock_tup (x := .frz od (.dK kvs2)) hD4)
      have hdl : upd H4 D (.frz od (.dK kvs2)) D = some (.frz od (.dK kvs2)) := upd_same
      have hx5 : upd H4 D (.frz od (.dK kvs2)) x = some (.ins C dx [("_bodies", .ref D)]) := by rw [upd_ne (Ne.symm nDx)]; exact hx4
      have back : ∀ H', Same (upd H4 D (.frz od (.dK kvs2))) H' → Same H4 (upd H' D (.dK kvs2)) := fun H' s => same_lock hD4 s
      generalize upd H4 D (.frz od (.dK kvs2)) = H5 at hk5 hdl hx5 back ⊢
      refine ⟨_, rfl, x, C, dx, _, _, rfl, hx5, cl, nb, rfl, D, od, kvs2, rfl, hdl, fun D2 hD2 => ?_⟩
      have lkq : kvs2.length = qq.length := hk5.1
      refine walk_core walk_items (fun i Hc => Same H5 Hc ∧ ∃ acc, Hc D2 = some (.lst acc) ∧ AG (fun z y => TrAt K Hc z y) acc (allP (qq.take i))) ⟨same_new hD2, [], upd_same, AG.nil⟩ (fun i Hc _ p => p.1 _ _ hdl) ?_ ?_
      · rintro i x0 Hc H' hi ⟨sm, acc, hDc, ha⟩ ⟨T1, x1, y1, rfl, hT1, rfl, hx1, hy1⟩
        obtain ⟨z, v, b, hkv, hpi, hb⟩ := hk5.at hi
        have hx1 : (kvs2[i]?.map fun kv => kV kv.1) = some x1 := hx1
        have hy1 : (kvs2[i]?.map Prod.snd) = some y1 := hy1
        rw [hkv] at hx1 hy1
        have ex : V.str z = x1 := Option.some.inj hx1
        have ey : v = y1 := Option.some.inj hy1
        subst ex ey
        have sT := same_new (o := .tup [V.str z, v]) hT1
        have hDt := sT _ _ hDc
        have hat := (Tk.same sT).trs ha
        have sm2 := sm.trans sT
        have h1 : upd Hc T1 (.tup [V.str z, v]) T1 = some (.tup [V.str z, v]) := upd_same
        generalize upd Hc T1 (.tup [V.str z, v]) = H6 at hDt hat sm2 h1 ⊢
        obtain ⟨nb, ob, cb, fb⟩ := hq.ok _ (List.mem_of_getElem? hpi)
        have l60 : (placed 5 b []).length ≤ 60 := Nat.le_trans (len_mem_sum (f := fun x : Str × Bd => (placed 5 x.2 []).length) (List.mem_of_getElem? hpi)) hq.sz
        refine ⟨T1, _, rfl, SqT.of h1, rfl, _, _, rfl, _, _, rfl, rfl, rfl, _, rfl, v, dT, b, [], rfl, (Tk.same sm2).bd hb, hT _, fb, by decide, Nat.le_trans l60 (by decide), fun l2 zs H7 nl7 s7 hl7 hz => ⟨l2, rfl, ⟨_, SqL.of hl7⟩, ?_⟩⟩
        have nl2 : l2 ≠ D2 := fun e => by rw [e, hDt] at nl7; cases nl7
        have stp : allP (qq.take (i + 1)) = allP (qq.take i) ++ (placed 5 b []).map fun y => (z, y) := flat_take hpi
        have tot : (allP (qq.take (i + 1))).length ≤ 60 := by
          rw [allP_len]
          exact Nat.le_trans (sum_take_le qq (i + 1)) hq.sz
        rw [stp, List.length_append, List.length_map] at tot
        refine walk_core (walk_list (xs := zs)) (fun j Hx => Same H5 Hx ∧ Tk H7 Hx ∧ Hx l2 = some (.lst zs) ∧ ∃ acc2, Hx D2 = some (.lst acc2) ∧ AG (fun z y => TrAt K Hx z y) acc2 (allP (qq.take i) ++ ((placed 5 b []).take j).map fun y => (z, y))) ⟨sm2.trans s7, Tk.refl _, hl7, acc, s7 _ _ hDt, ?_⟩ (fun j Hx _ p => SqL.of p.2.2.1) ?_ ?_
        · rw [List.take_zero, List.map_nil, List.append_nil]
          exact (Tk.same s7).trs hat
        · rintro j y Hx H' hj ⟨sx, tx, hlx, acc2, hDx, ha2⟩ ⟨rfl, hy⟩
          obtain ⟨pl, hpl, t, a, s0, rfl, ht, hpa, hs⟩ := hz.2 j y hy
          refine ⟨t, _, rfl, SqT.of (tx.1 _ _ ht), rfl, _, _, rfl, _, _, rfl, rfl, rfl, _, rfl, _, rfl, _, rfl, small1000 (Nat.le_of_ble_eq_true rfl), fun t3 ht3 => ?_⟩
          have s3 := same_new (o := .tup [V.str z, V.ref a, s0]) ht3
          have h3 : upd H' t3 (.tup [V.str z, V.ref a, s0]) t3 = some (.tup [V.str z, V.ref a, s0]) := upd_same
          have hl8 := s3 _ _ hlx
          have hd8 := s3 _ _ hDx
          have sx8 := sx.trans s3
          have tx8 := tx.trans (Tk.same s3)
          have ha8 := (Tk.same s3).trs ha2
          generalize upd H' t3 (.tup [V.str z, V.ref a, s0]) = H8 at h3 hl8 hd8 sx8 tx8 ha8 ⊢
          have lj : acc2.length < 60 := by
            have e := ha2.1
            rw [List.length_append, List.length_map, List.length_take] at e
            have := hz.1
            omega
          have k9 : Tk H8 (upd H8 D2 (.lst (acc2 ++ [V.ref t3]))) := Tk.upd hd8 (fun _ z => by cases z) (fun _ _ z => by cases z)
          refine ⟨acc2, hd8, small1000 (by omega), same_upd hD2 sx8, tx8.trans k9, by rw [upd_ne nl2]; exact hl8, _, upd_same, ?_⟩
          rw [take_snoc hpl, List.map_append, ← List.append_assoc]
          exact AG.snoc (k9.trs ha8) ⟨t3, a, s0, rfl, k9.1 _ _ h3, (tx8.trans k9).seqT hpa, (tx8.trans k9).st hs⟩
        · rintro Hx ⟨sx, tx, hlx, acc2, hDx, ha2⟩
          rw [hz.1, List.take_length] at ha2
          exact ⟨sx, acc2, hDx, by rw [stp]; exact ha2⟩
      · rintro Hc ⟨sm, acc, hDc, ha⟩
        rw [lkq, List.take_length] at ha
        refine ⟨sm _ _ hdl, ?_⟩
        have sb := back Hc sm
        have hc := sm _ _ hdl
        have kb : Tk Hc (upd Hc D (.dK kvs2)) := Tk.upd hc (fun _ z => by cases z) (fun _ _ z => by cases z)
        have hDb : upd Hc D (.dK kvs2) D2 = some (.lst acc) := by
          rw [upd_ne (fun z => by rw [z, hdl] at hD2; cases hD2)]
          exact hDc
        have hab := kb.trs ha
        clear hDc ha kb hc
        generalize upd Hc D (.dK kvs2) = H9 at sb hDb hab ⊢
        have b9 := b4.trans (But.same sb)
        have hx9 := sb _ _ hx4
        have hD9 := sb _ _ hD4
        have hk9 := (Tk.same sb).pg hk4
        have la : acc.length = (allP qq).length := hab.1
        have l60 : (allP qq).length ≤ 60 := by rw [allP_len]; exact hq.sz
        clear sb hx4 hD4 b4 back hdl hx5 hk5 hk4 b3
        -- the size
        refine ⟨_, rfl, D2, acc, rfl, .inl (SqL.of hDb), _, rfl, x, C, dx, _, rfl, hx9, cl, ns, by show 1 < 1000; decide, ?_⟩
        generalize hA : upd H9 x _ = HA
        have hxA : HA x = some (.ins C dx [("_bodies", .ref D), ("_size", .int ((allP qq).length : Nat))]) := by
          rw [← hA, upd_same, ← la]
          rfl
        have bu : But x H9 HA := by rw [← hA]; exact But.upd
        have tu : Tk H9 HA := by rw [← hA]; exact Tk.upd hx9 (fun _ z => by cases z) (fun _ _ z => by cases z)
        have n2x : D2 ≠ x := fun z => by rw [z, hx9] at hDb; cases hDb
        have bA := b9.trans bu
        have hDA := bu _ _ nDx hD9
        have hkA := tu.pg hk9
        have h2A := bu _ _ n2x hDb
        have haA := tu.trs hab
        clear hA bu tu b9 hx9 hD9 hk9 hDb hab
        -- the events
        refine ⟨_, rfl, D2, rfl, ⟨_, SqL.of h2A⟩, fun S hS => ?_⟩
        refine walk_core (walk_list (xs := acc)) (fun i Hc => Same HA Hc ∧ Hc S = some (SX.SetTO P w S (SX.gather (notes ((allP qq).take i))))) ⟨same_new hS, upd_same⟩ (fun i Hc _ p => SqL.of (p.1 _ _ h2A)) ?_ ?_
        · rintro i y Hc H' hi ⟨sm, hSc⟩ ⟨rfl, hy⟩
          obtain ⟨tr, htr, t, a, s0, rfl, ht, hpa, hs⟩ := haA.2 i y hy
          have hs := (Tk.same sm).st hs
          obtain ⟨ax, xs, rfl, hax⟩ := hs.head
          have e := notes_snoc ((allP qq).take i) tr
          rw [← take_snoc htr] at e
          refine ⟨t, _, rfl, SqT.of (sm _ _ ht), rfl, _, _, rfl, _, _, rfl, _, _, rfl, rfl, rfl, ?_⟩
          refine ⟨_, rfl, ax, _, 0, _, rfl, rfl, SqT.of hax, atI_nat (j := 0) rfl, rfl, _, rfl, ?_⟩
          show SX.tPut _ _ _ _ _ _ (decide (V.str tr.2.2.word = V.str "note")) _
          rw [dec_str]
          by_cases c : tr.2.2.word = ("note" : Str)
          · rw [if_pos c] at e
            rw [decide_eq_true c]
            obtain ⟨a', ea, hn2⟩ := note_at c hs
            cases ea
            refine ⟨_, rfl, ax, _, 1, _, rfl, rfl, SqT.of hn2, atI_nat (j := 1) rfl, _, _, rfl, hSc, ?_, same_upd hS sm, ?_⟩
            · have h1 := SX.len_gather (notes ((allP qq).take i))
              have h2 := notes_len ((allP qq).take i)
              rw [List.length_take] at h2
              show _ < 4096
              omega
            · rw [e, SX.gather_snoc]
              exact upd_same
          · rw [if_neg c, List.append_nil] at e
            rw [decide_eq_false c]
            exact ⟨sm, by rw [e]; exact hSc⟩
        · rintro Hc ⟨sm, hSc⟩
          rw [la, List.take_length] at hSc
          have hl1 := SX.len_gather (notes (allP qq))
          have hl2' := notes_len (allP qq)
          refine ⟨S, _, rfl, hSc, by omega, fun es pe hpe hse hne hpn => ?_⟩
          have s1e := same_new (o := .lst (es.map V.str)) hpn
          have hpe2 : upd Hc pe (.lst (es.map V.str)) pe = some (.lst (es.map V.str)) := upd_same
          refine ⟨pe, _, rfl, .inl ⟨SqL.of hpe2, fun ta hta => ?_⟩⟩
          have s2e := same_new (o := .tup (es.map V.str)) hta
          have hta2 : upd (upd Hc pe (.lst (es.map V.str))) ta (.tup (es.map V.str)) ta = some (.tup (es.map V.str)) := upd_same
          have sB := (sm.trans s1e).trans s2e
          clear hpe2 s1e s2e hSc
          generalize upd (upd Hc pe (.lst (es.map V.str))) ta (.tup (es.map V.str)) = HB at hta2 sB ⊢
          have hxB := sB _ _ hxA
          refine ⟨_, rfl, x, C, dx, _, rfl, hxB, cl, ne, by show 2 < 1000; decide, ?_⟩
          generalize hC : upd HB x _ = HC
          have hxC : HC x = some (.ins C dx [("_bodies", .ref D), ("_size", .int ((allP qq).length : Nat)), ("_events", .ref ta)]) := by
            rw [← hC, upd_same]
            rfl
          have bu : But x HA HC := (But.same sB).trans (by rw [← hC]; exact But.upd)
          have tu : Tk HA HC := (Tk.same sB).trans (by rw [← hC]; exact Tk.upd hxB (fun _ z => by cases z) (fun _ _ z => by cases z))
          have bC := bA.trans bu
          have hDC := bu _ _ nDx hDA
          have hkC := tu.pg hkA
          have h2C := bu _ _ n2x h2A
          have haC := tu.trs haA
          have htC : HC ta = some (.tup (es.map V.str)) := by
            have n : ta ≠ x := fun z => by rw [z, hxB] at hta2; cases hta2
            rw [← hC, upd_ne n]
            exact hta2
          clear hC bu tu bA hxA hDA hkA h2A haA hta2 sB hxB
          have hev : EvOk es qq := ⟨hse, hne, fun z => by rw [hpe.mem_iff, SX.mem_gather]⟩
          -- the choices
          refine ⟨_, rfl, D2, rfl, ⟨_, SqL.of h2C⟩, fun R hR => ?_⟩
          refine walk_core (walk_list (xs := acc)) (fun i Hy => Same HC Hy ∧ ∃ cs, Hy R = some (.lst cs) ∧ AG (fun z y => ChAt K Hy z y) cs (chosen ((allP qq).take i))) ⟨same_new hR, [], upd_same, AG.nil⟩ (fun i Hy _ p => SqL.of (p.1 _ _ h2C)) ?_ ?_
          · rintro i y Hy H' hi ⟨sm, cs, hRc, hcs⟩ ⟨rfl, hy⟩
            obtain ⟨tr, htr, t, a, s0, rfl, ht, hpa, hs⟩ := haC.2 i y hy
            have hs := (Tk.same sm).st hs
            have hpa := (Tk.same sm).seqT hpa
            obtain ⟨ax, xs, rfl, hax⟩ := hs.head
            have e := chosen_snoc ((allP qq).take i) tr
            rw [← take_snoc htr] at e
            have lc := chosen_len ((allP qq).take i)
            rw [List.length_take] at lc
            have lcs := hcs.1
            refine ⟨t, _, rfl, SqT.of (sm _ _ ht), rfl, _, _, rfl, _, _, rfl, _, _, rfl, rfl, rfl, ?_⟩
            refine ⟨_, rfl, ax, _, 0, _, rfl, rfl, SqT.of hax, atI_nat (j := 0) rfl, rfl, _, rfl, ?_⟩
            show if (decide (V.str tr.2.2.word = V.str "choose")) = true then _ else _
            rw [dec_str]
            by_cases c : tr.2.2.word = ("choose" : Str)
            · rw [if_pos c] at e
              rw [decide_eq_true c, if_pos rfl]
              refine ⟨_, rfl, _, rfl, small1000 (Nat.le_of_ble_eq_true rfl), fun t3 ht3 => ?_⟩
              have s3 := same_new (o := .tup [V.str tr.1, V.ref a]) ht3
              have h3 : upd H' t3 (.tup [V.str tr.1, V.ref a]) t3 = some (.tup [V.str tr.1, V.ref a]) := upd_same
              have hR3 := s3 _ _ hRc
              have k9 : Tk (upd H' t3 (.tup [V.str tr.1, V.ref a])) (upd (upd H' t3 (.tup [V.str tr.1, V.ref a])) R (.lst (cs ++ [V.ref t3]))) := Tk.upd hR3 (fun _ z => by cases z) (fun _ _ z => by cases z)
              refine ⟨cs, hR3, small1000 (by omega), same_upd hR (sm.trans s3), _, upd_same, ?_⟩
              rw [e]
              exact AG.snoc (((Tk.same s3).trans k9).chs hcs) ⟨t3, a, rfl, k9.1 _ _ h3, ((Tk.same s3).trans k9).seqT hpa⟩
            · rw [if_neg c, List.append_nil] at e
              rw [decide_eq_false c, if_neg (by decide)]
              exact ⟨sm, cs, hRc, by rw [e]; exact hcs⟩
          · rintro Hy ⟨sm, cs, hRc, hcs⟩
            rw [la, List.take_length] at hcs
            refine ⟨R, _, rfl, .inl ⟨SqL.of hRc, fun tc htc => ?_⟩⟩
            have s2e := same_new (o := .tup cs) htc
            have htc2 : upd Hy tc (.tup cs) tc = some (.tup cs) := upd_same
            have hcs2 := (Tk.same s2e).chs hcs
            have sD := sm.trans s2e
            generalize upd Hy tc (.tup cs) = HD at htc2 hcs2 sD ⊢
            have hxD := sD _ _ hxC
            refine ⟨_, rfl, x, C, dx, _, rfl, hxD, cl, nc, by show 3 < 1000; decide, ?_⟩
            generalize hF : upd HD x _ = HF
            have hxF : HF x = some (.ins C dx [("_bodies", .ref D), ("_size", .int ((allP qq).length : Nat)), ("_events", .ref ta), ("_choices", .ref tc)]) := by
              rw [← hF, upd_same]
              rfl
            have bu : But x HD HF := by rw [← hF]; exact But.upd
            have tu : Tk HD HF := by rw [← hF]; exact Tk.upd hxD (fun _ z => by cases z) (fun _ _ z => by cases z)
            have td := (Tk.same sD).trans tu
            exact q qq HF qp (by rw [qn]; exact sy) ((bC.trans (But.same sD)).trans bu) ⟨dx, D, ta, tc, kvs2, es, cs, hxF, bu _ _ nDx (sD _ _ hDC), td.pg hkC, td.1 _ _ htC, hev, tu.1 _ _ htc2, tu.chs hcs2⟩ ⟨D, C, dx, _, hxF, nDH⟩
  refine ⟨_, pss_cons (ps_set (i := 2) scPi.nd rfl (Or.inl rfl) (pe_dget1 hu (pv 1) pe_str ⟨by rfl, by rfl, by rfl, by rfl⟩)) (pss_cons (ps_set (i := 3) scPi.nd rfl (Or.inr rfl) (pe_ifExp (pt_val (pe_callB call_isi (by rfl) T.isi PyProof.Rows.boot_isinstance (pa_cons (pv 2) (pa_cons (pe_glob (v := .ref CG) (by rfl) mG rfl) pa_nil)))) (pe_fld (pv 2) rfl) (pv 1))) hR), ?_⟩
  rcases hd with ⟨g, dg, tt, hd, hg, htt⟩ | ⟨hd, hno⟩
  · have g1 := DGet.k (k := .inr "_given") hd
    rw [valV_pos rfl] at g1
    refine ⟨_, rfl, d, rfl, .inl ⟨_, .inl hd⟩, _, g1, ?_⟩
    exact ⟨_, rfl, _, _, _, _, true, rfl, .own CG, .base (oG.ins hg), kYes, _, rfl, iteT ⟨_, rfl, g, CG, dg, _, _, rfl, hg, clG, nG, rfl, qR _ _ htt⟩⟩
  · have g := DGet.k (k := .inr "_given") hd
    rw [hno] at g
    exact ⟨_, rfl, d, rfl, .inl ⟨_, .inl hd⟩, _, g, _, rfl, _, _, _, _, false, rfl, .own CG, .base .non, kNo, _, rfl, iteF ⟨_, rfl, qR _ _ hd⟩⟩
theorem ok_pi {f fp dT : Addr} {fd fdp : FuncData} (GP : FnOk P w K mg base CX0 6 fp fdp ["body", "path"] (spPls K 5)) (mP : mg "placed_statements" = some (.ref fp)) (kP : PySem.W.keepIn K (.ref fp) = true) {ds : List Value} (bP : Binds K fdp ["body", "path"] ds) (vP : Vals [V.ref dT] ds) (hT : ∀ H, SqT K H dT []) {C CG : Addr} (cl : Cls K C) (nb : NoAttr K C "_bodies") (ns : NoAttr K C "_size") (ne : NoAttr K C "_events") (nc : NoAttr K C "_choices") (clG : Cls K CG) (nG : NoAttr K CG "table") (oG : OwnTy K CG) (kNo : PySem.W.kitOne K (.type "NoneType") (.ref CG) = some false) (kYes : PySem.W.kitOne K (.ref CG) (.ref CG) = some true) (T : TxtP mg) (mG : mg "Given" = some (.ref CG)) (gA : Glo P w K mg base "_are_program" 12 ["bodies"] spAp) (F : Fun K "__init__" "Program.__init__" sPi f fd) {key : Str} (hk : ¬ key = "self") : FnRest P w K mg base 13 f key (spPi K C CG) := by
  refine rest_ok F (x := ⟨"self", _, _⟩) (y := ⟨"bodies", _, _⟩) rfl scPi hk (fun vs H Q E h => ?_) fun cdv A outer s H vs Q E hr h => ?_
  · obtain ⟨x, d, dx, kvs, p, rfl, _⟩ := h
    rfl
  · exact pi_read (k := 12) GP mP kP bP vP hT cl nb ns ne nc clG nG oG kNo kYes T mG gA hr h
end
end FR
set_option Elab.async false
set_option linter.all false
set_option maxRecDepth 100000
set_option maxHeartbeats 1000000
/-! def f(self, **rest): a call with some keywords; C(key = e, ..) -/
namespace FR
open PySem PySem.Spec PyProof.Rows L2
theorem forIn_all {α β : Type} (g : β → α → β) {l : List α} {f : α → β → Sem (ForInStep β)} (h : ∀ a ∈ l, ∀ b, f a b = pure (.yield (g b a))) (b : β) : forIn l b f = pure (l.foldl g b) := by
  induction l generalizing b with
  | nil => rfl
  | cons x l ih =>
    rw [List.forIn_cons, h x List.mem_cons_self]
    simp only [pure_bind]
    rw [ih fun a ha => h a (List.mem_cons_of_mem _ ha)]
    rfl
theorem foldl_gather {α : Type} {γ : Type} (sl : γ) : ∀ (l acc : List α), l.foldl (fun (b : γ × List α) a => (b.1, b.2 ++ [a])) (sl, acc) = (sl, acc ++ l)
  | [], acc => by rw [List.append_nil]; rfl
  | x :: l, acc => by
    show l.foldl _ (sl, acc ++ [x]) = _
    rw [foldl_gather sl l (acc ++ [x]), List.append_assoc]
    rfl
abbrev kvsOf (ks : List (Str × Value)) : List (Key × Value) := ks.map fun p => (Sum.inr p.1, p.2)
theorem pairs_snoc {prog : Program} {w : World} {n : Str} {v : Value} {h : Int} {key : Value} (hk : keyIs (.inr n) key = true) : ∀ {l : List DictEntry} {m : List (Key × Value)}, Pairs (mixKind prog w) l m → Pairs (mixKind prog w) (l ++ [⟨h, key, v⟩]) (m ++ [(.inr n, v)])
  | _, _, .nil => .cons hk rfl .nil
  | _, _, .cons a b c => .cons a b (pairs_snoc hk c)
/-- a dict of texts takes one more -/
theorem nsSet_more {prog : Program} {w : World} {A : Around} {E : Value → Shared → Prop} {s : Shared} {a : Addr} {ks : List (Str × Value)} {name : Str} {v : Value} {Q : Unit → Shared → Prop} (ha : s.heap.DictOf (mixKind prog w) a (kvsOf ks)) (hn : name ∉ ks.map (·.1))
    (h : ∀ h', h'.DictOf (mixKind prog w) a (kvsOf (ks ++ [(name, v)])) → Heap.SameBut a s.heap h' → Q () { s with heap := h', toks := s.toks + 1 }) : wpAny (model prog w) A (nsSet a name v) Q E s := fun Γ p _ => by
  obtain ⟨⟨c, dd, dat, sl⟩, es, ep, ho, hex, hd, hk, hp, hnd⟩ := ha
  subst hd
  have allS : ∀ e ∈ es.toList, ∃ z t, e.key = .str z t ∧ z ∈ ks.map (·.1) := by
    clear hk hnd h ho hex
    generalize es.toList = l at hp
    induction ks generalizing l with
    | nil => cases hp; intro e he; cases he
    | cons q ks ih =>
      cases hp with
      | cons h1 h2 h3 =>
        intro e he
        rcases List.mem_cons.mp he with ee | he
        · subst ee
          obtain ⟨t, ht⟩ := Value.isStrOf_shape h1
          exact ⟨q.1, t, ht, List.mem_cons_self⟩
        · obtain ⟨z, t, a, b⟩ := ih (fun z => hn (List.mem_cons_of_mem _ z)) _ h3 e he
          exact ⟨z, t, a, List.mem_cons_of_mem _ b⟩
  have no : ∀ e ∈ es.toList, e.key.isStr name = false ∧ e.refKey = false := fun e he => by
    obtain ⟨z, t, a, b⟩ := allS e he
    constructor
    · rw [a]
      have : z ≠ name := fun q => hn (q ▸ b)
      simp [Value.isStr, this]
    · unfold DictEntry.refKey
      rw [a]
  have n1 : es.any (·.key.isStr name) = false := by
    rw [← Array.any_toList, List.any_eq_false]
    intro e he
    rw [(no e he).1]
    exact Bool.false_ne_true
  have n2 : es.any (·.refKey) = false := by
    rw [← Array.any_toList, List.any_eq_false]
    intro e he
    rw [(no e he).2]
    exact Bool.false_ne_true
  have n3 : es.findIdx? (·.key.isStr name) = none := by
    rw [Array.findIdx?_eq_none_iff]
    intro e he
    exact (no e (Array.mem_toList_iff.mpr he)).1
  have put : ∀ hh : Int, ∀ key : Value, Obj.putName name hh key v ⟨c, dd, .dict es ep, sl⟩ = ⟨c, dd, .dict (es.push ⟨hh, key, v⟩) (ep + 1), sl⟩ := fun hh key => by
    rw [Obj.putName_eq]
    unfold Obj.putNameByArray
    dsimp only
    rw [n3]
  simp only [nsSet, strHash, Sem.wp_bind', Sem.wp_cmd_ask, Sem.wp_pure', Sem.wp_cmd_mkText]
  rw [Sem.wp_loadPart_of (model prog w) Γ _ p { s with toks := s.toks + 1 } (o := ⟨c, dd, .dict es ep, sl⟩) _ ho]
  simp only [aRefKeyMayBeTheName_eq, aRefKeyMayBeTheNameByArray]
  rw [n1, n2, if_neg (by simp)]
  simp only [Sem.wp_cmd_updatePart]
  refine ⟨by rw [ho]; rfl, h _ ?_ (Heap.SameBut.update ..)⟩
  refine ⟨_, es.push ⟨_, _, v⟩, ep + 1, Heap.get?_update_self _ ho (by rw [put]; rfl), ?_, by rw [put], ?_, ?_, ?_⟩
  · rw [put]; exact hex
  · intro e he
    rcases Array.mem_push.mp he with he | he
    · exact hk e he
    · subst he
      exact ⟨.inr name, keyIs_str _ s.toks, rfl⟩
  · rw [Array.toList_push]
    show Pairs _ _ (List.map _ (ks ++ [(name, v)]))
    rw [List.map_append]
    exact pairs_snoc (keyIs_str _ s.toks) hp
  · show ((List.map _ (ks ++ [(name, v)])).map _).Nodup
    rw [List.map_append, List.map_append, List.nodup_append]
    refine ⟨hnd, by simp, fun a ha b hb => ?_⟩
    have eb : b = .inr name := List.mem_singleton.mp hb
    rw [eb]
    obtain ⟨q, hq, e⟩ := List.mem_map.mp ha
    obtain ⟨r, hr, e2⟩ := List.mem_map.mp hq
    intro z
    rw [← e, ← e2] at z
    exact hn (List.mem_map.mpr ⟨r, hr, Sum.inr.inj z⟩)
theorem nsSets {prog : Program} {w : World} {A : Around} {E : Value → Shared → Prop} {a : Addr} {Q : Unit → Shared → Prop} : ∀ (ks ls : List (Str × Value)) (s : Shared), s.heap.DictOf (mixKind prog w) a (kvsOf ls) → ((ls ++ ks).map (·.1)).Nodup →
    (∀ h' t, h'.DictOf (mixKind prog w) a (kvsOf (ls ++ ks)) → Heap.SameBut a s.heap h' → Q () { s with heap := h', toks := t }) → wpAny (model prog w) A (List.foldlM (fun (_ : PUnit) x => nsSet a x.1 x.2) PUnit.unit ks) Q E s
  | [], ls, s, ha, hn, h => by
    rw [List.append_nil] at h
    exact wpAny_pure (h s.heap s.toks ha (Heap.SameBut.refl a _))
  | x :: ks, ls, s, ha, hn, h => by
    have e : ls ++ x :: ks = (ls ++ [x]) ++ ks := by rw [List.append_assoc]; rfl
    rw [e] at hn h
    rw [List.foldlM_cons]
    refine wpAny_bind (nsSet_more ha ?_ fun h' ha' sb => nsSets ks (ls ++ [x]) _ ha' hn fun h'' t ha'' sb' => h h'' t ha'' (sb.trans sb'))
    rw [List.map_append, List.map_append, List.append_assoc, List.nodup_append] at hn
    exact fun z => hn.2.2 _ z _ List.mem_cons_self rfl
theorem bind_rests {prog : Program} {w : World} {A : Around} {E : Value → Shared → Prop} {s : Shared} {Q : List (Str × Value) → Shared → Prop} {fd : FuncData} {x y : Arg} {ks : List (Str × Value)} {u : Value} 
    (hp : fd.params = ⟨[], [x], none, [], [], some y, []⟩) (hd : fd.defaults = .none) (hk : ∀ p ∈ ks, ¬ p.1 = x.arg) (hn : (ks.map (·.1)).Nodup) (few : ks.length ≤ sizeLine)
    (h : ∀ h' d t, h'.DictOf (mixKind prog w) d (kvsOf ks) → s.heap.objs.size = d → (∀ b o, s.heap.get? b = some o → h'.get? b = some o) → Q [(x.arg, u), (y.arg, .ref d)] { s with heap := h', toks := t }) :
    wpAny (model prog w) A (bindArgs fd ⟨[u], ks⟩) Q E s := by
  unfold bindArgs
  rw [hp, hd]
  simp [seqItems?]
  rw [forIn_all (fun b a => (b.1, b.2 ++ [a])) (fun a ha b => by simp [hk a ha])]
  rw [foldl_gather]
  simp
  have f2 : ¬ sizeLine + 1 < ks.length := by omega
  rw [if_neg f2]
  refine wpAny_bind (wpAny_pure (wpAny_bind (wpAny_alloc ?_)))
  rw [← bind_pure_comp]
  have d0 : (s.heap.push { cls := .type "dict", data := .dict #[] }).DictOf (mixKind prog w) s.heap.objs.size (kvsOf []) :=
    ⟨_, #[], 0, Heap.get?_push_size _ rfl, ⟨rfl, rfl, rfl⟩, rfl, (fun e he => by simp at he), .nil, List.nodup_nil⟩
  refine wpAny_bind (nsSets ks [] _ d0 (by simpa using hn) fun h' t ha sb => wpAny_pure (h h' _ t (by simpa using ha) rfl fun b o e => ?_))
  exact (sb.2 b (Nat.ne_of_lt (Heap.lt_size e))).trans (Heap.get?_push_of_some _ e)
/-- the keywords, as a dict -/
def dkOf (ks : List Str) (gs : List V) : List (Key × V) := (ks.zip gs).map fun p => (.inr p.1, p.2)
theorem dkOf_kv : ∀ (ks : List Str) {gs : List V} {ws : List Value}, Vals gs ws → KV (dkOf ks gs) (kvsOf (ks.zip ws))
  | [], _, _, _ => .nil
  | _ :: _, [], [], .nil => .nil
  | _ :: ks, _ :: _, _ :: _, .cons a b => .cons ⟨rfl, a⟩ (dkOf_kv ks b)
/-- def f(x, **y), called with one value and keywords of these names -/
structure FnRs (P : Program) (w : World) (K : PySem.W.Frag) (mg : Str → Option Value) (base : Heap) (k : Nat) (f : Addr) (ks : List Str) (sp : Sp) : Prop where
  run : ∀ (A : Around) (outer : List Env) (s : Shared) (H : Hp) (u : Value) (ws : List Value) (vu : V) (gs : List V) (Q : VK) (E : XK), Room k A → Env0 P w K mg base A outer s H → RelV vu u → Vals gs ws → ws.length = ks.length → (∀ d, H d = none → sp [vu, .ref d] (upd H d (.dK (dkOf ks gs))) Q E) →
    codeAny (model P w) A (.call (.ref f) ⟨[u], ks.zip ws⟩) (CR CX0 outer P w H s Q E) s
section
variable {P : Program} {w : World} {K : PySem.W.Frag} {mg : Str → Option Value} {base : Heap}
theorem rests_ok {nm qual : Str} {ks : List Str} {x y : Arg} {st : Stmt} {f : Addr} {fd : FuncData} {N : List Str} {k : Nat} {sp : Sp} (F : Fun K nm qual st f fd) (hp : defArgs st = ⟨[], [x], none, [], [], some y, []⟩) (S : FnScope N [x.arg, y.arg] (defScope st)) (hk : ∀ k ∈ ks, ¬ k = x.arg) (hnd : ks.Nodup) (hfew : ks.length ≤ 900)
    (len : ∀ vs H Q E, sp vs H Q E → vs.length = 2)
    (hbody : ∀ (cdv : Value) (A : Around) (outer : List Env) (s : Shared) (H : Hp) (vs : List V) (Q : VK) (E : XK), Room k (A.deeper (envOfC qual (defScope st) s.heap.objs.size f cdv)) → sp vs H Q E →
      ∃ t, PSs (cxOf CX0 P w K mg base N qual (defScope st) f cdv A outer s H E).nox (defBody st) t ∧ t { nx := fun _ H' => Q .non H', rt := Q } (start N vs) H) : FnRs P w K mg base (k + 1) f ks sp := by
  obtain ⟨oc, od, kV, doc, pm, an, cdv, ct, osl, rfl, lk, hcd⟩ := F.ex
  refine ⟨fun A outer s H u ws vu gs Q E hr e0 ru rg hlw hsp => ?_⟩
  have ez : (ks.zip ws).map (·.1) = ks := List.map_fst_zip (by omega)
  have lz : (ks.zip ws).length = ks.length := by rw [List.length_zip]; omega
  have KX0 : K.In s.heap := e0.mod.kin.keeps fun b o e => (e0.bs b o e).1
  refine codeAny_call_function hr.depth (KX0 _ _ lk) rfl S.co S.gen rfl (PySem.W.codeRec_of KX0 hcd) (bind_rests hp rfl (fun p hp => hk _ (by rw [← ez]; exact List.mem_map.mpr ⟨p, hp, rfl⟩)) (by rw [ez]; exact hnd) (by rw [lz, sizeLine_eq]; omega) fun h' d tk hd' ed keep => ?_)
  -- the state behind the binding
  have hn : H d = none := e0.hok.fresh (Nat.le_of_eq ed)
  have hlt : d < h'.objs.size := by
    obtain ⟨o, es, ep, e, _⟩ := hd'
    exact Heap.lt_size e
  have big : sysModules < s.heap.objs.size := by
    have h : mainGlobals < s.heap.objs.size := (e0.mod.glob.keeps fun b o e => (e0.bs b o e).1).lt
    exact Nat.lt_trans (by decide) h
  have hok : HOk P w (upd H d (.dK (dkOf ks gs))) h' := e0.hok.laid keep (Nat.le_of_eq ed) ⟨by unfold dkOf; rw [List.length_map, List.length_zip, sizeLine_eq]; omega, beq_eq_false_iff_ne.mpr (by rw [← ed]; exact Ne.symm (Nat.ne_of_lt big)), _, dkOf_kv ks rg, hd'⟩
  have un : Un (frs outer) [] H (upd H d (.dK (dkOf ks gs))) s.heap h' := Un.laid keep (Nat.le_of_eq ed) hn
  have e1 : Env0 P w K mg base A outer { s with heap := h', toks := tk } (upd H d (.dK (dkOf ks gs))) := by
    refine ⟨e0.frames, e0.mod, fun b o e => ⟨keep _ _ (e0.bs b o e).1, ?_⟩, Nat.le_trans e0.bsz (by rw [ed]; exact Nat.le_of_lt hlt), Heap.FunFrames.of_keeps (fun b o e _ => ⟨o, keep _ _ e, rfl⟩) e0.funs, fun b hb => ?_, hok, e0.bare⟩
    · have lt := Heap.lt_size (e0.bs b o e).1
      rw [ed] at lt
      rw [upd_ne (Nat.ne_of_lt lt)]
      exact (e0.bs b o e).2
    · have hb0 := e0.frf b hb
      obtain ⟨o, e⟩ := frs_there e0.funs b hb
      have lt := Heap.lt_size e
      rw [ed] at lt
      rw [upd_ne (Nat.ne_of_lt lt)]
      exact hb0
  have q1 := hsp d hn
  generalize hs1 : ({ s with heap := h', toks := tk } : Shared) = s1 at e1
  have es1 : s1.heap = h' := by rw [← hs1]
  have eo1 : s1.os = s.os := by rw [← hs1]
  have hl : [vu, V.ref d].length = [x.arg, y.arg].length := rfl
  have r : Vals [vu, V.ref d] [u, Value.ref d] := .cons ru (.cons rfl .nil)
  have KX : K.In s1.heap := e1.mod.kin.keeps fun b o e => (e1.bs b o e).1
  have lim : s1.heap.NoLimit := e1.mod.nolimit.keeps fun b o e => (e1.bs b o e).1
  have hkind : ∀ z ∈ [x.arg, y.arg].zip [u, Value.ref d], (defScope st).names.lookup z.1 = some .local ∨ ((defScope st).names.lookup z.1 = some .cell ∧ ((cellsFrom (s1.heap.objs.size + 1) (defScope st).names []).lookup z.1).isSome = true) := fun ⟨n, v⟩ hy => by
    rcases S.par n (List.of_mem_zip hy).1 with q | q
    · exact .inl q
    · exact .inr ⟨q, PySem.W.cellsFrom_some _ _ _ (.inl q)⟩
  refine wpAny_newFunctionEnv_cells (binds := [x.arg, y.arg].zip [u, Value.ref d]) S.kind hkind fun env he s2 x2 => ?_
  subst he
  refine ⟨lim.keeps x2.toInCall.keep, codeAny_func ?_⟩
  obtain ⟨t, ht, hq⟩ := hbody cdv A outer s1 _ _ _ _ (hr.deeper _) q1
  have I : Inv (cxOf CX0 P w K mg base N qual (defScope st) f cdv A outer s1 (upd H d (.dK (dkOf ks gs))) E) [] (start N [vu, V.ref d]) (upd H d (.dK (dkOf ks gs))) s2 := inv_start S hr.hd e1 hl r x2
  refine wpAny_mono (ht.nox.run [] s2 (start N [vu, V.ref d]) _ _ I hq) (fun fl s' hs => ?_) fun e s' hs => hs
  have fin : ∀ {σ' : L2.St} {H' : Hp} {v : V} {u : Value}, Inv (cxOf CX0 P w K mg base N qual (defScope st) f cdv A outer s1 (upd H d (.dK (dkOf ks gs))) E) [] σ' H' s' → RelV v u → Q v H' → CE outer P w H s Q u s' :=
    fun {σ' H' v u} J rv q => ⟨v, H', J.os.trans eo1, J.bare, un.trans (by rw [← es1]; exact J.base), J.hok, rv, q⟩
  cases fl with
  | ret u =>
    obtain ⟨v, σ', H', J, rv, q⟩ := hs
    exact fin J rv q
  | next =>
    obtain ⟨σ', H', J, q⟩ := hs
    exact fin (v := V.non) (u := Value.none) J rfl q
  | brk =>
    obtain ⟨_, _, _, q⟩ := hs
    exact False.elim q
  | cont =>
    obtain ⟨_, _, _, q⟩ := hs
    exact False.elim q
end
/-- a new instance and its dict, a new dict of the keywords, then __init__ -/
def tMakeRs (C : Addr) (ks : List Str) (sp : Sp) (tk : TA) : TE := fun σ H Q => tk σ H fun zs H2 => zs.length = ks.length ∧ ∀ x dx, H2 x = none → H2 dx = none → dx ≠ x → ∀ d, upd (upd H2 dx (.own x)) x (.ins C dx []) d = none →
  sp [.ref x, .ref d] (upd (upd (upd H2 dx (.own x)) x (.ins C dx [])) d (.dK (dkOf ks zs))) (fun v H3 => v = .non ∧ Q (.ref x) H3) E0
section
variable {X : Cx} {k : Nat} {f C : Addr} {ks : List Str} {sp : Sp} {x : Str} {p pos : Pos} {kws : List Keyword} {tk : TA}
theorem pe_makeRs (M : Mk X.K C f) (F : FnRs X.prog X.w X.K X.mg X.base k f ks sp) (hr : Room (k + 1) X.A) (hg : Gl X x) (hm : X.mg x = some (.ref C)) (hkw : PK X kws tk)
    (hall : (backToKw pos (keywordEach kws X.env)).all (·.1.isSome) = true := by rfl) (hks : (backToKw pos (keywordEach kws X.env)).filterMap (·.1) = ks := by rfl) (hdb : (x == ("__debug__" : Str)) = false := by decide)
    (hpl : ((backTo pos (starEach [] X.env)).any (·.1) || (backToKw pos (keywordEach kws X.env)).any (·.1.isNone)) = false := by rfl) :
    PE X (.Call (.Name x p) [] kws pos) (tMakeRs C ks sp tk) := by
  refine ⟨fun pins s σ H Q I h => ?_⟩
  refine wpAny_Call_Name_kw (ld_glob I hg hm ?_ hdb)
  refine PySem.W.callWith_KW0 (h₀ := X.base) I.ok.mod.kin M.kp hall ?_ hpl
  refine thn (hkw.run pos pins s σ H _ I h) fun ws s2 ⟨zs, H2, I2, rz, lz, q2⟩ => ⟨I2.kIn, ?_⟩
  rw [hks]
  have hlw : ws.length = ks.length := by rw [← rz.length]; exact lz
  have hq := q2 (s2.heap.objs.size + 1) s2.heap.objs.size (I2.hok.fresh (Nat.le_succ _)) (I2.hok.fresh (Nat.le_refl _)) (Nat.ne_of_lt (Nat.lt_succ_self _))
  have I3 := Inv.made (C := C) I2
  refine wpAny_call (make_map (f := f) I2.kIn M.makes M.init (beq_iff_eq.mp M.fn) (codeAny_mono (F.run _ X.stack _ _ (.ref (s2.heap.objs.size + 1)) ws (.ref (s2.heap.objs.size + 1)) zs _ E0 (hr.make C [] (ks.zip ws)) (I3.env0.make C [] (ks.zip ws)) rfl rz hlw hq) fun r s' hq' => ?_))
  cases r with
  | error e => exact False.elim hq'
  | ok fl =>
    cases fl with
    | ret u =>
      obtain ⟨v, H', I4, rv, ev, q3⟩ := I3.after hq'
      subst ev
      exact ⟨rv, ⟨V.ref (s2.heap.objs.size + 1), H', I4, rfl, q3⟩⟩
    | next => exact False.elim hq'
    | brk => exact False.elim hq'
    | cont => exact False.elim hq'
end
end FR
set_option Elab.async false
set_option linter.all false
set_option maxRecDepth 100000
set_option maxHeartbeats 1000000
/-! C.m(e, ..), m a staticmethod; Program.of -/
namespace FR
open PySem PySem.Spec PyProof.Rows L2
/-- C.m is a staticmethod: its record at p, its def at g -/
structure SMet (K : PySem.W.Frag) (C : Addr) (mc : Value) (m : Str) (p g : Addr) : Prop where
  at_ : PySem.W.findCls K (.ref C) mc m = some (.get (.builtin "staticmethod.__get__") (.ref p) .none (.ref C))
  rc : ∃ rest, PySem.W.recIn K p "staticmethod" = some (.ref g :: rest)
  hv : PySem.W.handedIn (.ref g) = true
  kp : PySem.W.keepIn K (.ref g) = true
def tSMeth (C : Addr) (sp : Sp) (dvs : List V) (E : XK) (ta : TE) (t : TA) : TE := fun σ H Q => ta σ H fun x H1 => x = .ref C ∧ t σ H1 fun vs H2 => sp (vs ++ dvs) H2 Q E
section
variable {X : Cx} {CX : CXT} {k : Nat} {C p g : Addr} {mc : Value} {fd : FuncData} {ps : List Str} {sp : Sp} {ds : List Value} {dvs : List V} {E : XK} {o e : Expr} {es : List Expr} {m : Str} {pos apos : Pos} {ta : TE} {t : TA} {pl : Sem Bool}
theorem pe_smeth (he : PE X o ta) (r : ClX.CRead X.K C mc) (c : SMet X.K C mc m p g) (F : FnOk X.prog X.w X.K X.mg X.base CX k g fd ps sp) (hr : Room k X.A) (hb : Binds X.K fd ps ds) (hd : Vals dvs ds) (hx : Passes CX X E) (ha : PA X (e :: es) t)
    (hst : starEach (e :: es) X.env = (false, eval e X.env) :: starEach es X.env := by rfl) (hpl : (backTo pos (starEach es X.env)).any (·.1) = false := by rfl)
    (ht : eval (.Call (.Attribute o m apos) (e :: es) [] pos) X.env = (do
      let ov ← eval o X.env
      standAt apos.atName
      let (f, first) ← holding [ov] (getMethod ov m pl)
      callWith pos f first (backTo pos (starEach (e :: es) X.env)) (backToKw pos (keywordEach [] X.env))) := by rfl) :
    PE X (.Call (.Attribute o m apos) (e :: es) [] pos) (tSMeth C sp dvs E ta t) := by
  refine ⟨fun pins s σ H Q I h => ?_⟩
  refine PySem.W.methodCall_KW (pl := pl) (thn (he.run pins s σ H _ I h) fun u s1 ⟨x, H1, I1, rx, ex, q⟩ => ?_) ht
  subst ex
  obtain rfl : u = Value.ref C := rx
  obtain ⟨rest, hp⟩ := c.rc
  refine PySem.W.method_cls I1.kIn r.ga (PySem.W.cls_bind I1.kIn r.rd c.at_ (wpAny_call (PySem.W.sm_get (s := { s1 with toks := s1.toks + 1 }) I1.kIn hp (PySem.W.handed_on c.hv ?_))))
  have I2 : Inv X pins σ H1 { s1 with toks := s1.toks + 1 } := I1.tok _
  refine PySem.W.callWith_K (h₀ := X.base) I2.ok.mod.kin c.kp (thn (ha.run pos pins _ σ H1 _ I2 q) fun us s3 ⟨vs, H3, I3, rv, q3⟩ => ⟨I3.kIn, ?_⟩) hst hpl
  exact run_fn F hr hb hd hx I3 rv q3
end
section
variable {P : Program} {w : World} {K : PySem.W.Frag} {mg : Str → Option Value} {base : Heap}
abbrev sPo : Stmt := inClass (top 33) 1
theorem scPo : FnScope ["bodies"] ["bodies"] (defScope sPo) := ⟨rfl, rfl, rfl, by decide +kernel, rfl, by decide +kernel, by decide +kernel⟩
def spOf (K : PySem.W.Frag) (C : Addr) : Sp := fun vs H Q _ => ∃ t kvs p, vs = [.ref t] ∧ H t = some (.dK kvs) ∧ PrgK H kvs p ∧ Prg p ∧ (names p).Nodup ∧
  ∀ q x H', q.Perm p → sortedS (names q) = true → H x = none → Same H H' → IsPg K C H' x q → FreshB H H' x → Q (.ref x) H'
/-- what a new instance's __init__ asks, from what the caller wants -/
theorem new_pi {C CG : Addr} {H HG : Hp} {x dx d : Addr} {kvs gvs : List (Key × V)} {p : Pg} {Q : VK} (s1 : Same H HG) (nx : HG x = none) (ndx : HG dx = none) (nex : dx ≠ x) (nd : upd (upd HG dx (.own x)) x (.ins C dx []) d = none)
    (hk : PrgK H kvs p) (hp : Prg p) (hn : (names p).Nodup) (hg : (∃ g dg t, gvs = [(.inr "_given", .ref g)] ∧ HG g = some (.ins CG dg [("table", .ref t)]) ∧ HG t = some (.dK kvs)) ∨ (gvs = kvs ∧ valV kvs (.inr "_given") = none))
    (q : ∀ q x H', q.Perm p → sortedS (names q) = true → H x = none → Same H H' → IsPg K C H' x q → FreshB H H' x → Q (.ref x) H') {E : XK} :
    spPi K C CG [V.ref x, V.ref d] (upd (upd (upd HG dx (.own x)) x (.ins C dx [])) d (.dK gvs)) (fun v H3 => v = V.non ∧ Q (.ref x) H3) E := by
  have ndx' : d ≠ x := fun e => by rw [e, upd_same] at nd; cases nd
  have keep : ∀ a o, HG a = some o → upd (upd (upd HG dx (.own x)) x (.ins C dx [])) d (.dK gvs) a = some o := fun a o e => by
    have n1 : a ≠ x := ne_of_none e nx
    have n2 : a ≠ dx := ne_of_none e ndx
    have n3 : a ≠ d := fun z => by
      rw [← z, upd_ne n1, upd_ne n2, e] at nd
      cases nd
    rw [upd_ne n3, upd_ne n1, upd_ne n2]
    exact e
  have s2 : Same H (upd (upd (upd HG dx (.own x)) x (.ins C dx [])) d (.dK gvs)) := fun a o e => keep _ _ (s1 _ _ e)
  have hxN : H x = none := by
    cases e : H x with
    | none => rfl
    | some o => rw [s1 _ _ e] at nx; cases nx
  refine ⟨x, d, dx, kvs, p, rfl, by rw [upd_ne (Ne.symm ndx'), upd_same], ?_, (Tk.same s2).pg hk, hp, hn, fun qq H' qp qs b i f => ⟨rfl, q qq x H' qp qs hxN (fun a o e => b a o (ne_of_none e hxN) (s2 _ _ e)) i (f.back s2)⟩⟩
  rcases hg with ⟨g, dg, t, e1, e2, e3⟩ | ⟨e1, e2⟩
  · exact .inl ⟨g, dg, t, by rw [upd_same, e1], keep _ _ e2, keep _ _ e3⟩
  · exact .inr ⟨by rw [upd_same, e1], e2⟩
theorem ok_of {f fi gi C CG : Addr} {fd gd : FuncData} (F : Fun K "of" "Program.of" sPo f fd) (M : Mk K C fi) (G : FnRs P w K mg base 13 fi ["_given"] (spPi K C CG)) (mC : mg "Program" = some (.ref C)) (MG : Mk K CG gi) (GG : FnOk P w K mg base CX0 1 gi gd ["self", "table"] (spGi CG)) (mG : mg "Given" = some (.ref CG)) (bG : Binds K gd ["self", "table"] []) : FnOk P w K mg base CX0 15 f fd ["bodies"] (spOf K C) := by
  refine F.ok scPo (fun vs H Q E h => ?_) (fun cdv A outer s H vs Q E hr h => ?_)
  · obtain ⟨t, kvs, p, rfl, _⟩ := h
    rfl
  · obtain ⟨t, kvs, p, rfl, ht, hk, hp, hn, q⟩ := h
    refine ⟨_, pss_one (ps_ret (pe_makeRs M G hr (by rfl) mC (pk_cons (pe_make MG GG (hr.mono (by decide)) (by rfl) mG bG .nil pass0 (pa_cons (pv 0) pa_nil)) pk_nil))), ?_⟩
    refine ⟨_, rfl, fun g dg ng ndg neg => ⟨g, dg, V.ref t, rfl, upd_same, ?_⟩⟩
    have s1 : Same H (upd (upd (upd H dg (.own g)) g (.ins CG dg [])) g (.ins CG dg [("table", .ref t)])) := fun a o e => by
      have n1 : a ≠ g := ne_of_none e ng
      have n2 : a ≠ dg := ne_of_none e ndg
      rw [upd_ne n1, upd_ne n1, upd_ne n2]
      exact e
    have hg1 : (upd (upd (upd H dg (.own g)) g (.ins CG dg [])) g (.ins CG dg [("table", .ref t)])) g = some (.ins CG dg [("table", .ref t)]) := upd_same
    refine ⟨rfl, rfl, ?_⟩
    generalize upd (upd (upd H dg (.own g)) g (.ins CG dg [])) g (.ins CG dg [("table", .ref t)]) = HG at s1 hg1 ⊢
    intro x dx nx ndx nex d nd
    exact new_pi (HG := HG) s1 nx ndx nex nd hk hp hn (.inl ⟨g, dg, t, rfl, hg1, s1 _ _ ht⟩) q
end
end FR
set_option Elab.async false
set_option linter.all false
set_option maxRecDepth 100000
set_option maxHeartbeats 1000000
/-! len(x), v in x, x[v] by own methods -/
namespace L2
open PySem PySem.Spec PyProof.Rows PySem.Calls
section
variable {X : Cx} {CX : CXT} {k : Nat} {f C a : Addr} {fd : FuncData} {ps : List Str} {sp : Sp} {E : XK}
/-- len(x) -/
def rLenOwn (C : Addr) (sp : Sp) (E : XK) : List V → Hp → VK → Prop := fun xs H Q => ∃ a dx fs, xs = [.ref a] ∧ H a = some (.ins C dx fs) ∧ sp [.ref a] H (fun z H' => ∃ n : Int, z = .int n ∧ (0 ≤ n ∧ n < 2 ^ 63) ∧ Q z H') E
theorem call_lenOwn (D : Dun X.K C "__len__" f) (F : FnOk X.prog X.w X.K X.mg X.base CX k f fd ps sp) (hr : Room (k + 1) X.A) (hb : Binds X.K fd ps []) (hx : Passes CX X E) : CallR X (.builtin "len") (rLenOwn C sp E) := by
  intro pins s σ H xs us Q I r ⟨a, dx, fs, ex, ea, h⟩
  subst ex
  obtain ⟨u, rfl, ru⟩ := vals1 r
  cases (show u = .ref a from ru)
  obtain ⟨od, J, _⟩ := ins_at I ea
  obtain ⟨m, hF⟩ := I.fr
  refine PySem.W.len_K hF I.ok.mod.kin J D.at_ D.fn (wpAny_mono (run_sub ⟨hr.in1, rfl⟩ F hb hx I (.cons (rRef a) .nil) h) (fun w' s' ⟨z, H', I', rz, n, ez, hn, q⟩ => ?_) fun _ _ e => e)
  subst ez
  obtain ⟨t, rfl⟩ := rz
  exact ⟨hn, .int n, H', I'.tok _, rInt n _, q⟩
/-- v in x -/
def rInOwn (C : Addr) (sp : Sp) (E : XK) : R2 := fun x y H Q => ∃ a dx fs, y = .ref a ∧ H a = some (.ins C dx fs) ∧ sp [.ref a, x] H (fun z H' => ∃ r, z = .bl r ∧ Q z H') E
theorem op_inOwn (D : Dun X.K C "__contains__" f) (F : FnOk X.prog X.w X.K X.mg X.base CX k f fd ps sp) (hr : Room k X.A) (hb : Binds X.K fd ps []) (hx : Passes CX X E) : OpR X (compareOp .In) (rInOwn C sp E) := by
  intro pins s σ H x y v u Q I rx ry ⟨a, dx, fs, ey, ea, h⟩
  subst ey
  cases (show u = .ref a from ry)
  obtain ⟨od, J, _⟩ := ins_at I ea
  obtain ⟨m, hF⟩ := I.fr
  refine PySem.W.in_K hF I.ok.mod.kin J D.at_ D.fn (wpAny_mono (run_sub ⟨hr, rfl⟩ F hb hx I (.cons (rRef a) (.cons rx .nil)) h) (fun w' s' ⟨z, H', I', rz, r, ez, q⟩ => ?_) fun _ _ e => e)
  subst ez
  cases (show w' = .bool r from rz)
  exact wpAny_truthy_bool ⟨.bl r, H', I', rfl, q⟩
def rNotInOwn (C : Addr) (sp : Sp) (E : XK) : R2 := fun x y H Q => ∃ a dx fs, y = .ref a ∧ H a = some (.ins C dx fs) ∧ sp [.ref a, x] H (fun z H' => ∃ r, z = .bl r ∧ Q (.bl (!r)) H') E
theorem op_notInOwn (D : Dun X.K C "__contains__" f) (F : FnOk X.prog X.w X.K X.mg X.base CX k f fd ps sp) (hr : Room k X.A) (hb : Binds X.K fd ps []) (hx : Passes CX X E) : OpR X (compareOp .NotIn) (rNotInOwn C sp E) := by
  intro pins s σ H x y v u Q I rx ry ⟨a, dx, fs, ey, ea, h⟩
  subst ey
  cases (show u = .ref a from ry)
  obtain ⟨od, J, _⟩ := ins_at I ea
  obtain ⟨m, hF⟩ := I.fr
  refine PySem.W.notIn_K hF I.ok.mod.kin J D.at_ D.fn (wpAny_mono (run_sub ⟨hr, rfl⟩ F hb hx I (.cons (rRef a) (.cons rx .nil)) h) (fun w' s' ⟨z, H', I', rz, r, ez, q⟩ => ?_) fun _ _ e => e)
  subst ez
  cases (show w' = .bool r from rz)
  exact wpAny_truthy_bool ⟨.bl (!r), H', I', rfl, q⟩
/-- x[v] -/
def tSubOwn (C : Addr) (sp : Sp) (E : XK) (to te : TE) : TE := fun σ H Q => to σ H fun x H1 => te σ H1 fun y H2 => ∃ a dx fs, x = .ref a ∧ H2 a = some (.ins C dx fs) ∧ sp [.ref a, y] H2 Q E
variable {o e : Expr} {to te : TE} {pos : Pos}
theorem pe_subOwn (D : Dun X.K C "__getitem__" f) (hfi : PySem.W.fnIn X.K f = true) (F : FnOk X.prog X.w X.K X.mg X.base CX k f fd ps sp) (hr : Room (k + 1) X.A) (hb : Binds X.K fd ps []) (hx : Passes CX X E) (ho : PE X o to) (he : PE X e te)
    (hsl : ∀ x i, subscripted e true (.ref x) i = runValue (.builtin "lifetime.subscript" ⟨[.ref x, i], []⟩) := by intro _ _; with_unfolding_all rfl) : PE X (.Subscript o e pos) (tSubOwn C sp E to te) := by
  refine ⟨fun pins s σ H Q I h => ?_⟩
  refine Subscript_ (thn (ho.run pins s σ H _ I h) fun v s1 ⟨x, H1, I1, rx, q1⟩ => thn (he.run pins s1 σ H1 _ I1 q1) fun u s2 ⟨y, H2, I2, ry, a, dx, fs, ex, ea, q2⟩ => ?_)
  subst ex
  cases (show v = .ref a from rx)
  obtain ⟨od, J, _⟩ := ins_at I2 ea
  obtain ⟨m, hF⟩ := I2.fr
  exact PySem.W.sub_K hF I2.ok.mod.kin J D.at_ hfi D.fn (run_sub ⟨hr.in1, rfl⟩ F hb hx I2 (.cons (rRef a) (.cons ry .nil)) q2) (hsl a u)
end
end L2
set_option Elab.async false
set_option linter.all false
set_option maxRecDepth 100000
set_option maxHeartbeats 2000000
/-! KeyError: its __new__ is that of LookupError, its __init__ its own -/
namespace XN
open PySem PySem.W PySem.Calls PyProof.Rows PySem.Spec
abbrev keB : List Value := [.type "KeyError", .type "LookupError", .type "Exception", .type "BaseException", .type "object"]
theorem ke_kxs : KxsFacts "KeyError" "KeyError.__init__" :=
  { typ := (by show builtinType _ = _; rw [builtinType_eq_fast] <;> kernel_rfl), nac := (by first | kernel_rfl | rfl) }
theorem ke_store : StoreFacts "KeyError" keB "object.__setattr__" "object" := {
  mro := (by kernel_rfl), entry := PySem.F.store_ValueError.entry, kind := (by decide +kernel), split := (by decide +kernel), hasOwner := (by decide +kernel), args := PySem.F.store_ValueError.args, passes := (fun _ => by kernel_rfl),
  slot := .of (owner := "object") (n := "__setattr__") (by rw [typeLookup_type, builtinLookup_eq_fast] <;> kernel_rfl) (by decide +kernel) (by decide +kernel) (by decide +kernel) (by first | exact .inl (by decide +kernel) | exact .inr (by decide +kernel)) (by rw [isSubtype_type] <;> kernel_rfl) }
theorem ke_init : Slot "KeyError" "__init__" "KeyError.__init__" :=
  .of (owner := "KeyError") (n := "__init__") (by rw [typeLookup_type, builtinLookup_eq_fast] <;> kernel_rfl) (by decide +kernel) (by decide +kernel) (by decide +kernel) (by first | exact .inl (by decide +kernel) | exact .inr (by decide +kernel)) (by rw [isSubtype_type] <;> kernel_rfl)
theorem ke_initEntry : entryFor table "KeyError.__init__" = some Builtin.«BaseException.__init__» :=
  entryFor_alias (id' := "BaseException.__init__") (by rw [fastTable_eq_tree] <;> kernel_rfl) (by first | rfl | decide +kernel) (by decide +kernel) (by rw [fastTable_eq_tree] <;> kernel_rfl)
theorem ke_kind : builtinKind "KeyError.__init__" = some .slot := by kernel_rfl
theorem ke_row : Manifest.signature? "KeyError.__init__" = some ⟨.positional, "*", "KeyError", .self, [⟨"args", .varPos, false⟩]⟩ := by kernel_rfl
section
variable {prog : Program} {w : World} {M : Model} {A : Around} {E : Value → Shared → Prop} {R : Result → Shared → Prop} {h : Heap} {g : Array GenState} {d : Drawn} {t : Nat} {os : OsState}
variable {nm q : Str} {C N : Addr} {bs bm bmB : List Value} {hdct : Bool} {sn : List Str} {sub : List Value} {ab : Bool} {col : Option Bool} {dd : Option Addr} {k0 k1 k2 k3 k5 : Option Value} {B newId initId : String}
theorem ke_bound {e : Addr} {oe : Obj} {rest : List Value} {Q : Unit → Shared → Prop} (hC : h.get? C = some (excClassObj nm q C N bs bm hdct sn sub ab col dd k0 k1 k2 k3 k5 newId)) (he : h.get? e = some oe) (hcls : oe.cls = .ref C)
    (hq : Q () ⟨h, g, d, t, os⟩) : wpAny M A (checkBoundCall "KeyError.__init__" ⟨.ref e :: rest, []⟩) Q E ⟨h, g, d, t, os⟩ := by
  have hshort : ("KeyError" != "*") = true := by decide +kernel
  simp only [checkBoundCall, ke_kind, ke_row]
  repeat (first
    | (with_reducible refine wpAny_loadPart_at he ?_; rw [hcls])
    | with_reducible refine wpAny_loadPart_at hC ?_
    | wp_step)
  refine wpAny_onRaise ?_
  have z : ∀ (a b : String) (n : Nat), Bind.check ⟨.positional, "*", "KeyError", .self, [⟨"args", .varPos, false⟩]⟩ a b n (List.map (fun x => x.fst) ({ pos := Value.ref e :: rest } : Args).kw) = pure () := fun a b n => check_star_args _ _ _ _ _ _
  rw [z]
  exact wpAny_pure hq
theorem ke_bw {u e t0 : Addr} {rest : List Value} {Q : Value → Shared → Prop} (hC : h.get? C = some (excClassObj nm q C N bs bm hdct sn sub ab col dd k0 k1 k2 k3 k5 newId)) (he : h.get? e = some (excObj C t0 none .none))
    (hu : h.get? u = some (kxs_mw "KeyError.__init__" e)) (hz : rest.length ≤ sizeLine)
    (hq : ∀ h' t1, (∀ b o, b ≠ e → h.get? b = some o → h'.get? b = some o) → h'.get? e = some (excObj C t1 none .none) → Q .none ⟨h', g, d, t, os⟩) : wpAny (model prog w) A (call (.ref u) rest) Q E ⟨h, g, d, t, os⟩ := by
  refine wpAny_call (codeAny_of_tree (show wpAny _ A.in1 (callAny (.ref u) ⟨rest, []⟩) _ _ _ from ?_))
  simp only [callAny]
  refine wpAny_bind (wpAny_load hu ?_)
  have y : (Value.type "method-wrapper" == Value.type "method" || Value.type "method-wrapper" == Value.type "builtin_function_or_method" || Value.type "method-wrapper" == Value.type "method-wrapper") = true := by decide
  simp only [kxs_mw, y, if_true]
  refine KFB.if_so (by decide) (wpAny_bind (ke_bound hC he rfl ?_))
  refine wpAny_bind (wpAny_pure (wpAny_pure ⟨plainId_quiet ke_init.plain _, codeAny_builtin ke_initEntry ?_⟩))
  exact exc_init_tree (cls := .ref C) (t0 := t0) (dv := none) (c2 := .none) (c3 := .none) (b4 := .bool false) he hz fun h' k e' _ => hq h' _ k e'
theorem n_new (F : ExcBaseFacts B newId initId bmB) (hB : (Value.ref C :: bm).contains (.type B) = true) (hA : (Value.ref C :: bm).contains (.type "AttributeError") = false) (hN : (Value.ref C :: bm).contains (.type "NameError") = false)
    {rest : List Value} (hC : h.get? C = some (excClassObj nm q C N bs bm hdct sn sub ab col dd k0 k1 k2 k3 k5 newId)) (hrest : rest.length ≤ sizeLine)
    (hq : R (.ok (.ret (.ref (h.objs.size + 1)))) ⟨(h.push (W.kdv_tup rest)).push (PX.excO C h.objs.size), g, d, t, os⟩) : codeAny (model prog w) A (.builtin newId ⟨.ref C :: rest, []⟩) R ⟨h, g, d, t, os⟩ := by
  have hends := F.ends
  refine codeAny_builtinAt F.entry ?_
  unfold Builtin.«BaseException.__new__»
  refine PySem.wpAt_bind (show PySem.wpAt _ _ _ (stack >>= _) _ _ _ from ?_)
  refine PySem.wpAt_bind (PySem.wpAt_stack fun p below => PySem.wpAt_of_wpAny ?_)
  wp_walk
  refine PySem.wpAt_of_wpAny ?_
  rw [F.owner]
  repeat (first
    | with_reducible refine wpAny_madeHere_exc F.canon hC ?_
    | with_reducible refine wpAny_loadPart_at hC ?_
    | (with_reducible refine wpAny_isSubtype_exc hC ?_; first | rw [hB] | rw [hA] | rw [hN])
    | wp_step)
  have z : R (.ok (.ret (.ref (h.push (W.kdv_tup rest)).objs.size))) ⟨(h.push (W.kdv_tup rest)).push (PX.excO C h.objs.size), g, d, t, os⟩ := by
    rw [Heap.size_push]
    exact hq
  exact z
/-- type.__call__ on a class whose built-in __new__ is that of B, whatever else stands among its bases -/
theorem n_call (F : ExcBaseFacts B newId initId bmB) (hB : (Value.ref C :: bm).contains (.type B) = true) (hA : (Value.ref C :: bm).contains (.type "AttributeError") = false) (hN : (Value.ref C :: bm).contains (.type "NameError") = false)
    {rest : List Value} {fI : Addr} (hC : h.get? C = some (excClassObj nm q C N bs bm hdct sn sub ab col dd k0 k1 k2 k3 k5 newId)) (hi : W.Looks (model prog w) h (typeLookup (.ref C) "__init__") (some (.ref fI)))
    (hb : ∀ self, W.Looks (model prog w) h (bindSpecial (.ref fI) self) (.ref fI, [self])) (hrest : rest.length ≤ sizeLine)
    (hq : codeAny (model prog w) (A.under (.builtin "type.__call__" ⟨.ref C :: rest, []⟩)) (.call (.ref fI) ⟨.ref (h.objs.size + 1) :: rest, []⟩) (W.InitBack (h.objs.size + 1) R) ⟨(h.push (W.kdv_tup rest)).push (PX.excO C h.objs.size), g, d, t, os⟩) :
    codeAny (model prog w) A (.call (.ref C) ⟨rest, []⟩) R ⟨h, g, d, t, os⟩ := by
  have tyC : (⟨h, g, d, t, os⟩ : Shared).TypeIs (.ref C) "type" := ⟨_, hC, rfl⟩
  have l1 := tc_lookup
  have l2 := tc_bind (.ref C)
  have hstar := F.noStar
  refine codeAny_of_tree (show wpAny _ _ (callAny (.ref C) _) _ _ _ from ?_)
  repeat (any_goals (first
    | assumption
    | with_reducible refine wpAny_loadPart_at hC ?_
    | wp_step))
  refine ⟨rfl, codeAny_call_builtin_at (Code.quiet_builtin _ (by decide +kernel)) entry_typeCall (wpAny_check_type_call_sub hC ?_)⟩
  repeat (first
    | with_reducible refine wpAny_loadPart_at hC ?_
    | with_reducible refine wpAny_madeBy_exc hC ?_
    | wp_step)
  refine codeAny_call_builtin_code (Code.quiet_builtin _ F.quiet) ?_
  simp only [checkBuiltinCall, F.newKind, F.newSplit, F.newRow]
  repeat (first
    | refine wpAny_loadPart_at hC ?_
    | (refine wpAny_isSubtype_exc hC ?_; rw [hB])
    | refine wpAny_staticBase_exc hC ?_
    | refine wpAny_madeBy_exc hC ?_
    | simp only [bne_self_eq_false, Bool.false_eq_true, if_false]
    | wp_step)
  refine n_new F hB hA hN hC hrest ?_
  show wpAny _ _ _ _ _ _
  have kk : ∀ b o, h.get? b = some o → ((h.push (W.kdv_tup rest)).push (PX.excO C h.objs.size)).get? b = some o := fun b o e => Heap.get?_push_of_some _ (Heap.get?_push_of_some _ e)
  have hC₁ := kk _ _ hC
  have hget : ((h.push (W.kdv_tup rest)).push (PX.excO C h.objs.size)).get? (h.objs.size + 1) = some (PX.excO C h.objs.size) := by heap_get
  have hcC : (Value.ref C :: bm).contains (.ref C) = true := by simp
  have i1 := hi.keeps kk
  have b1 := (hb (.ref (h.objs.size + 1))).keeps kk
  unfold isInstance
  repeat (first
    | with_reducible refine wpAny_loadPart_at hget ?_
    | wp_step)
  show wpAny _ _ (isSubtype (.ref C) (.ref C)) _ _ _
  refine wpAny_isSubtype_exc hC₁ ?_
  rw [hcC]
  repeat (first
    | with_reducible refine wpAny_loadPart_at hget ?_
    | wp_step)
  show wpAny _ _ (typeLookup (.ref C) _) _ _ _
  refine i1.at (wpAny_holding (wpAny_bind (b1.at (wpAny_bind (wpAny_call (codeAny_mono hq fun r s' z => ?_))))))
  rcases r with e | fl
  · exact z
  · cases fl with
    | ret v =>
      obtain ⟨rfl, z⟩ := z
      first
        | exact wpAny_pure (wpAny_pure z)
        | (wp_walk; exact z)
    | next => exact z.elim
    | brk => exact z.elim
    | cont => exact z.elim
end
end XN
namespace XN
open PySem PySem.W PySem.Calls PyProof.Rows PySem.Spec
/-- the same for a class over KeyError -/
structure VTxtK (P : Program) (K : Frag) (mg : Str → Option Value) (C fI : Addr) : Prop where
  init : findIn K (.ref C) "__init__" = some (some (.ref fI))
  q : excInitIn K C keB "LookupError.__new__" = true
  isf : isFn K (.ref fI) = true
  gS : mg "super" = none
  any : nsIn K cStatics "thirdparty.any" = some none
  sm : ks_superIn K C C "__init__" = some (some (.builtin "KeyError.__init__"))
  sB : subIn K (.ref C) (.type "KeyError") = some true
  sa : findIn K (.ref C) "__setattr__" = some (some (.builtin "object.__setattr__"))
  ov : excOver K C keB = true
  tk : takerIn K C "name" = some none
  hh : hasDictIn K C = true
  me : mroIn K C (.ref C) = some true
  top : (P.main.scope.names.lookup ("super" : Str)).isSome = false
theorem boot_super : bootBuiltins "super" = some (.type "super") := by decide +kernel
/-! ### name -/
abbrev sV_name : Stmt := L2.inClass (FR.top 5) 0
/-- the function of such an __init__ stands at fI -/
def VFn_name (P : Program) (K : Frag) (C fI : Addr) (qual : Str) : Prop := ∃ (oc doc pm kV ct : Value) (od an : Option Addr) (cda cc : Addr) (osl : Array (Option Value)),
    K.lookup fI = some ⟨oc, od, .func (ksFn "__init__" qual (L2.defArgs sV_name) (L2.defBody sV_name) (L2.defScope sV_name) .none kV doc pm an (.ref cda) ct cc), osl⟩ ∧ codeIn K (.ref cda) qual = true ∧
    (∃ ccl cdd vs ccs file tf, K.lookup cda = some ⟨ccl, cdd, .fields vs, ccs⟩ ∧ vs[2]? = some (.str file tf) ∧ ((P.main.file : Str) == file) = true) ∧
    ∃ cl cld csl, K.lookup cc = some ⟨cl, cld, .cell (some (.ref C)), csl⟩
section
variable {P : Program} {w : World} {A : Around} {E : Value → Shared → Prop} {s : Shared} {K : Frag} {mg : Str → Option Value} {h₀ : Heap} {L C fI : Addr} {m : Str → Option Value}
variable {qual fld : Str} {B newId i : String} {bmB : List Value}
theorem v_made_name (T : VTxtK P K mg C fI) (TF : VFn_name P K C fI qual) (M : L2.Mod K mg h₀) (F : Fr h₀ L s.heap m) (hroom : A.depth + 1 < recursionLimit) {v : Value} {Q : Value → Shared → Prop}
    (hq : ∀ (h' : Heap) (tk : Nat) (e t d : Addr) (o : Obj), (∀ b u, s.heap.get? b = some u → h'.get? b = some u) → s.heap.objs.size ≤ e → s.heap.objs.size ≤ d → d ≠ e →
      h'.get? e = some (excObj C t (some d) .none) → h'.get? d = some o → lookIn "name" o = some (some v) → Q (.ref e) { s with heap := h', toks := tk }) :
    wpAny (model P w) A (call (.ref C) [v]) Q E s := by
  obtain ⟨oc, doc, pm, kV, ct, od, an, cda, cc, osl, hfn, hcode, ⟨ccl, cdd, vs, ccs, file, tf, hcda, hvs2, hfile⟩, cl, cld, csl, hcell⟩ := TF
  obtain ⟨mb, nb, hbb⟩ := M.blt
  have X : K.In s.heap := M.kin.keeps F.keep
  obtain ⟨nm, N', qn, bs, bm, hdct, sn, sub, ab, col, dd, k0, k1, k2, k3, k5, hC, hT⟩ := excInit_of X T.q
  obtain ⟨oI, hoI, hcI⟩ : ∃ oI, s.heap.get? fI = some oI ∧ oI.cls = .type "function" := by
    obtain ⟨o, ho, hc⟩ := Option.map_eq_some_iff.mp (show (K.lookup fI).map (·.cls) = some (.type "function") from beq_iff_eq.mp T.isf)
    exact ⟨o, X _ _ ho, hc⟩
  obtain ⟨cdC, hcdC⟩ : ∃ cdC, clsIn K C = some cdC := by
    obtain ⟨z, y, _⟩ := any_some T.hh
    exact ⟨z, y⟩
  obtain ⟨hp, g, dr, tk, os⟩ := s
  dsimp only at hq F X hC hoI
  have hB : (Value.ref C :: bm).contains (.type "LookupError") = true := by
    rw [List.contains_cons, hT]
    rfl
  have hA : (Value.ref C :: bm).contains (.type "AttributeError") = false := by
    rw [List.contains_cons, hT]
    rfl
  have hN : (Value.ref C :: bm).contains (.type "NameError") = false := by
    rw [List.contains_cons, hT]
    rfl
  refine wpAny_call (n_call PySem.F.excBase_LookupError hB hA hN hC (looks_findIn X T.init) (fun self => exc_bind hoI hcI self) (by show 1 ≤ sizeLine; decide) ?_)
  generalize hh1 : (hp.push (kdv_tup [v])).push (PX.excO C hp.objs.size) = h1
  have k1 : ∀ b u, hp.get? b = some u → h1.get? b = some u := fun b u e => by
    rw [← hh1]
    exact Heap.get?_push_of_some _ (Heap.get?_push_of_some _ e)
  have he : h1.get? (hp.objs.size + 1) = some (excObj C hp.objs.size none .none) := by
    rw [← hh1]
    heap_get
  have s1 : h1.objs.size = hp.objs.size + 2 := by
    rw [← hh1, Heap.size_push, Heap.size_push]
  have X1 : K.In h1 := X.keeps k1
  have hlow : h₀.objs.size < hp.objs.size := Nat.lt_of_le_of_lt F.above F.ns.lt
  refine ks_codeAny_call_defAt (fd := ksFn "__init__" qual (L2.defArgs sV_name) (L2.defBody sV_name) (L2.defScope sV_name) .none kV doc pm an (.ref cda) ct cc) (body := L2.defBody sV_name) (binds := [("self", Value.ref (hp.objs.size + 1)), ("name", v)])
    (by show A.depth + 1 < recursionLimit; exact hroom) (X1 _ _ hfn) rfl ((M.nolimit.keeps F.keep).keeps k1) (codeRec_of X1 hcode) rfl (BindsTo.of_eq (by first | rfl | with_unfolding_all rfl))
    (by show ∀ x ∈ (L2.defScope sV_name).names, x.2 ≠ NameKind.cell; decide) (by simp only [List.mem_cons, List.not_mem_nil, or_false, forall_eq_or_imp, forall_eq]; exact ⟨rfl, rfl⟩) (fun h2 hn2 k2 => ?_)
  have F2 : Fr hp h1.objs.size h2 (fun x => ([("self", Value.ref (hp.objs.size + 1)), ("name", v)] : List (Str × Value)).reverse.lookup x) :=
    ⟨hn2, fun b o e => k2 b o (k1 b o e), by
      show hp.objs.size ≤ h1.objs.size
      omega⟩
  have N2 : News hp h1.objs.size h2 [(hp.objs.size + 1, excObj C hp.objs.size none .none)] := fun p hp' => by
    rcases List.mem_cons.mp hp' with rfl | z
    · refine ⟨k2 _ _ he, ?_, ?_⟩
      · show hp.objs.size + 1 ≠ h1.objs.size
        omega
      · cases z : hp.get? (hp.objs.size + 1) with
        | none => rfl
        | some o =>
          have z1 : hp.objs.size + 1 < hp.objs.size := Heap.lt_size z
          omega
    · cases z
  show _root_.PySem.wpAt _ _ _ (execs (L2.defBody sV_name) (ksEnv qual (L2.defScope sV_name) h1.objs.size fI (.ref cda) cc)) _ _ _
  refine ks_wpAt_execs_cons (ks_wpAt_Expr_any (ks_wpAt_MethodCall ?_))
  have X2 : K.In h2 := X1.keeps k2
  have G2 : h2.Ns mainGlobals mg := (M.glob.keeps F.keep).keeps fun b o e => k2 b o (k1 b o e)
  have B2 : h2.Ns builtinsNs mb := (nb.keeps F.keep).keeps fun b o e => k2 b o (k1 b o e)
  have I2 : InstAt h2 (hp.objs.size + 1) (excObj C hp.objs.size none .none) C none := ⟨k2 _ _ he, rfl, rfl, trivial⟩
  obtain ⟨oD, hD1, hD2⟩ : ∃ oD, h2.get? C = some oD ∧ oD.data = .cls cdC := by
    unfold clsIn at hcdC
    split at hcdC
    · rename_i c d cd' sl ho
      cases hcdC
      exact ⟨_, X2 _ _ ho, rfl⟩
    · cases hcdC
  refine ks_wpAt_super_base (env := ksEnv qual (L2.defScope sV_name) h1.objs.size fI (.ref cda) cc) rfl rfl rfl rfl (X2 _ _ hfn) rfl rfl rfl (X2 _ _ hcda) rfl hvs2 hfile T.top ?_
  refine ks_loadName_global rfl rfl (loadGlobal_builtin (env := ksEnv qual (L2.defScope sV_name) h1.objs.size fI (.ref cda) cc) G2 T.gS B2 ((hbb _ (by decide +kernel)).trans boot_super) ⟨rfl, ?_⟩)
  refine wpAny_loadName_free rfl rfl rfl ⟨_, X2 _ _ hcell, rfl⟩ ?_
  refine wpAny_loadName_local (v := .ref (hp.objs.size + 1)) rfl rfl F2.ns (by first | rfl | with_unfolding_all rfl | kernel_rfl) ?_
  refine ks_wpAny_isType_cls hD1 hD2 ⟨rfl, ?_⟩
  refine ks_wpAny_call_super hD1 hD2 I2.at_ I2.cls (fun c e => nomatch e) (looks_mroIn X2 T.me) (fun h3 e3 k3 => ?_)
  obtain ⟨F3, N3, _⟩ := ks_newsPush (s := ⟨h2, g, dr, 0, os⟩) F2 N2 rfl e3 k3
  have I3 : InstAt h3 (hp.objs.size + 1) (excObj C hp.objs.size none .none) C none := ⟨k3 _ _ (k2 _ _ he), rfl, rfl, trivial⟩
  refine kxs_method (D := C) ke_kxs F3 X N3 (by simp) I3 T.any T.sm T.sB rfl (fun q h4 F4 N4 lt4 => ?_)
  refine kxs_callWith1 (i := "KeyError.__init__") (x := hp.objs.size + 1) N4 (by simp) ?_ rfl rfl
  refine Calls.spliced_cons ?_
  refine Calls.Constant_str (k := 0) (pos := ⟨0, 0, 0, 0⟩) ?_
  refine Calls.spliced_nil ⟨kxs_at (i := "KeyError.__init__") N4 (by simp), ?_⟩
  have he4 := (N4 (hp.objs.size + 1, excObj C hp.objs.size none .none) (by simp)).1
  have hu4 := (N4 (q, kxs_mw "KeyError.__init__" (hp.objs.size + 1)) (by simp)).1
  have hs4 := (N4 (h2.objs.size, ks_superObj C (hp.objs.size + 1) C) (by simp)).1
  have neq : q ≠ hp.objs.size + 1 := Nat.ne_of_gt (lt4 (hp.objs.size + 1, excObj C hp.objs.size none .none) (by simp))
  have nes : h2.objs.size ≠ hp.objs.size + 1 := Nat.ne_of_gt (Heap.lt_size (k2 _ _ he))
  refine ke_bw (F4.keep _ _ hC) he4 hu4 (by show 1 ≤ sizeLine; decide) (fun h5 t5 k5 e5 => ?_)
  have F5 : Fr hp h1.objs.size h5 (fun x => ([("self", Value.ref (hp.objs.size + 1)), ("name", v)] : List (Str × Value)).reverse.lookup x) := by
    obtain ⟨oL, es, ep, hL, r⟩ := F4.ns
    refine ⟨⟨oL, es, ep, k5 _ _ ?_ hL, r⟩, fun b o z => k5 b o (fun y => ?_) (F4.keep b o z), F4.above⟩
    · show h1.objs.size ≠ hp.objs.size + 1
      omega
    · have y2 : b < hp.objs.size := Heap.lt_size z
      rw [y] at y2
      exact Nat.not_lt.mpr (Nat.le_succ _) y2
  have N5 : News hp h1.objs.size h5 [(q, kxs_mw "KeyError.__init__" (hp.objs.size + 1)), (h2.objs.size, ks_superObj C (hp.objs.size + 1) C), (hp.objs.size + 1, excObj C t5 none .none)] := by
    intro p hp'
    simp only [List.mem_cons, List.not_mem_nil, or_false] at hp'
    rcases hp' with rfl | rfl | rfl
    · exact ⟨k5 _ _ neq hu4, (N4 (q, kxs_mw "KeyError.__init__" (hp.objs.size + 1)) (by simp)).2⟩
    · exact ⟨k5 _ _ nes hs4, (N4 (h2.objs.size, ks_superObj C (hp.objs.size + 1) C) (by simp)).2⟩
    · exact ⟨e5, (N4 (hp.objs.size + 1, excObj C hp.objs.size none .none) (by simp)).2⟩
  refine ks_wpAt_execs_cons (ks_wpAt_Assign_Attr (wpAt_of_wpAny ?_))
  refine wpAny_Name ?_
  refine wpAny_loadName_local (v := v) rfl rfl F5.ns (by first | rfl | with_unfolding_all rfl | kernel_rfl) ?_
  refine wpAny_Name ?_
  refine wpAny_loadName_local (v := .ref (hp.objs.size + 1)) rfl rfl F5.ns (by first | rfl | with_unfolding_all rfl | kernel_rfl) ?_
  have U5 : UpdF (hp.objs.size + 1) (excObj C t5 none .none) [(q, kxs_mw "KeyError.__init__" (hp.objs.size + 1)), (h2.objs.size, ks_superObj C (hp.objs.size + 1) C), (hp.objs.size + 1, excObj C t5 none .none)]
      (fun o' => [(q, kxs_mw "KeyError.__init__" (hp.objs.size + 1)), (h2.objs.size, ks_superObj C (hp.objs.size + 1) C), (hp.objs.size + 1, o')]) := .tail neq (.tail nes (.head fun p z => nomatch z))
  refine set_exc0 ke_store F5 X N5 (by simp) T.sa T.ov T.tk T.hh rfl U5 (by show 1 ≤ 1000; decide) (fun dx h6 F6 N6 lt6 => ?_)
  refine wpAt_of_wpAny (wpAny_execs_nil ⟨rfl, ?_⟩)
  refine hq h6 _ (hp.objs.size + 1) t5 dx _ F6.keep (Nat.le_succ _) ?_ ?_ (N6 (hp.objs.size + 1, excObj C t5 (some dx) .none) (by simp)).1 (N6 _ (List.mem_cons_self)).1 ?_
  · exact Nat.le_of_lt (Nat.lt_of_succ_lt (lt6 (hp.objs.size + 1, excObj C t5 none .none) (by simp)))
  · exact Nat.ne_of_gt (lt6 (hp.objs.size + 1, excObj C t5 none .none) (by simp))
  · first | rfl | with_unfolding_all rfl | simp [lookIn, putL, Value.isStr]
end
end XN
namespace L2
open PySem PySem.Spec PyProof.Rows
/-- the own dict of an exception held as a value: its field -/
def ExD (fld : Str) (v : V) (d : Addr) : HO := .ext fun h => ∃ (o : Obj) (u : Value), h.get? d = some o ∧ PySem.W.lookIn fld o = some (some u) ∧ RelV v u
/-- the class at C makes exceptions that keep their one argument as the attribute fld -/
def VMade (P : Program) (w : World) (K : PySem.W.Frag) (mg : Str → Option Value) (C : Addr) (fld : Str) : Prop :=
  ∀ {A : Around} {E : Value → Shared → Prop} {s : Shared} {h₀ : Heap} {L : Addr} {m : Str → Option Value}, Mod K mg h₀ → Fr h₀ L s.heap m → A.depth + 1 < recursionLimit → ∀ {v : Value} {Q : Value → Shared → Prop},
    (∀ (h' : Heap) (tk : Nat) (e t d : Addr) (o : Obj), (∀ b u, s.heap.get? b = some u → h'.get? b = some u) → s.heap.objs.size ≤ e → s.heap.objs.size ≤ d → d ≠ e →
      h'.get? e = some (PySem.W.excObj C t (some d) .none) → h'.get? d = some o → PySem.W.lookIn fld o = some (some v) → Q (.ref e) { s with heap := h', toks := tk }) →
    wpAny (model P w) A (call (.ref C) [v]) Q E s
section
variable {X : Cx}
/-- raise C(e), C's instances keep their one argument -/
def tMkN (C : Addr) (fld : Str) (ta : TE) : St → Hp → XK → Prop := fun σ H Q => ta σ H fun v H1 => ∀ d, H1 d = none → Q (.ref C) (some d) (upd H1 d (ExD fld v d))
theorem pmk_name {C : Addr} {fld x : Str} {e : Expr} {ta : TE} {p pos : Pos} {k : Nat} (T : VMade X.prog X.w X.K X.mg C fld) (R : Raises X (.ref C)) (hr : Room k X.A) (gC : X.mg x = some (.ref C)) (kC : PySem.W.keepIn X.K (.ref C) = true) (hg : Gl X x)
    (he : PE X e ta) (hs : starEach [e] X.env = (false, eval e X.env) :: starEach [] X.env := by rfl) (hdb : (x == ("__debug__" : Str)) = false := by decide) :
    PMk X (.Call (.Name x p) [e] [] pos) (tMkN C fld ta) := by
  intro pins s σ H Q I h
  refine wpAny_Call_Name_kw (ld_glob I hg gC ?_ hdb)
  refine PySem.W.callWith_K (h₀ := X.base) I.ok.mod.kin kC ?_ hs (by rfl)
  rw [hs]
  refine Calls.spliced_cons (thn (he.run pins s σ H _ I h) fun u s1 ⟨v, H1, I1, r1, q1⟩ => Calls.spliced_nil ⟨I1.kIn, ?_⟩)
  show wpAny _ _ (call (.ref C) [u]) _ _ _
  obtain ⟨m, F⟩ := I1.fr
  refine T I1.mod F (by have := hr.dp; omega) fun h' tk a t d o kk ha hd ne ea ed el => ?_
  obtain ⟨G, g1, g2⟩ := restrict h' fun b => decide (b ≠ a)
  have gk : ∀ b, b ≠ a → G.get? b = h'.get? b := fun b hb => g1 b (decide_eq_true hb)
  have ga : G.get? a = none := g2 a (by simp)
  have na : H1 a = none := I1.hok.fresh ha
  have nd : H1 d = none := I1.hok.fresh hd
  have J1 : Inv X pins σ (upd H1 d (ExD fld v d)) { s1 with heap := G, toks := tk } :=
    I1.laid (t' := tk) (fun b y q => (gk b (Nat.ne_of_lt (Nat.lt_of_lt_of_le (Heap.lt_size q) ha))).trans (kk b y q)) hd
      ⟨⟨o, u, (gk d ne).trans ed, el, r1⟩, ⟨o, (gk d ne).trans ed⟩, fun _ _ ⟨o2, u2, y1, y2, y3⟩ k => ⟨o2, u2, k o2 y1, y2, y3⟩⟩
  exact ⟨a, _, _, _, _, .ref C, some d, rfl, J1, fun b y q => by
    by_cases hb : b = a
    · have q2 : G.get? b = some y := q
      rw [hb, ga] at q2
      cases q2
    · exact (gk b hb).symm.trans q, ga, ea, ⟨rfl, rfl⟩, rfl, rfl, by rw [upd_ne (Ne.symm ne)]; exact na, rfl, I1.bare, R, q1 d nd⟩
/-- e.fld in the suite that caught it -/
def tXn (a : Addr) (cls : Value) (d : Option Addr) (C : Addr) (f : Str) (te : TE) : TE := fun σ H Q => te σ H fun x H1 => x = .ref a ∧ cls = .ref C ∧ ∃ (dd : Addr) (v : V), d = some dd ∧ H1 dd = some (ExD f v dd) ∧ Q v H1
theorem pe_xn {a C : Addr} {oe : Obj} {cls : Value} {d : Option Addr} {pn : List (Addr × Obj)} {e : Expr} {te : TE} {pos : Pos} {n : Str} (T : XfC X.K C) (hno : PySem.W.findIn X.K (.ref C) n = some none)
    (hz : Zc cls d oe) (hf : ∃ vs, oe.data = .fields vs) (he : PE (X.suite a ((a, oe) :: pn)) e te) (hb : attributeBase e n X.env (eval e X.env) = eval e X.env := by rfl) :
    PE (X.suite a ((a, oe) :: pn)) (.Attribute e n pos) (tXn a cls d C n te) := by
  refine ⟨fun pins s σ H Q I h => attr_of hb (thn (he.run pins s σ H _ I h) fun u s1 hh => ?_)⟩
  obtain ⟨x, H1, I1, rx, ex, ec, dd, v, ed, ea, q⟩ := hh
  subst ex ec ed
  obtain rfl : u = Value.ref a := rx
  obtain ⟨ha, _⟩ := I1.pin (a, oe) (List.mem_append_left _ List.mem_cons_self)
  obtain ⟨vs, hd⟩ := hf
  obtain ⟨⟨od, w0, ho, hl, ru⟩, _, _⟩ := I1.hok dd _ ea
  have J : PySem.W.InstAt s1.heap a oe C (some od) := ⟨ha, hz.1, by unfold PySem.W.notCls; rw [hd] <;> rfl, by rw [hz.2]; exact ho⟩
  exact HandSPX.exc_get I1.kIn J T.ga T.gg T.exC (PySem.W.findObj_own T.hdC hno rfl hl) (handed_of ru) ⟨v, H1, I1.tok _, ru, q⟩
end
end L2
set_option Elab.async false
set_option linter.all false
set_option maxRecDepth 100000
set_option maxHeartbeats 1000000
/-! tuple(d) of a dict -/
namespace L2
open PySem PySem.Spec PyProof.Rows
section
variable {X : Cx}
theorem call_tuple_dK (hc : X.calm = true) : CallR X (.type "tuple") (fun xs H Q => ∃ (a : Addr) (kvs : List (Key × V)), xs = [.ref a] ∧ Rd H a (.dK kvs) ∧ ∀ p, H p = none → Q (.ref p) (upd H p (.tup (kvs.map fun kv => kV kv.1)))) := by
  intro pins s σ H xs us Q I r q
  obtain ⟨a, kvs, rfl, hd, q⟩ := q
  obtain ⟨u, rfl, rx⟩ := vals1 r
  cases rx
  obtain ⟨z, lo, vs, rel, dd⟩ := dk_rd I.hok hd
  obtain ⟨ep, hat⟩ := dd.dictAt
  have hT : s.TypeIs (.ref a) "dict" := dd.typeIs
  have ek : (kvs.map fun kv => kV kv.1) = vs.map fun p => kV p.1 := by
    have e := congrArg (List.map kV) rel.keys
    rw [List.map_map, List.map_map] at e
    exact e
  have fin : ∀ (h' : Heap) (tk : Nat) (acc : Array Value), (∀ b o, s.heap.get? b = some o → h'.get? b = some o) → Vals (vs.map fun p => kV p.1) acc.toList →
      EP X pins σ Q (.ref h'.objs.size) { s with heap := h'.push { cls := .type "tuple", data := .seq acc.toList.toArray }, toks := tk } := fun h' tk acc k hv => by
    have I1 : Inv X pins σ H { s with heap := h', toks := tk } := I.kept (t' := tk) k
    exact ⟨.ref h'.objs.size, _, I1.laid (t' := tk) (fun b o e => Heap.get?_push_of_some _ e) (Nat.le_refl _) (show ObjOk X.prog X.w _ _ _ (.tup (kvs.map fun kv => kV kv.1)) from ⟨by rw [List.length_map]; exact z, acc.toList, by rw [ek]; exact hv, IsTup.new _ _⟩), rfl, q _ (I1.hok.fresh (Nat.le_refl _))⟩
  refine callType_codes (Q₁ := fun obj s₁ => s₁.TypeIs obj "tuple" ∧ EP X pins σ Q obj s₁) PySem.F.called_tuple (PySem.F.typeCall_tuple_1 _) PySem.F.entry_object_init ?_ fun obj s₁ h₁ =>
    ⟨h₁.1, PySem.F.args_object_init_2 obj _, object_init_meets PySem.F.called_tuple.init.lookup PySem.F.called_tuple.made (by decide) X.prog X.w X.A.in1 _ s₁ ⟨h₁.1, rfl, h₁.2⟩⟩
  refine codeAny_of_tree ?_
  show wpAny _ _ (do checkBuiltinCall "tuple.__new__" ⟨[.type "tuple", .ref a], []⟩; again (.builtin "tuple.__new__" ⟨[.type "tuple", .ref a], []⟩)) _ _ s
  refine wpAny_bind (wpAny_of_eq (PySem.F.newCall_tuple_1 _) (wpAny_pure ⟨plainId_quiet PySem.F.plain_tuple_new _, codeAny_builtin PySem.F.entry_tuple_new ?_⟩))
  rw [Around.under_plainId PySem.F.plain_tuple_new _]
  have hsub := sub_tuple_self
  have hinit := init_tuple_lookup
  have hmh := madeHere_tuple
  have hh : X.A.handled = none := I.ok.hd hc
  wp_walk using wpAny_typeOf hT, PySem.W.kdu_collect (PySem.W.kdl_dict (knd := mixKind X.prog X.w) (kvs := vs) (ep := ep) lo) (by exact hh) hat (by rw [← rel.length]; exact z)
  intro h' tk acc hk hacc
  show wpAny _ _ (Builtin.Tuple.tupleExact acc.toList.toArray >>= fun v => ret v) _ _ _
  unfold Builtin.Tuple.tupleExact
  refine wpAny_bind (wpAny_newObj_type ?_ (by show acc.toList.toArray.size ≤ sizeLine; rw [Array.toArray_toList, hacc.1, ← rel.length]; exact z))
  exact wpAny_pure ⟨⟨_, Heap.get?_push_size _ rfl, rfl⟩, fin h' tk acc hk (keys_at (by rw [Array.length_toList]; exact hacc.1) fun j v e => hacc.2 j v (by rw [← Array.getElem?_toList]; exact e))⟩
end
end L2
set_option Elab.async false
set_option linter.all false
set_option maxRecDepth 100000
set_option maxHeartbeats 1000000
/-! == of data without dicts; of dicts of such; bodies as data -/
namespace L2
open PySem PySem.Spec PyProof.Rows
/-- data without dicts, not too deep -/
def PlainD (d : PyData) : Prop := d.plain = true ∧ d.depth ≤ 60
def rEqP (K : PySem.W.Frag) : R2 := fun x y H Q => ∃ d e, Dp K H x d ∧ Dp K H y e ∧ PlainD d ∧ PlainD e ∧ Q (.bl (PyData.eqv d e)) H
def rNeP (K : PySem.W.Frag) : R2 := fun x y H Q => ∃ d e, Dp K H x d ∧ Dp K H y e ∧ PlainD d ∧ PlainD e ∧ Q (.bl (!PyData.eqv d e)) H
section
variable {X : Cx}
theorem op_eqP {K : PySem.W.Frag} (hK : X.K = K) (hu : X.A.units + 64 < cLine) : OpR X (compareOp .Eq) (rEqP K) := by
  subst hK
  intro pins s σ H x y v u Q I rx ry ⟨d, e, hd, he, pd, pe, q⟩
  obtain ⟨as, r1⟩ := Dp.reads I d x v hd rx
  obtain ⟨bs, r2⟩ := Dp.reads I e y u he ry
  exact SeqAt.eq_plain r1 r2 pd.1 pe.1 (by have := pd.2; have := Nat.min_le_left d.depth e.depth; omega) ⟨.bl _, H, I, rfl, q⟩
theorem op_neP {K : PySem.W.Frag} (hK : X.K = K) (hu : X.A.units + 64 < cLine) : OpR X (compareOp .NotEq) (rNeP K) := by
  subst hK
  intro pins s σ H x y v u Q I rx ry ⟨d, e, hd, he, pd, pe, q⟩
  obtain ⟨as, r1⟩ := Dp.reads I d x v hd rx
  obtain ⟨bs, r2⟩ := Dp.reads I e y u he ry
  exact SeqAt.ne_plain r1 r2 pd.1 pe.1 (by have := pd.2; have := Nat.min_le_left d.depth e.depth; omega) ⟨.bl _, H, I, rfl, q⟩
/-- how the pairs of a dict are met in another -/
inductive Hits (K : PySem.W.Frag) (H : Hp) (ls : List (Key × V)) : List (Key × V) → Bool → Prop
  | nil : Hits K H ls [] true
  | miss {k : Key} {v : V} {r : List (Key × V)} : valV ls k = none → Hits K H ls ((k, v) :: r) false
  | hit {k : Key} {v u : V} {d e : PyData} {r : List (Key × V)} {b : Bool} : valV ls k = some u → Dp K H v d → Dp K H u e → PlainD d → PlainD e → Hits K H ls r b → Hits K H ls ((k, v) :: r) (PyData.eqv d e && b)
theorem hits_of {pins : List (Addr × Obj)} {σ : St} {H : Hp} {s : Shared} (I : Inv X pins σ H s) {A : Around} (hu : A.units + 62 < cLine) {ls : List (Key × V)} {vb : List (Key × Value)} (rb : KV ls vb) :
    ∀ {ks : List (Key × V)} {r : Bool}, Hits X.K H ls ks r → ∀ {va : List (Key × Value)}, KV ks va → PySem.W.KeqHitsP X.prog X.w A s vb va r := by
  intro ks r h
  induction h with
  | nil => intro va ra; cases ra; exact .nil
  | @miss k v r hn =>
    intro va ra
    cases ra with
    | @cons p q ps qs h1 h2 =>
      obtain ⟨k', v'⟩ := q
      obtain ⟨e1, _⟩ := h1
      have e1 : k = k' := e1
      subst e1
      have rr := rb.val k
      rw [hn] at rr
      refine .miss ?_
      cases e : valueAt vb k with
      | none => rfl
      | some y => rw [e] at rr; exact (show False from rr).elim
  | @hit k v u d e r b hu' hd he pd pe hr ih =>
    intro va ra
    cases ra with
    | @cons p q ps qs h1 h2 =>
      obtain ⟨k', v'⟩ := q
      obtain ⟨e1, rv⟩ := h1
      have e1 : k = k' := e1
      subst e1
      have rr : RelO (some u) (valueAt vb k) := by rw [← hu']; exact rb.val k
      obtain ⟨y, hy, ry⟩ := rr.some_of
      obtain ⟨as, r1⟩ := Dp.reads I d v v' hd rv
      obtain ⟨bs, r2⟩ := Dp.reads I e u y he ry
      exact .hit hy (SeqAt.eqAt_plain d e A s v' y as bs r1 r2 pd.1 pe.1 (by have := pd.2; have := Nat.min_le_left d.depth e.depth; omega)).eqP (ih h2)
/-- == of two dicts of data -/
def rEqKD (K : PySem.W.Frag) : R2 := fun x y H Q => ∃ a b ks ls r, x = .ref a ∧ y = .ref b ∧ H a = some (.dK ks) ∧ H b = some (.dK ls) ∧ (ks.length = ls.length → Hits K H ls ks r) ∧ Q (.bl (ks.length == ls.length && r)) H
theorem op_eqKD {K : PySem.W.Frag} (hK : X.K = K) (hu : X.A.units + 64 < cLine) : OpR X (compareOp .Eq) (rEqKD K) := by
  subst hK
  intro pins s σ H x y v u Q I rx ry h
  obtain ⟨a, b, ks, ls, r, rfl, rfl, ha, hb, hits, q⟩ := h
  cases rx
  cases ry
  obtain ⟨_, ya, va, ra, da⟩ := dk_of I.hok ha
  obtain ⟨_, yb, vb, rb, db⟩ := dk_of I.hok hb
  refine PySem.W.rcP_dicts (knd := mixKind X.prog X.w) (r := r) ya yb da db (by omega) (fun e => ?_) _ _ ?_
  · exact hits_of I (A := X.A.in1) (by show X.A.units + 1 + 62 < cLine; omega) rb (hits (by rw [ra.length, rb.length]; exact e)) ra
  · rw [← ra.length, ← rb.length]
    exact ⟨.bl _, H, I, rfl, q⟩
end
end L2
namespace FR
open PySem PySem.Spec PyProof.Rows L2
/-- a statement as data, its bodies by d -/
def dS (d : Bd → PyData) : St → PyData
  | .note z => .tuple [.str "note", .str z]
  | .call z => .tuple [.str "call", .str z]
  | .stay => .tuple [.str "stay"]
  | .again i j b => .tuple [.str "again", .int i, .int j, d b]
  | .choose bs => .tuple (.str "choose" :: bs.map d)
  | .toss rs => .tuple (.str "toss" :: rs.map fun r => .tuple [.int r.1, d r.2])
def dB : Nat → Bd → PyData
  | 0, _ => .none
  | n + 1, b => .tuple (b.map (dS (dB n)))
theorem dpAll {K : PySem.W.Frag} {H : Hp} {α : Type} {R : V → α → Prop} {d : α → PyData} (h : ∀ v x, R v x → Dp K H v (d x)) : ∀ {vs : List V} {xs : List α}, AG R vs xs → DpAll K H vs (xs.map d)
  | [], [], _ => .nil
  | [], _ :: _, g => by simp [AG] at g
  | _ :: _, [], g => by simp [AG] at g
  | v :: vs, x :: xs, g => .cons (h _ _ (AG.uncons g).1) (dpAll h (AG.uncons g).2)
theorem dpS {K : PySem.W.Frag} {H : Hp} {B : Hp → V → Bd → Prop} {d : Bd → PyData} (hB : ∀ v b, B H v b → Dp K H v (d b)) : ∀ {v : V} {s : St}, StW B H v s → Dp K H v (dS d s)
  | _, .note z, ⟨a, rfl, h⟩ => .tup (.of h) (.cons (.str _) (.cons (.str _) .nil))
  | _, .call z, ⟨a, rfl, h⟩ => .tup (.of h) (.cons (.str _) (.cons (.str _) .nil))
  | _, .stay, ⟨a, rfl, h⟩ => .tup (.of h) (.cons (.str _) .nil)
  | _, .again i j b, ⟨a, w, rfl, h, g⟩ => .tup (.of h) (.cons (.str _) (.cons (.int _) (.cons (.int _) (.cons (hB _ _ g) .nil))))
  | _, .choose bs, ⟨a, ws, rfl, h, g⟩ => .tup (.of h) (.cons (.str _) (dpAll hB g))
  | _, .toss rs, ⟨a, ws, rfl, h, g⟩ => .tup (.of h) (.cons (.str _) (dpAll (fun _ _ ⟨p, x, e, hp, hx⟩ => e ▸ .tup (.of hp) (.cons (.int _) (.cons (hB _ _ hx) .nil))) g))
theorem dpB {K : PySem.W.Frag} {H : Hp} : ∀ n {v : V} {b : Bd}, BdAt n H v b → Dp K H v (dB n b)
  | 0, _, _, h => h.elim
  | n + 1, _, _, ⟨a, xs, rfl, h, g⟩ => .tup (.of h) (dpAll (fun _ _ z => dpS (fun _ _ y => dpB n y) z) g)
theorem plainAll_map {α : Type} {d : α → PyData} : ∀ {xs : List α}, (∀ x ∈ xs, (d x).plain = true) → PyData.plainAll (xs.map d) = true
  | [], _ => rfl
  | x :: xs, h => by
    show ((d x).plain && PyData.plainAll (xs.map d)) = true
    rw [h x List.mem_cons_self, plainAll_map fun y hy => h y (List.mem_cons_of_mem _ hy)]
    rfl
theorem plainS {d : Bd → PyData} (h : ∀ b, (d b).plain = true) : ∀ s, (dS d s).plain = true
  | .note _ => rfl
  | .call _ => rfl
  | .stay => rfl
  | .again _ _ b => by simp [dS, PyData.plain, PyData.plainAll, h b]
  | .choose bs => by
    show (true && PyData.plainAll (bs.map d)) = true
    rw [plainAll_map fun b _ => h b]
    rfl
  | .toss rs => by
    show (true && PyData.plainAll (rs.map _)) = true
    rw [plainAll_map fun r _ => by simp [PyData.plain, PyData.plainAll, h r.2]]
    rfl
theorem plainB : ∀ n b, (dB n b).plain = true
  | 0, _ => rfl
  | n + 1, b => plainAll_map fun s _ => plainS (plainB n) s
theorem depthAll_map {α : Type} {d : α → PyData} {m : Nat} : ∀ {xs : List α}, (∀ x ∈ xs, (d x).depth ≤ m) → PyData.depthAll (xs.map d) ≤ m
  | [], _ => Nat.zero_le _
  | x :: xs, h => by
    show max (d x).depth (PyData.depthAll (xs.map d)) ≤ m
    exact Nat.max_le.mpr ⟨h x List.mem_cons_self, depthAll_map fun y hy => h y (List.mem_cons_of_mem _ hy)⟩
theorem depthS {d : Bd → PyData} {m : Nat} (h : ∀ b, (d b).depth ≤ m) : ∀ s, (dS d s).depth ≤ m + 2
  | .note _ => by simp [dS, PyData.depth, PyData.depthAll]
  | .call _ => by simp [dS, PyData.depth, PyData.depthAll]
  | .stay => by simp [dS, PyData.depth, PyData.depthAll]
  | .again _ _ b => by
    have := h b
    simp only [dS, PyData.depth, PyData.depthAll]
    omega
  | .choose bs => by
    have := depthAll_map (xs := bs) fun b _ => h b
    show max 0 (PyData.depthAll (bs.map d)) + 1 ≤ _
    omega
  | .toss rs => by
    have := depthAll_map (xs := rs) (d := fun r => PyData.tuple [.int r.1, d r.2]) (m := m + 1) fun r _ => by
      have := h r.2
      simp only [PyData.depth, PyData.depthAll]
      omega
    show max 0 (PyData.depthAll (rs.map _)) + 1 ≤ _
    omega
theorem depthB : ∀ n b, (dB n b).depth ≤ 3 * n
  | 0, _ => Nat.le_refl _
  | n + 1, b => by
    have := depthAll_map (xs := b) fun s _ => depthS (depthB n) s
    show PyData.depthAll _ + 1 ≤ _
    omega
theorem plainD_B {n : Nat} (h : n ≤ 10) (b : Bd) : PlainD (dB n b) := ⟨plainB n b, by have := depthB n b; omega⟩
theorem eqv_self {d : PyData} (h : d.plain = true) : PyData.eqv d d = true := SeqAt.eqv_refl_plain d h
end FR
set_option Elab.async false
set_option linter.all false
set_option maxRecDepth 100000
set_option maxHeartbeats 1000000
/-! Program's own methods -/
namespace FR
open PySem PySem.Spec PyProof.Rows L2
abbrev sCt : Stmt := inClass (top 33) 13
abbrev NCt : List Str := ["self", "value"]
theorem scCt : FnScope NCt ["self", "value"] (defScope sCt) := ⟨rfl, rfl, rfl, by decide +kernel, rfl, by decide +kernel, by decide +kernel⟩
abbrev sLe : Stmt := inClass (top 33) 15
abbrev NLe : List Str := ["self"]
theorem scLe : FnScope NLe ["self"] (defScope sLe) := ⟨rfl, rfl, rfl, by decide +kernel, rfl, by decide +kernel, by decide +kernel⟩
abbrev sNa : Stmt := inClass (top 33) 2
abbrev NNa : List Str := ["self"]
theorem scNa : FnScope NNa ["self"] (defScope sNa) := ⟨rfl, rfl, rfl, by decide +kernel, rfl, by decide +kernel, by decide +kernel⟩
abbrev sBo : Stmt := inClass (top 33) 3
abbrev NBo : List Str := ["self"]
theorem scBo : FnScope NBo ["self"] (defScope sBo) := ⟨rfl, rfl, rfl, by decide +kernel, rfl, by decide +kernel, by decide +kernel⟩
abbrev sEv : Stmt := inClass (top 33) 4
abbrev NEv : List Str := ["self"]
theorem scEv : FnScope NEv ["self"] (defScope sEv) := ⟨rfl, rfl, rfl, by decide +kernel, rfl, by decide +kernel, by decide +kernel⟩
abbrev sCh : Stmt := inClass (top 33) 5
abbrev NCh : List Str := ["self"]
theorem scCh : FnScope NCh ["self"] (defScope sCh) := ⟨rfl, rfl, rfl, by decide +kernel, rfl, by decide +kernel, by decide +kernel⟩
abbrev sIc : Stmt := inClass (top 33) 6
abbrev NIc : List Str := ["self"]
theorem scIc : FnScope NIc ["self"] (defScope sIc) := ⟨rfl, rfl, rfl, by decide +kernel, rfl, by decide +kernel, by decide +kernel⟩
abbrev sGt : Stmt := inClass (top 33) 12
abbrev NGt : List Str := ["self", "at"]
theorem scGt : FnScope NGt ["self", "at"] (defScope sGt) := ⟨rfl, rfl, rfl, by decide +kernel, rfl, by decide +kernel, by decide +kernel⟩
abbrev sEq : Stmt := inClass (top 33) 16
abbrev NEq : List Str := ["self", "other"]
theorem scEq : FnScope NEq ["self", "other"] (defScope sEq) := ⟨rfl, rfl, rfl, by decide +kernel, rfl, by decide +kernel, by decide +kernel⟩
abbrev sSt : Stmt := inClass (top 33) 17
abbrev NSt : List Str := ["self"]
theorem scSt : FnScope NSt ["self"] (defScope sSt) := ⟨rfl, rfl, rfl, by decide +kernel, rfl, by decide +kernel, by decide +kernel⟩
abbrev sCn : Stmt := top 35
abbrev NCn : List Str := ["free", "name"]
theorem scCn : FnScope NCn ["free", "name"] (defScope sCn) := ⟨rfl, rfl, rfl, by decide +kernel, rfl, by decide +kernel, by decide +kernel⟩
section
variable {P : Program} {w : World} {K : PySem.W.Frag} {mg : Str → Option Value} {base : Heap} {k : Nat} {f : Addr} {fd : FuncData} {ps : List Str} {sp sp' : Sp}
theorem fn_lift (F : FnOk P w K mg base CX0 k f fd ps sp) : FnOk P w K mg base (L2.CX P w) k f fd ps sp :=
  ⟨F.len, fun A o s H ar us vs Q E hr e0 b r h => codeAny_mono (F.run A o s H ar us vs Q E hr e0 b r h) fun res s' hq => by
    cases res with
    | error e => exact (show False from hq).elim
    | ok fl => cases fl <;> exact hq⟩
theorem fn_or {CX : CXT} (F : FnOk P w K mg base CX k f fd ps sp) (G : FnOk P w K mg base CX k f fd ps sp') : FnOk P w K mg base CX k f fd ps (fun vs H Q E => sp vs H Q E ∨ sp' vs H Q E) :=
  ⟨fun vs H Q E h => h.elim (F.len vs H Q E) (G.len vs H Q E), fun A o s H ar us vs Q E hr e0 b r h => h.elim (F.run A o s H ar us vs Q E hr e0 b r) (G.run A o s H ar us vs Q E hr e0 b r)⟩
/-- a def of the top that may raise, with its promise -/
structure GloX (P : Program) (w : World) (K : PySem.W.Frag) (mg : Str → Option Value) (base : Heap) (nm : Str) (n : Nat) (ps : List Str) (sp : Sp) where
  f : Addr
  fd : FuncData
  G : FnOk P w K mg base (L2.CX P w) n f fd ps sp
  m : mg nm = some (.ref f)
  k : PySem.W.keepIn K (.ref f) = true
  b : Binds K fd ps []
structure MetX (P : Program) (w : World) (K : PySem.W.Frag) (mg : Str → Option Value) (base : Heap) (C : Addr) (nm : Str) (n : Nat) (ps : List Str) (sp : Sp) where
  f : Addr
  fd : FuncData
  D : Dun K C nm f
  kp : PySem.W.keepIn K (.ref f) = true
  G : FnOk P w K mg base (L2.CX P w) n f fd ps sp
  b : Binds K fd ps []
end
structure TxtQ (mg : Str → Option Value) : Prop where
  isi : mg "isinstance" = none
  str : mg "str" = none
  len : mg "len" = none
  tup : mg "tuple" = none
  dict : mg "dict" = none
section
variable {P : Program} {w : World} {K : PySem.W.Frag} {mg : Str → Option Value} {base : Heap}
/-- the class of programs: its instances' fields are their own -/
structure PgC (K : PySem.W.Frag) (C : Addr) : Prop where
  cl : Cls K C
  nb : NoAttr K C "_bodies"
  ns : NoAttr K C "_size"
  ne : NoAttr K C "_events"
  nc : NoAttr K C "_choices"
  ty : OwnTy K C
/-- value in program -/
def spCt (K : PySem.W.Frag) (C : Addr) : Sp := fun vs H Q _ => ∃ x v p, vs = [.ref x, v] ∧ IsPg K C H x p ∧ ((∃ z, v = .str z ∧ Q (.bl (decide (z ∈ names p))) H) ∨ ∃ t, TyX K H v t ∧ PySem.W.kitOne K t (.type "str") = some false ∧ Q (.bl false) H)
theorem ok_ct {f C : Addr} {fd : FuncData} (F : Fun K "__contains__" "Program.__contains__" sCt f fd) (R : PgC K C) (T : TxtQ mg) : FnOk P w K mg base CX0 1 f fd ["self", "value"] (spCt K C) := by
  refine F.ok scCt (fun vs H Q E h => ?_) (fun cdv A outer s H vs Q E hr h => ?_)
  · obtain ⟨x, v, p, rfl, _⟩ := h
    rfl
  · obtain ⟨x, v, p, rfl, ⟨dx, d, e, c, kvs, es, cs, hx, hd, hk, _⟩, q⟩ := h
    have hu := hu_of hr
    refine ⟨_, (pss_one (ps_ret (pe_and (pe_callB call_isi (by rfl) T.isi PyProof.Rows.boot_isinstance (pa_cons (pv 1) (pa_cons (pe_bltn (v := .ty "str") (by rfl) T.str (by decide +kernel) rfl) pa_nil))) (pe_one (pe_cmp (pc_din hu (pv 1) (pe_fld (pv 0) rfl))))))), ?_⟩
    rcases q with ⟨z, rfl, q⟩ | ⟨t, ht, hno, q⟩
    · refine ⟨_, rfl, _, _, _, _, true, rfl, .ty _, .base (.str z), kit_ty (by decide +kernel), _, rfl, iteT ?_⟩
      refine ⟨_, rfl, _, rfl, x, C, dx, _, _, rfl, hx, R.cl, R.nb, rfl, d, _, rfl, DGet.k (k := .inr z) hd, ?_⟩
      have e : (valV kvs (Sum.inr z)).isSome = decide (z ∈ names p) := by
        by_cases h : z ∈ names p
        · rw [decide_eq_true h]; exact valV_of (hk.mem h)
        · rw [decide_eq_false h, hk.none h]; rfl
      rw [e]
      exact q
    · exact ⟨_, rfl, _, _, _, _, false, rfl, .ty _, ht, hno, _, rfl, iteF q⟩
def spLe (K : PySem.W.Frag) (C : Addr) : Sp := fun vs H Q _ => ∃ x p, vs = [.ref x] ∧ IsPg K C H x p ∧ Q (.int (p.length : Nat)) H
theorem ok_le {f C : Addr} {fd : FuncData} (F : Fun K "__len__" "Program.__len__" sLe f fd) (R : PgC K C) (T : TxtQ mg) : FnOk P w K mg base CX0 1 f fd ["self"] (spLe K C) := by
  refine F.ok scLe (fun vs H Q E h => ?_) (fun cdv A outer s H vs Q E hr h => ?_)
  · obtain ⟨x, p, rfl, _⟩ := h
    rfl
  · obtain ⟨x, p, rfl, ⟨dx, d, e, c, kvs, es, cs, hx, hd, hk, _⟩, q⟩ := h
    refine ⟨_, (pss_one (ps_ret (pe_callB call_lenD (by rfl) T.len PySem.boot_len (pa_cons (pe_fld (pv 0) rfl) pa_nil)))), ?_⟩
    refine ⟨_, rfl, x, C, dx, _, _, rfl, hx, R.cl, R.nb, rfl, d, kvs, rfl, hd, ?_⟩
    rw [hk.1]
    exact q
/-- the names, as a tuple -/
def spNa (K : PySem.W.Frag) (C : Addr) : Sp := fun vs H Q _ => ∃ x p, vs = [.ref x] ∧ IsPg K C H x p ∧ ∀ t H', H t = none → Same H H' → H' t = some (.tup ((names p).map V.str)) → Q (.ref t) H'
theorem PrgK.strs {H : Hp} {kvs : List (Key × V)} {p : Pg} (h : PrgK H kvs p) : (kvs.map fun kv => kV kv.1) = (names p).map V.str := by
  have e := congrArg (List.map kV) h.keys
  rw [List.map_map, List.map_map] at e
  exact e
theorem ok_na {f C : Addr} {fd : FuncData} (F : Fun K "names" "Program.names" sNa f fd) (R : PgC K C) (T : TxtQ mg) : FnOk P w K mg base CX0 1 f fd ["self"] (spNa K C) := by
  refine F.ok scNa (fun vs H Q E h => ?_) (fun cdv A outer s H vs Q E hr h => ?_)
  · obtain ⟨x, p, rfl, _⟩ := h
    rfl
  · obtain ⟨x, p, rfl, ⟨dx, d, e, c, kvs, es, cs, hx, hd, hk, _⟩, q⟩ := h
    refine ⟨_, (pss_one (ps_ret (pe_callTy (call_tuple_dK rfl) (by rfl) T.tup (by decide +kernel) (pa_cons (pe_fld (pv 0) rfl) pa_nil)))), ?_⟩
    refine ⟨_, rfl, x, C, dx, _, _, rfl, hx, R.cl, R.nb, rfl, d, kvs, rfl, .inl hd, fun t ht => ?_⟩
    rw [hk.strs]
    exact q t _ ht (same_new ht) upd_same
/-- a copy of the dict -/
def spBo (K : PySem.W.Frag) (C : Addr) : Sp := fun vs H Q _ => ∃ x p, vs = [.ref x] ∧ IsPg K C H x p ∧ ∀ t kvs H', H t = none → Same H H' → H' t = some (.dK kvs) → PrgK H' kvs p → Q (.ref t) H'
theorem ok_bo {f C : Addr} {fd : FuncData} (F : Fun K "bodies" "Program.bodies" sBo f fd) (R : PgC K C) (T : TxtQ mg) : FnOk P w K mg base CX0 1 f fd ["self"] (spBo K C) := by
  refine F.ok scBo (fun vs H Q E h => ?_) (fun cdv A outer s H vs Q E hr h => ?_)
  · obtain ⟨x, p, rfl, _⟩ := h
    rfl
  · obtain ⟨x, p, rfl, ⟨dx, d, e, c, kvs, es, cs, hx, hd, hk, _⟩, q⟩ := h
    refine ⟨_, (pss_one (ps_ret (pe_callTy call_dictD (by rfl) T.dict (by decide +kernel) (pa_cons (pe_fld (pv 0) rfl) pa_nil)))), ?_⟩
    refine ⟨_, rfl, x, C, dx, _, _, rfl, hx, R.cl, R.nb, rfl, d, kvs, rfl, .inl hd, fun t ht => ?_⟩
    have st := same_new (o := .dK kvs) ht
    exact q t kvs _ ht st upd_same ((Tk.same st).pg hk)
def spEv (K : PySem.W.Frag) (C : Addr) : Sp := fun vs H Q _ => ∃ x p, vs = [.ref x] ∧ IsPg K C H x p ∧ ∀ t es, H t = some (.tup (es.map V.str)) → EvOk es p → Q (.ref t) H
def spCh (K : PySem.W.Frag) (C : Addr) : Sp := fun vs H Q _ => ∃ x p, vs = [.ref x] ∧ IsPg K C H x p ∧ ∀ t cs, H t = some (.tup cs) → AG (fun z y => ChAt K H z y) cs (chosen (allP p)) → Q (.ref t) H
def spIc (K : PySem.W.Frag) (C : Addr) : Sp := fun vs H Q _ => ∃ x p, vs = [.ref x] ∧ IsPg K C H x p ∧ Q (.bl (decide (chosen (allP p) = []))) H
/-- what check_name needs of UnknownName -/
structure UnkC (P : Program) (w : World) (K : PySem.W.Frag) (mg : Str → Option Value) (U : Addr) : Prop where
  made : VMade P w K mg U "name"
  b : PySem.W.subIn K (.ref U) (.type "BaseException") = some true
  t : PySem.W.typeIn K (.ref U) = some (.type "type")
  g : mg "UnknownName" = some (.ref U)
  k : PySem.W.keepIn K (.ref U) = true
theorem UnkC.rs {X : Cx} {U : Addr} (T : UnkC P w X.K mg U) : Raises X (.ref U) := raises_own T.b T.t
/-- the name is there -/
def spCn (K : PySem.W.Frag) (C : Addr) : Sp := fun vs H Q _ => ∃ x z p, vs = [.ref x, .str z] ∧ IsPg K C H x p ∧ z ∈ names p ∧ Q .non H
theorem ok_cn {f C : Addr} {fd : FuncData} (F : Fun K "check_name" "check_name" sCn f fd) (M : Met P w K mg base C "__contains__" 1 ["self", "value"] (spCt K C)) : FnOk P w K mg base CX0 2 f fd ["free", "name"] (spCn K C) := by
  refine F.ok scCn (fun vs H Q E h => ?_) (fun cdv A outer s H vs Q E hr h => ?_)
  · obtain ⟨x, z, p, rfl, _⟩ := h
    rfl
  · obtain ⟨x, z, p, rfl, hx, hz, q⟩ := h
    refine ⟨_, (pss_one (ps_if (pt_cmpR (op_notInOwn M.D M.G hr M.b pass0) (pv 1) (pv 0) rfl) pss_never pss_nil)), ?_⟩
    have hx0 := hx
    obtain ⟨dx, d, e, c, kvs, es, cs, h1, _⟩ := hx0
    refine ⟨_, rfl, _, rfl, x, dx, _, rfl, h1, x, _, p, rfl, hx, .inl ⟨z, rfl, _, rfl, _, rfl, ?_⟩⟩
    rw [decide_eq_true hz]
    exact iteF q
/-- it isn't -/
def Unk (U : Addr) (v : V) (H : Hp) (E : XK) : Prop := ∀ d H', H d = none → Same H H' → H' d = some (ExD "name" v d) → E (.ref U) (some d) H'
def spCnX (K : PySem.W.Frag) (C U : Addr) : Sp := fun vs H Q E => ∃ x v p, vs = [.ref x, v] ∧ IsPg K C H x p ∧ ((∃ z, v = .str z ∧ z ∉ names p) ∨ ∃ t, TyX K H v t ∧ PySem.W.kitOne K t (.type "str") = some false) ∧ Unk U v H E
theorem ok_cnX {f C U : Addr} {fd : FuncData} (F : Fun K "check_name" "check_name" sCn f fd) (M : Met P w K mg base C "__contains__" 1 ["self", "value"] (spCt K C)) (TU : UnkC P w K mg U) : FnOk P w K mg base (L2.CX P w) 2 f fd ["free", "name"] (spCnX K C U) := by
  refine F.okX scCn (fun vs H Q E h => ?_) (fun cdv A outer s H vs Q E hr h => ?_)
  · obtain ⟨x, v, p, rfl, _⟩ := h
    rfl
  · obtain ⟨x, v, p, rfl, hx, hv, q⟩ := h
    refine ⟨_, (pss_one (ps_if (pt_cmpR (op_notInOwn M.D (fn_lift M.G) hr M.b (passes_call (takes_of rfl rfl rfl rfl) (fun _ _ _ _ h => h))) (pv 1) (pv 0) rfl) (pss_one (ps_raise rfl (takes_of rfl rfl rfl rfl) (pmk_name TU.made TU.rs hr TU.g TU.k (by rfl) (pv 1)))) pss_nil)), ?_⟩
    have hx0 := hx
    obtain ⟨dx, d, e, c, kvs, es, cs, h1, _⟩ := hx0
    have fin : ∀ d, H d = none → E (.ref U) (some d) (upd H d (ExD "name" v d)) := fun d nd => q d _ nd (same_new nd) upd_same
    refine ⟨_, rfl, _, rfl, x, dx, _, rfl, h1, x, _, p, rfl, hx, ?_⟩
    rcases hv with ⟨z, rfl, hz⟩ | ⟨t, ht, hno⟩
    · refine .inl ⟨z, rfl, _, rfl, _, rfl, ?_⟩
      rw [decide_eq_false hz]
      exact iteT ⟨_, rfl, fin⟩
    · exact .inr ⟨t, ht, hno, _, rfl, _, rfl, iteT ⟨_, rfl, fin⟩⟩
/-- program[name] -/
def spGt (K : PySem.W.Frag) (C : Addr) : Sp := fun vs H Q _ => ∃ x z p, vs = [.ref x, .str z] ∧ IsPg K C H x p ∧ (names p).Nodup ∧ z ∈ names p ∧ ∀ v, BdAt 5 H v (bodyOf p z) → Q v H
theorem ok_gt {f C : Addr} {fd : FuncData} (F : Fun K "__getitem__" "Program.__getitem__" sGt f fd) (R : PgC K C) (gC : Glo P w K mg base "check_name" 2 ["free", "name"] (spCn K C)) : FnOk P w K mg base CX0 3 f fd ["self", "at"] (spGt K C) := by
  refine F.ok scGt (fun vs H Q E h => ?_) (fun cdv A outer s H vs Q E hr h => ?_)
  · obtain ⟨x, z, p, rfl, _⟩ := h
    rfl
  · obtain ⟨x, z, p, rfl, hx, hn, hz, q⟩ := h
    have hu := hu_of hr
    refine ⟨_, (pss_cons (ps_expr (pe_call gC.G (hr.mono (by decide)) (by rfl) gC.m gC.k gC.b .nil pass0 (pa_cons (pv 0) (pa_cons (pv 1) pa_nil))))
      (pss_one (ps_ret (pe_dget hu (pe_fld (pv 0) rfl) (pv 1) (fun _ _ => rfl))))), ?_⟩
    have hx0 := hx
    obtain ⟨dx, d, e, c, kvs, es, cs, h1, hd, hk, _⟩ := hx0
    obtain ⟨v, e1, hb⟩ := hk.val hn hz
    have g := DGet.k (k := .inr z) hd
    rw [e1] at g
    exact ⟨_, rfl, _, rfl, x, z, p, rfl, hx, hz, _, rfl, x, C, dx, _, _, rfl, h1, R.cl, R.nb, rfl, _, rfl, d, v, rfl, g, q v hb⟩
/-- .. of another one -/
theorem ok_gtX {f C U : Addr} {fd : FuncData} (F : Fun K "__getitem__" "Program.__getitem__" sGt f fd) (gC : GloX P w K mg base "check_name" 2 ["free", "name"] (spCnX K C U)) : FnOk P w K mg base (L2.CX P w) 3 f fd ["self", "at"] (spCnX K C U) := by
  refine F.okX scGt (fun vs H Q E h => ?_) (fun cdv A outer s H vs Q E hr h => ?_)
  · obtain ⟨x, v, p, rfl, _⟩ := h
    rfl
  · obtain ⟨x, v, p, rfl, hx, hv, q⟩ := h
    have hu := hu_of hr
    refine ⟨_, (pss_cons (ps_expr (pe_call gC.G hr (by rfl) gC.m gC.k gC.b .nil (passes_call (takes_of rfl rfl rfl rfl) (fun _ _ _ _ h => h)) (pa_cons (pv 0) (pa_cons (pv 1) pa_nil))))
      (pss_one (ps_ret (pe_dget hu (pe_fld (pv 0) rfl) (pv 1) (fun _ _ => rfl))))), ?_⟩
    exact ⟨_, rfl, _, rfl, x, v, p, rfl, hx, hv, q⟩
theorem PrgK.eq_hits {H : Hp} {ls : List (Key × V)} {q : Pg} (hl : PrgK H ls q) (hn : (names q).Nodup) : ∀ {kvs : List (Key × V)} {p : Pg}, PrgK H kvs p → ∃ r, Hits K H ls kvs r ∧ (r = true ↔ ∀ x ∈ p, x.1 ∈ names q ∧ PyData.eqv (dB 5 x.2) (dB 5 (bodyOf q x.1)) = true)
  | [], [], _ => ⟨true, .nil, by simp⟩
  | [], _ :: _, h => by simp [PrgK] at h
  | _ :: _, [], h => by simp [PrgK] at h
  | (k, v) :: kvs, y :: p, h => by
    obtain ⟨z, b, e1, e2, hb⟩ := h.2 0 k v rfl
    cases e2
    cases e1
    have t : PrgK H kvs p := ⟨by have := h.1; simpa using this, fun i k v e => h.2 (i + 1) k v e⟩
    obtain ⟨r, hr, hiff⟩ := PrgK.eq_hits hl hn t
    by_cases hz : z ∈ names q
    · obtain ⟨u, e3, hu⟩ := hl.val hn hz
      refine ⟨_, .hit e3 (dpB 5 hb) (dpB 5 hu) (plainD_B (by decide) b) (plainD_B (by decide) _) hr, ?_⟩
      rw [Bool.and_eq_true, hiff]
      constructor
      · rintro ⟨a, c⟩ x hx
        rcases List.mem_cons.mp hx with e | hx
        · rw [e]; exact ⟨hz, a⟩
        · exact c x hx
      · intro c
        exact ⟨(c _ List.mem_cons_self).2, fun x hx => c x (List.mem_cons_of_mem _ hx)⟩
    · refine ⟨false, .miss (hl.none hz), ?_⟩
      constructor
      · intro h; cases h
      · intro c; exact absurd (c _ List.mem_cons_self).1 hz
/-- program == value -/
def spEq (K : PySem.W.Frag) (C : Addr) : Sp := fun vs H Q _ => ∃ x v p, vs = [.ref x, v] ∧ IsPg K C H x p ∧ ((∃ y q, v = .ref y ∧ IsPg K C H y q ∧ (names q).Nodup ∧ ∀ r, (r = true ↔ p.length = q.length ∧ ∀ x ∈ p, x.1 ∈ names q ∧ PyData.eqv (dB 5 x.2) (dB 5 (bodyOf q x.1)) = true) → Q (.bl r) H) ∨
  ∃ t, TyX K H v t ∧ PySem.W.kitOne K t (.ref C) = some false ∧ Q (.bl false) H)
theorem ok_eq {f C : Addr} {fd : FuncData} (F : Fun K "__eq__" "Program.__eq__" sEq f fd) (R : PgC K C) (T : TxtQ mg) (mC : mg "Program" = some (.ref C)) (kYes : PySem.W.kitOne K (.ref C) (.ref C) = some true) : FnOk P w K mg base CX0 1 f fd ["self", "other"] (spEq K C) := by
  refine F.ok scEq (fun vs H Q E h => ?_) (fun cdv A outer s H vs Q E hr h => ?_)
  · obtain ⟨x, v, p, rfl, _⟩ := h
    rfl
  · obtain ⟨x, v, p, rfl, ⟨dx, d, e, c, kvs, es, cs, hx, hd, hk, _⟩, q⟩ := h
    refine ⟨_, (pss_one (ps_ret (pe_and (pe_callB call_isi (by rfl) T.isi PyProof.Rows.boot_isinstance (pa_cons (pv 1) (pa_cons (pe_glob (v := .ref C) (by rfl) mC rfl) pa_nil))) (pe_one (pe_cmpR (op_eqKD (K := K) rfl hr.units) (pe_fld (pv 0) rfl) (pe_fld (pv 1) rfl) (nomark _)))))), ?_⟩
    rcases q with ⟨y, pq, rfl, ⟨dy, d2, e2, c2, ls, es2, cs2, hy, hd2, hk2, _⟩, hn, q⟩ | ⟨t, ht, hno, q⟩
    · refine ⟨_, rfl, _, _, _, _, true, rfl, .own C, .base (R.ty.ins hy), kYes, _, rfl, iteT ?_⟩
      obtain ⟨r, hr, hiff⟩ := PrgK.eq_hits (K := K) hk2 hn hk
      refine ⟨_, rfl, x, C, dx, _, _, rfl, hx, R.cl, R.nb, rfl, _, rfl, y, C, dy, _, _, rfl, hy, R.cl, R.nb, rfl, d, d2, kvs, ls, r, rfl, rfl, hd, hd2, fun _ => hr, q _ ?_⟩
      rw [Bool.and_eq_true, hiff, hk.1, hk2.1, beq_iff_eq]
    · exact ⟨_, rfl, _, _, _, _, false, rfl, .own C, ht, hno, _, rfl, iteF q⟩
theorem num_small (n : Nat) (h : n ≤ 60) : ((n : Nat) : Int).natAbs.log2 < 1920 ∧ (toString ((n : Nat) : Int) : Str).length ≤ 2 := by
  have all : ((List.range 61).all fun n => decide (((n : Nat) : Int).natAbs.log2 < 1920) && decide ((toString ((n : Nat) : Int) : Str).length ≤ 2)) = true := by decide +kernel
  have z := List.all_eq_true.mp all n (List.mem_range.mpr (by omega))
  obtain ⟨a, b⟩ := Bool.and_eq_true_iff.mp z
  exact ⟨of_decide_eq_true a, of_decide_eq_true b⟩
theorem str_len_append (a b : Str) : (a ++ b).length = a.length + b.length := by
  show (a ++ b).cps.size = a.cps.size + b.cps.size
  exact Array.size_append
theorem fit_cat {a b : Str} {m n : Nat} (ha : a.length ≤ m) (hb : b.length ≤ n) (h : m + n ≤ 900) : (a ++ b).length ≤ sizeLine := by
  rw [str_len_append, sizeLine_eq]
  omega
/-- str(program) -/
def shown (p : Pg) : Str := "program of " ++ (toString ((p.length : Nat) : Int) : Str) ++ " procedures, " ++ (toString (((allP p).length : Nat) : Int) : Str) ++ " statements"
def spSt (K : PySem.W.Frag) (C : Addr) : Sp := fun vs H Q _ => ∃ x p, vs = [.ref x] ∧ IsPg K C H x p ∧ p.length ≤ 8 ∧ (allP p).length ≤ 60 ∧ Q (.str (shown p)) H
theorem ok_st {f C : Addr} {fd : FuncData} (F : Fun K "__str__" "Program.__str__" sSt f fd) (R : PgC K C) (T : TxtQ mg) : FnOk P w K mg base CX0 1 f fd ["self"] (spSt K C) := by
  refine F.ok scSt (fun vs H Q E h => ?_) (fun cdv A outer s H vs Q E hr h => ?_)
  · obtain ⟨x, p, rfl, _⟩ := h
    rfl
  · obtain ⟨x, p, rfl, ⟨dx, d, e, c, kvs, es, cs, hx, hd, hk, _⟩, l8, l60, q⟩ := h
    refine ⟨_, (pss_one (ps_ret (pe_joined (.cons pe_str (.cons (pe_fmt (pe_callB call_lenD (by rfl) T.len PySem.boot_len (pa_cons (pe_fld (pv 0) rfl) pa_nil))) (.cons pe_str (.cons (pe_fmt (pe_fld (pv 0) rfl)) (.cons pe_str .nil)))))))), ?_⟩
    obtain ⟨n1, z1⟩ := num_small p.length (by omega)
    obtain ⟨n2, z2⟩ := num_small (allP p).length l60
    have e1 : kvs.length = p.length := hk.1
    have c1 : (Str.empty ++ ("program of " : Str)).length ≤ 20 := by decide +kernel
    have c2 : (" procedures, " : Str).length ≤ 20 := by decide +kernel
    have c3 : (" statements" : Str).length ≤ 20 := by decide +kernel
    have l1 := str_len_append (Str.empty ++ ("program of " : Str)) (toString ((p.length : Nat) : Int) : Str)
    have l2 := str_len_append (Str.empty ++ ("program of " : Str) ++ (toString ((p.length : Nat) : Int) : Str)) (" procedures, " : Str)
    have l3 := str_len_append (Str.empty ++ ("program of " : Str) ++ (toString ((p.length : Nat) : Int) : Str) ++ (" procedures, " : Str)) (toString (((allP p).length : Nat) : Int) : Str)
    have l4 := str_len_append (Str.empty ++ ("program of " : Str) ++ (toString ((p.length : Nat) : Int) : Str) ++ (" procedures, " : Str) ++ (toString (((allP p).length : Nat) : Int) : Str)) (" statements" : Str)
    have big : 900 ≤ sizeLine := by rw [sizeLine_eq]; decide
    refine ⟨_, rfl, by omega, ?_⟩
    refine ⟨_, rfl, x, C, dx, _, _, rfl, hx, R.cl, R.nb, rfl, d, kvs, rfl, hd, .inr ⟨_, rfl, by rw [e1]; exact n1, ?_⟩⟩
    rw [e1]
    refine ⟨_, rfl, by omega, _, rfl, by omega, ?_⟩
    refine ⟨_, rfl, x, C, dx, _, _, rfl, hx, R.cl, R.ns, rfl, .inr ⟨_, rfl, n2, _, rfl, by omega, _, rfl, by omega, ?_⟩⟩
    have e0 : Str.empty ++ ("program of " : Str) = ("program of " : Str) := PySem.Str.empty_append _
    show Q (V.str (Str.empty ++ ("program of " : Str) ++ (toString ((p.length : Nat) : Int) : Str) ++ (" procedures, " : Str) ++ (toString (((allP p).length : Nat) : Int) : Str) ++ (" statements" : Str))) H
    rw [e0]
    exact q
end
end FR
set_option Elab.async false
set_option linter.all false
set_option maxRecDepth 100000
set_option maxHeartbeats 1000000
/-! list(d.values()); len of a set of texts -/
namespace L2
open PySem PySem.Spec PyProof.Rows
def tListVals (te : TE) : TE := fun σ H Q => te σ H fun x H1 => ∃ d kvs, x = .ref d ∧ H1 d = some (.dK kvs) ∧ ∀ l, H1 l = none → Q (.ref l) (upd H1 l (.lst (kvs.map Prod.snd)))
theorem kv_vals {kvs : List (Key × V)} {vs : List (Key × Value)} (r : KV kvs vs) : Vals (kvs.map Prod.snd) (vs.map Prod.snd) := by
  unfold KV at r
  induction r with
  | nil => exact .nil
  | cons h _ ih => exact .cons h.2 ih
section
variable {X : Cx}
theorem pe_listVals {e : Expr} {te : TE} {p apos cpos pos : Pos} (hc : X.calm = true) (he : PE X e te) (hg : Gl X "list") (hm : X.mg "list" = none) (hbase : attributeBase e "values" X.env (eval e X.env) = eval e X.env := by rfl) (hline : (apos.endLine == cpos.line) = true := by rfl)
    (hs : starEach [.Call (.Attribute e "values" apos) [] [] cpos] X.env = (false, eval (.Call (.Attribute e "values" apos) [] [] cpos) X.env) :: starEach [] X.env := by rfl) :
    PE X (.Call (.Name "list" p) [.Call (.Attribute e "values" apos) [] [] cpos] [] pos) (tListVals te) := by
  refine ⟨fun pins s σ H Q I hq => wpAny_Call_Name_kw (ld_blt I hg hm (by decide +kernel : bootBuiltins "list" = some (.type "list")) (PyProof.Rows.callWith_type1 ?_ hs rfl))⟩
  rw [hs]
  show wpAny _ _ (spliced ((false, eval (.Call (.Attribute e "values" apos) [] [] cpos) X.env) :: backTo pos (starEach [] X.env))) _ _ s
  refine Calls.spliced_cons (wpAny_Call_method (T := "dict") (id := "dict.values") hbase rfl hline F.plainAttrs_dict F.slot_dict_values F.type_dict_values (thn (he.run pins s σ H _ I hq) fun u s1 hh => ?_))
  obtain ⟨x, H1, I1, rx, d, kvs, ex, hd, q⟩ := hh
  subst ex
  obtain rfl : u = Value.ref d := rx
  obtain ⟨hz, hs0, vs, kv, hdo⟩ := dk_of I1.hok hd
  obtain ⟨ep, hat⟩ := hdo.dictAt
  have lk : kvs.length = vs.length := Paired.length kv
  have I2 : Inv X pins σ H1 { s1 with heap := s1.heap.push { cls := .type "dict_values", data := .fields #[.ref d] } } := I1.kept (t' := s1.toks) fun b ob q => Heap.get?_push_of_some _ q
  refine ⟨hdo.typeIs, hdo.mapOf.noDict, ?_⟩
  show wpAny _ _ (callWith cpos (.builtin "dict.values") [.ref d] [] []) _ X.xe s1
  refine method_meetsIn F.slot_dict_values F.entry_dict_values rfl (PySem.evalArgs_none ⟨rfl, hdo.typeIs, F.args_dict_values_1 _, _, meets_dict_values (mixKind X.prog X.w) d hs0, ⟨vs, hdo⟩, ?_⟩)
  refine Calls.spliced_nil ?_
  refine PySem.W.kdl_call (PySem.W.kdl_values (knd := mixKind X.prog X.w) (kvs := vs) (ep := ep)) (I1.ok.hd hc) ⟨⟨_, Heap.get?_push_size _ rfl, rfl, rfl⟩, hat.push _⟩ (by omega) fun h' tk acc c hk hS hacc => ?_
  have hv : acc.toList = vs.map Prod.snd := by
    apply List.ext_getElem?
    intro i
    rw [List.getElem?_map]
    by_cases hi : i < acc.size
    · obtain ⟨k, hkv⟩ := hacc.2 i _ (Array.getElem?_eq_getElem hi)
      rw [hkv, Array.getElem?_toList, Array.getElem?_eq_getElem hi]
      rfl
    · have e := hacc.1
      rw [Array.getElem?_toList, Array.getElem?_eq_none (by omega), List.getElem?_eq_none (by omega)]
      rfl
  have J := I2.laid (t' := tk) hk (Nat.le_refl _) (show ObjOk X.prog X.w (upd H1 _ (.lst (kvs.map Prod.snd))) h' _ (.lst (kvs.map Prod.snd)) from ⟨by rw [List.length_map]; exact hz, acc.toList, c, by rw [hv]; exact kv_vals kv, by rw [Array.toArray_toList]; exact hS⟩)
  exact ⟨.ref _, _, J, rfl, q _ (I2.hok.fresh (Nat.le_refl _))⟩
/-- len(s), s a set of texts -/
theorem call_lenTx : CallR X (.builtin "len") (fun xs H Q => ∃ (a : Addr) (l : List Str), xs = [.ref a] ∧ H a = some (SX.SetTO X.prog X.w a l) ∧ Q (.int (l.length : Nat)) H) := by
  intro pins s σ H xs us Q I r h
  obtain ⟨a, l, rfl, ha, q⟩ := h
  obtain ⟨⟨es, ep, t⟩, ho, F⟩ := SX.setTO_get I ha
  rw [Vals.ref1 r]
  have sz : es.size = l.length := F.ok.sz
  have fw : l.length < 4096 := F.few
  refine call_len_set ho ⟨rfl, rfl, rfl⟩ rfl F.ok.fit (by rw [sz]; omega) ⟨.int (l.length : Nat), H, I.tok _, ⟨_, by rw [← sz]⟩, q⟩
end
end L2
set_option Elab.async false
set_option linter.all false
set_option maxRecDepth 100000
set_option maxHeartbeats 1000000
/-! {**d, k: v} -/
namespace MM
open PySem PySem.Spec PyProof.Rows L2
section
variable {prog : Program} {w : World} {A : Around} {E : Value → Shared → Prop} {s : Shared}
abbrev mk (prog : Program) (w : World) : PySem.KeyKind prog w Key := mixKind prog w
/-- one pair put -/
theorem put_pair {d : Addr} {kvs : List (Key × Value)} {k : Key} {key v : Value} {Q : Unit → Shared → Prop} (hkey : (mk prog w).is k key = true) (hm : s.heap.DictOf (mk prog w) d kvs) (hz : kvs.length ≤ sizeLine)
    (hQ : ∀ h', h'.DictOf (mk prog w) d (stored kvs k v) → Heap.SameBut d s.heap h' → Q () { s with heap := h' }) : wpAny (model prog w) A (dictPut d ((mk prog w).hash k) key v) Q E s := by
  obtain ⟨o, es, ep, ho, hc, hd, hk, hp, hn⟩ := hm
  have sz : es.size = kvs.length := by rw [← hp.length]; exact Array.length_toList.symm
  have hidx : (es.findIdx? fun e => (mk prog w).is k e.key) = kvs.findIdx? fun kv => decide (kv.1 = k) := by
    rw [← hp.findIdx k]; obtain ⟨l⟩ := es; simp
  unfold dictPut
  refine wpAny_bind (wpAny_dictFind_of hkey ho hd hk ?_)
  cases hi : es.findIdx? fun e => (mk prog w).is k e.key with
  | some i =>
    refine wpAny_updateDict ho hd (hQ _ ⟨_, _, ep, Heap.get?_update_self _ ho (Obj.isFreed_of_dict (Obj.data_mapDict hd _)), hc.mapDict _, Obj.data_mapDict hd _, hk.modify _ _, ?_, ?_⟩ (Heap.SameBut.update ..))
    · rw [stored, if_pos (any_of_findIdx_some (hidx ▸ hi))]
      have hl : (es.toList.findIdx? fun e => (mk prog w).is k e.key) = some i := by rw [← hi]; obtain ⟨l⟩ := es; simp
      have z := hp.modify hn hl v
      obtain ⟨l⟩ := es
      simpa using z
    · rw [stored, if_pos (any_of_findIdx_some (hidx ▸ hi)), keys_map_store]
      exact hn
  | none =>
    have hnot : k ∉ kvs.map (·.1) := not_mem_of_findIdx_none (hidx ▸ hi)
    have hany : ¬ (kvs.any fun kv => decide (kv.1 = k)) = true := fun z => by
      obtain ⟨kv, hkv, he⟩ := List.any_eq_true.mp z
      exact hnot (List.mem_map.mpr ⟨kv, hkv, of_decide_eq_true he⟩)
    refine wpAny_updateDictKeys ho hd (hQ _ ⟨_, _, ep + 1, Heap.get?_update_self _ ho (Obj.isFreed_of_dict (Obj.data_mapDictKeys hd _)), hc.mapDictKeys _, Obj.data_mapDictKeys hd _, hk.push hkey _, ?_, ?_⟩ (Heap.SameBut.update ..)) (by rw [sz]; exact hz)
    · rw [stored, if_neg hany]
      have z := hp.append hkey ((mk prog w).hash k) v
      obtain ⟨l⟩ := es
      simpa using z
    · rw [stored, if_neg hany, List.map_append, List.nodup_append]
      refine ⟨hn, by simp, fun a ha b hb e => ?_⟩
      have eb : b = k := List.mem_singleton.mp hb
      exact hnot (eb ▸ e ▸ ha)
/-- the keys are no objects -/
theorem key_flat {es : Array DictEntry} (hk : KeysOf (mk prog w) es) : ∀ e ∈ es, ∀ a, e.key ≠ .ref a := fun e he a z => by
  obtain ⟨k, h1, _⟩ := hk e he
  rw [z] at h1
  cases k with
  | inl i => exact absurd (show keyIs (.inl i) (.ref a) = true from h1) (by simp [keyIs, Value.isInt])
  | inr x => exact absurd (show keyIs (.inr x) (.ref a) = true from h1) (by simp [keyIs, Value.isStrOf])
theorem merge {d o : Addr} {kvs more : List (Key × Value)} {Q : Unit → Shared → Prop} (ne : d ≠ o) (hoS : (o == sysModules) = false) (hd : s.heap.DictOf (mk prog w) d kvs) (ho : s.heap.DictOf (mk prog w) o more) (hz : kvs.length + more.length ≤ sizeLine)
    (hQ : ∀ h', h'.DictOf (mk prog w) d (merged kvs more) → Heap.SameBut d s.heap h' → Q () { s with heap := h' }) : wpAny (model prog w) A (mergeMapping d (.ref o) false) Q E s := by
  have hT := ho.typeIs
  obtain ⟨od, esd, epd, hod, _, hdd, hkd, hpd, hnd⟩ := id hd
  obtain ⟨oo, eso, epo, hoo, hco, hdo, hko, hpo, hno⟩ := id ho
  have sz : more.length = eso.size := by rw [← hpo.length]; exact Array.length_toList
  unfold mergeMapping
  refine wpAny_bind (wpAny_isInstance (T := "dict") hT PySem.F.sub_dict_dict ?_)
  simp only [if_true]
  refine wpAny_bind (wpAny_specialOf hT PySem.F.slot_dict_iter.lookup (wpAny_bind (wpAny_pure ?_)))
  simp only [beq_self_eq_true, hoS, Bool.false_eq_true, if_false]
  have loop : wpAny (model prog w) A (do
      let l ← dictEntries o
      let epoch ← dictEpoch o
      forIn (List.range l.size) PUnit.unit fun i (_ : PUnit) => (do
          let l' ← dictEntries o
          match l'[i]? with
            | some e => do
              holding [e.key, e.val] (dictPut d e.hash e.key e.val)
              let ep' ← dictEpoch o
              if (ep' != epoch) = true then do
                  (unsupported "dict.changed-during-merge" : Sem PUnit)
                  pure (ForInStep.yield PUnit.unit)
                else pure (ForInStep.yield PUnit.unit)
            | _ => do
              (unsupported "dict.changed-during-merge" : Sem PUnit)
              pure (ForInStep.yield PUnit.unit) : Sem (ForInStep PUnit))
      pure ()) Q E s := by
    refine wpAny_bind (wpAny_dictEntries hoo hdo (wpAny_bind (wpAny_dictEpoch hoo hdo (wpAny_bind ?_))))
    rw [List.range_eq_range']
    refine wpAny_forIn_list _
      (fun rest _ s' => ∃ h' i, s' = { s with heap := h' } ∧ rest = List.range' i (eso.size - i) ∧ i ≤ eso.size ∧ h'.DictOf (mk prog w) d (merged kvs (more.take i)) ∧ h'.get? o = some oo ∧ Heap.SameBut d s.heap h')
      _ ?_ ?_ _ _ ⟨s.heap, 0, rfl, by simp, Nat.zero_le _, by simpa [merged] using hd, hoo, Heap.SameBut.refl _ _⟩
    · rintro x rest b s' ⟨h', i, rfl, hr, hi, hd', hoo', hs'⟩
      have lt : i < eso.size := by
        rcases Nat.lt_or_ge i eso.size with z | z
        · exact z
        · rw [Nat.sub_eq_zero_of_le z] at hr; simp at hr
      have e0 : eso.size - i = (eso.size - (i + 1)) + 1 := by omega
      rw [e0, List.range'_succ] at hr
      obtain ⟨rfl, hrest⟩ := List.cons.inj hr
      refine wpAny_bind (wpAny_dictEntries hoo' hdo ?_)
      rw [Array.getElem?_eq_getElem lt]
      obtain ⟨⟨k, v⟩, hkv⟩ : ∃ kv, more[x]? = some kv := ⟨more[x]'(by rw [sz]; exact lt), List.getElem?_eq_getElem _⟩
      obtain ⟨hkey, hval⟩ := hpo.get? (e := eso[x]) (by simp [lt]) hkv
      obtain ⟨k', hkey', hhash⟩ := hko eso[x] (Array.getElem_mem lt)
      obtain rfl : k' = k := (mk prog w).inj _ _ _ hkey' hkey
      have few : (merged kvs (more.take x)).length ≤ sizeLine := by
        have e1 := merged_length_le kvs (more.take x)
        have e2 : (more.take x).length ≤ more.length := by rw [List.length_take]; omega
        omega
      show wpAny _ _ (holding [eso[x].key, eso[x].val] (dictPut d eso[x].hash eso[x].key eso[x].val) >>= _) _ _ _
      rw [hhash, hval]
      refine wpAny_bind (wpAny_holding (put_pair (s := { s with heap := h' }) hkey hd' few fun h'' hd'' hs'' => ?_))
      have hoo'' : h''.get? o = some oo := (hs''.2 o (Ne.symm ne)).trans hoo'
      refine wpAny_bind (wpAny_dictEpoch hoo'' hdo ?_)
      rw [if_neg (by simp)]
      exact wpAny_pure ⟨h'', x + 1, rfl, hrest, lt, by rw [merged_take_succ kvs more x (k', v) hkv]; exact hd'', hoo'', hs'.trans hs''⟩
    · rintro b s' ⟨h', i, rfl, hr, hi, hd', hoo', hs'⟩
      have ei : i = eso.size := by
        rcases Nat.lt_or_ge i eso.size with z | z
        · have e0 : eso.size - i = (eso.size - (i + 1)) + 1 := by omega
          rw [e0, List.range'_succ] at hr
          cases hr
        · exact Nat.le_antisymm hi z
      rw [ei, ← sz, List.take_length] at hd'
      exact wpAny_pure (hQ h' hd' hs')
  refine wpAny_bind (wpAny_dictEntries hod hdd ?_)
  split
  · refine wpAny_bind (wpAny_dictEntries hoo hdo (wpAny_bind ?_))
    rw [← Array.forIn_toList]
    refine wpAny_forIn_list _ (fun rest _ s' => s' = s ∧ ∀ e ∈ rest, e ∈ eso) _ ?_ ?_ _ _ ⟨rfl, fun e he => Array.mem_toList_iff.mp he⟩
    · rintro x rest b s' ⟨rfl, hr⟩
      have fl := key_flat hko x (hr x List.mem_cons_self)
      cases hx : x.key with
      | ref a => exact absurd hx (fl a)
      | _ => exact wpAny_pure ⟨rfl, fun e he => hr e (List.mem_cons_of_mem _ he)⟩
    · rintro b s' ⟨rfl, _⟩
      exact loop
  · exact loop
end
end MM
namespace L2
open PySem PySem.Spec PyProof.Rows
/-- {**e, k: v} -/
def tDStar (te tk tv : TE) : TE := fun σ H Q => ∀ p, H p = none → te σ (upd H p (.dK [])) fun x H1 => ∃ a kvs, x = .ref a ∧ a ≠ p ∧ H1 a = some (.dK kvs) ∧ H1 p = some (.dK []) ∧ kvs.length + 1 ≤ sizeLine ∧
  ∀ p2, upd H1 p (.dK kvs) p2 = none → tk σ (upd (upd H1 p (.dK kvs)) p2 (.dK [])) fun y H2 => tv σ H2 fun z H3 => ∃ key, y = kV key ∧ H3 p2 = some (.dK []) ∧ H3 p = some (.dK kvs) ∧ p2 ≠ p ∧
    Q (.ref p) (upd (upd H3 p2 (.dK [(key, z)])) p (.dK (putK kvs key z)))
section
variable {X : Cx}
theorem star_shape {env : Env} {e k v : Expr} {pos : Pos} : (evalEachOpt [none, some k] env).zip ((evalEach [e, v] env).map fun v => do let x ← v; standAt pos; pure x) = [(none, do let x ← eval e env; standAt pos; pure x), (some (eval k env), do let x ← eval v env; standAt pos; pure x)] := by
  rfl
theorem pe_dstar {e k v : Expr} {te tk tv : TE} {pos : Pos} (he : PE X e te) (hk : PE X k tk) (hv : PE X v tv) : PE X (.Dict [none, some k] [e, v] pos) (tDStar te tk tv) := by
  refine ⟨fun pins s σ H Q I h => ?_⟩
  rw [arm_eval_Dict, star_shape]
  refine wpAny_bind (wpAny_standAt ?_)
  unfold dictDisplay
  simp only [List.forIn_cons, List.forIn_nil, pure_bind, bind_assoc, List.isEmpty_nil, List.isEmpty_cons, if_true, Bool.false_eq_true, if_false, List.nil_append, List.length_singleton]
  refine wpAny_bind (wpAny_alloc ?_)
  have hn := I.hok.fresh (Nat.le_refl s.heap.objs.size)
  have I1 : Inv X pins σ (upd H s.heap.objs.size (.dK [])) { s with heap := s.heap.push { cls := .type "dict", data := .dict #[] } } := I.laid (t' := s.toks) (fun _ _ q => Heap.get?_push_of_some _ q) (Nat.le_refl _) (dk_empty s.heap I.big)
  generalize s.heap.objs.size = p at hn I1 ⊢
  generalize ({ s with heap := s.heap.push { cls := .type "dict", data := .dict #[] } } : Shared) = s1 at I1 ⊢
  have h1 := h p hn
  refine wpAny_bind (wpAny_holding (wpAny_bind (thn (he.run pins s1 σ _ _ I1 h1) fun u s2 ⟨x, H1, I2, rx, a, kvs, ex, nap, ha, hp, few, q⟩ => ?_)))
  subst ex
  obtain rfl : u = Value.ref a := rx
  refine wpAny_bind (wpAny_standAt (wpAny_pure ?_))
  obtain ⟨_, oa, va, ra, da⟩ := dk_of I2.hok ha
  obtain ⟨_, op, vp, rp, dp⟩ := dk_of I2.hok hp
  have evp : vp = [] := by cases rp; rfl
  subst evp
  obtain ⟨_, _, _, _, _, _, _, _, ndA⟩ := id da
  refine wpAny_bind (wpAny_onRaise (wpAny_tryCatch (wpAny_onRaise (wpAny_holding (MM.merge (Ne.symm nap) oa dp da (by rw [← ra.length]; show 0 + kvs.length ≤ _; omega) fun h' dp' sb => ?_)))))
  rw [merged_nil_of_nodup _ ndA] at dp'
  have I3 : Inv X pins σ (upd H1 p (.dK kvs)) { s2 with heap := h' } := d_write (t' := s2.toks) I2 (by rw [hp]; exact True.intro) sb (by obtain ⟨o, _, _, z, _⟩ := dp'; exact ⟨o, z⟩) (dk_new (by omega) op ra dp')
  generalize ({ s2 with heap := h' } : Shared) = s3 at I3 ⊢
  -- the other pairs, in a dict of their own
  have hn2 := I3.hok.fresh (Nat.le_refl s3.heap.objs.size)
  have I4 : Inv X pins σ (upd (upd H1 p (.dK kvs)) s3.heap.objs.size (.dK [])) { s3 with heap := s3.heap.push { cls := .type "dict", data := .dict #[] } } := I3.laid (t' := s3.toks) (fun _ _ q => Heap.get?_push_of_some _ q) (Nat.le_refl _) (dk_empty s3.heap I3.big)
  have q2 := q s3.heap.objs.size hn2
  refine wpAny_bind ?_
  rw [if_neg (by decide)]
  refine wpAny_pure ?_
  simp only [pure_bind, List.isEmpty_cons, Bool.false_eq_true, if_false, bind_assoc]
  refine wpAny_bind (wpAny_holding (wpAny_subDict (knd := mixKind X.prog X.w) ?_ ?_))
  · show 1 ≤ 15
    decide
  show wpAny _ _ (evalPairs [(eval k X.env, do let x ← eval v X.env; standAt pos; pure x)]) _ _ _
  unfold evalPairs evalPairs
  refine wpAny_bind (thn (hk.run pins _ σ _ _ I4 q2) fun u4 s4 ⟨y, H4, I5, ry, q3⟩ => wpAny_bind (wpAny_holding (wpAny_bind (thn (hv.run pins s4 σ H4 _ I5 q3) fun u5 s5 ⟨z, H5, I6, rz, key, ey, h2, hp5, ne2, q4⟩ => wpAny_bind (wpAny_standAt (wpAny_pure ?_))))))
  refine wpAny_bind (wpAny_holding (wpAny_pure (wpAny_pure ?_)))
  subst ey
  obtain ⟨_, o2, v2, r2, d2⟩ := dk_of I6.hok h2
  have ev2 : v2 = [] := by cases r2; rfl
  subst ev2
  refine ⟨[(key, u5)], ⟨kV_is ry, rfl, True.intro⟩, d2, fun h6 d6 sb6 => ?_⟩
  have e6 : merged [] [(key, u5)] = [(key, u5)] := rfl
  rw [e6] at d6
  have I7 : Inv X pins σ (upd H5 s3.heap.objs.size (.dK [(key, z)])) { s5 with heap := h6, toks := s5.toks + 1 } := d_write (t' := s5.toks + 1) I6 (by rw [h2]; exact True.intro) sb6 (by obtain ⟨o, _, _, z, _⟩ := d6; exact ⟨o, z⟩) (dk_new (by rw [sizeLine_eq]; show 1 ≤ _; decide) o2 (.cons ⟨rfl, rz⟩ .nil) d6)
  generalize s3.heap.objs.size = p2 at hn2 I4 q2 h2 ne2 q4 d2 o2 d6 I7 sb6 ⊢
  have h27 : upd H5 p2 (.dK [(key, z)]) p2 = some (.dK [(key, z)]) := upd_same
  have hp7 : upd H5 p2 (.dK [(key, z)]) p = some (.dK kvs) := by rw [upd_ne (Ne.symm ne2)]; exact hp5
  obtain ⟨_, o7, v7, r7, d7⟩ := dk_of I7.hok h27
  obtain ⟨_, op7, vp7, rp7, dp7⟩ := dk_of I7.hok hp7
  refine wpAny_bind (wpAny_onRaise (wpAny_holding (MM.merge (Ne.symm ne2) o7 dp7 d7 (by rw [← r7.length, ← rp7.length]; show kvs.length + 1 ≤ _; exact few) fun h8 d8 sb8 => wpAny_pure ?_)))
  have rel : KV (putK kvs key z) (merged vp7 v7) := KV.merge r7 rp7
  exact ⟨.ref p, _, d_write (t' := s5.toks + 1) I7 (by rw [hp7]; exact True.intro) sb8 (by obtain ⟨o, _, _, z, _⟩ := d8; exact ⟨o, z⟩) (dk_new (by have := length_putK kvs key z; omega) op7 rel d8), rfl, q4⟩
end
end L2
set_option Elab.async false
set_option linter.all false
set_option maxRecDepth 100000
set_option maxHeartbeats 1000000
/-! with_body, renamed -/
namespace FR
open PySem PySem.Spec PyProof.Rows L2
abbrev sWy : Stmt := inClass (top 33) 7
abbrev NWy : List Str := ["self", "name", "body"]
theorem scWy : FnScope NWy ["self", "name", "body"] (defScope sWy) := ⟨rfl, rfl, rfl, by decide +kernel, rfl, by decide +kernel, by decide +kernel⟩
/-- the program with this body for a procedure -/
def setP (p : Pg) (z : Str) (b : Bd) : Pg := if z ∈ names p then p.map fun x => if x.1 = z then (z, b) else x else p ++ [(z, b)]
theorem PrgK.any {H : Hp} {kvs : List (Key × V)} {p : Pg} (h : PrgK H kvs p) (z : Str) : (kvs.any fun kv => decide (kv.1 = (Sum.inr z : Key))) = decide (z ∈ names p) := by
  rw [valV_any]
  by_cases c : z ∈ names p
  · rw [decide_eq_true c]; exact valV_of (h.mem c)
  · rw [decide_eq_false c, h.none c]; rfl
theorem PrgK.set {H : Hp} {kvs : List (Key × V)} {p : Pg} {z : Str} {v : V} {b : Bd} (h : PrgK H kvs p) (hv : BdAt 5 H v b) : PrgK H (putK kvs (.inr z) v) (setP p z b) := by
  by_cases c : z ∈ names p
  · have e : putK kvs (.inr z) v = kvs.map fun kv => if kv.1 = .inr z then (kv.1, v) else kv := by
      unfold putK
      rw [if_pos (by rw [h.any]; exact decide_eq_true c)]
    unfold setP
    rw [e, if_pos c]
    refine ⟨by rw [List.length_map, List.length_map, h.1], fun i k u hi => ?_⟩
    rw [List.getElem?_map] at hi
    cases hk : kvs[i]? with
    | none => rw [hk] at hi; cases hi
    | some kv =>
      rw [hk] at hi
      obtain ⟨k0, u0⟩ := kv
      obtain ⟨z', b', e1, e2, e3⟩ := h.2 i k0 u0 hk
      subst e1
      have hi : (if (Sum.inr z' : Key) = .inr z then (Sum.inr z', v) else (Sum.inr z', u0)) = (k, u) := Option.some.inj hi
      rw [List.getElem?_map, e2]
      by_cases q : z' = z
      · subst q
        rw [if_pos rfl] at hi
        cases hi
        exact ⟨z', b, rfl, by show some (if z' = z' then (z', b) else (z', b')) = _; rw [if_pos rfl], hv⟩
      · rw [if_neg (fun y => q (Sum.inr.inj y))] at hi
        cases hi
        exact ⟨z', b', rfl, by show some (if z' = z then (z, b) else (z', b')) = _; rw [if_neg q], e3⟩
  · unfold setP
    rw [if_neg c, putK_new _ (h.none c)]
    exact h.snoc hv
theorem setP_names (p : Pg) (z : Str) (b : Bd) : names (setP p z b) = if z ∈ names p then names p else names p ++ [z] := by
  unfold setP
  by_cases c : z ∈ names p
  · rw [if_pos c, if_pos c, names, List.map_map]
    exact List.map_congr_left fun x _ => by
      show (if x.1 = z then (z, b) else x).1 = x.1
      by_cases q : x.1 = z
      · rw [if_pos q, q]
      · rw [if_neg q]
  · rw [if_neg c, if_neg c, names, List.map_append]
    rfl
theorem setP_nodup {p : Pg} {z : Str} {b : Bd} (h : (names p).Nodup) : (names (setP p z b)).Nodup := by
  rw [setP_names]
  by_cases c : z ∈ names p
  · rw [if_pos c]; exact h
  · rw [if_neg c, List.nodup_append]
    exact ⟨h, by simp, fun a ha b hb e => c (List.mem_singleton.mp hb ▸ e ▸ ha)⟩

section
variable {P : Program} {w : World} {K : PySem.W.Frag} {mg : Str → Option Value} {base : Heap}
/-- the static method of .. -/
def SO (K : PySem.W.Frag) (C : Addr) (mc : Value) (g : Addr) : Prop := ∃ p, SMet K C mc "of" p g
structure OfG (P : Program) (w : World) (K : PySem.W.Frag) (mg : Str → Option Value) (base : Heap) (C : Addr) where
  f : Addr
  fd : FuncData
  G : FnOk P w K mg base CX0 15 f fd ["bodies"] (spOf K C)
  b : Binds K fd ["bodies"] []
  mc : Value
  p : Addr
  rC : ClX.CRead K C mc
  sO : SMet K C mc "of" p f
def spWy (K : PySem.W.Frag) (C : Addr) : Sp := fun vs H Q _ => ∃ x z v p b, vs = [.ref x, .str z, v] ∧ IsPg K C H x p ∧ p.length ≤ 8 ∧ (names p).Nodup ∧ nameB z = true ∧ BdAt 5 H v b ∧ Prg (setP p z b) ∧
  ∀ q y H', q.Perm (setP p z b) → sortedS (names q) = true → H y = none → Same H H' → IsPg K C H' y q → Q (.ref y) H'
theorem ok_wy {f C : Addr} {fd : FuncData} (F : Fun K "with_body" "Program.with_body" sWy f fd) (R : PgC K C) (mC : mg "Program" = some (.ref C)) (gO : OfG P w K mg base C) (gN : Glo P w K mg base "is_name" 3 ["value"] (spNm K)) : FnOk P w K mg base CX0 16 f fd ["self", "name", "body"] (spWy K C) := by
  refine F.ok scWy (fun vs H Q E h => ?_) (fun cdv A outer s H vs Q E hr h => ?_)
  · obtain ⟨x, z, v, p, b, rfl, _⟩ := h
    rfl
  · obtain ⟨x, z, v, p, b, rfl, hx, l8, hn, nz, hb, hp, q⟩ := h
    refine ⟨_, (pss_cons (ps_if (pt_not (pt_val (pe_call gN.G (hr.mono (by decide)) (by rfl) gN.m gN.k gN.b .nil pass0 (pa_cons (pv 1) pa_nil)))) pss_never pss_nil)
      (pss_one (ps_ret (pe_smeth (pe_glob (v := .ref C) (by rfl) mC rfl) gO.rC gO.sO gO.G (hr.mono (by decide)) gO.b .nil pass0 (pa_cons (pe_dstar (pe_fld (pv 0) rfl) (pv 1) (pv 2)) pa_nil))))), ?_⟩
    refine ⟨_, rfl, .inl ⟨z, rfl, name_len nz, fun H1 s1 => ?_⟩⟩
    rw [nz]
    obtain ⟨dx, d, e, c, kvs, es, cs, h1, hd, hk, _⟩ := hx.same s1
    refine ⟨_, rfl, iteF ⟨rfl, fun t ht => ?_⟩⟩
    have st := same_new (o := .dK []) ht
    have htt : upd H1 t (.dK []) t = some (.dK []) := upd_same
    refine ⟨_, rfl, x, C, dx, _, _, rfl, st _ _ h1, R.cl, R.nb, rfl, d, kvs, rfl, ne_of_none hd ht, st _ _ hd, htt, Nat.le_of_lt (small1000 (by rw [hk.1]; omega)), fun p2 hp2 => ?_⟩
    have e2 : upd (upd H1 t (.dK [])) t (.dK kvs) = upd H1 t (.dK kvs) := by
      funext y
      by_cases c : y = t
      · rw [c, upd_same, upd_same]
      · rw [upd_ne c, upd_ne c, upd_ne c]
    rw [e2] at hp2 ⊢
    have ne2 : p2 ≠ t := fun z => by rw [z, upd_same] at hp2; cases hp2
    have hp21 : H1 p2 = none := by rw [upd_ne ne2] at hp2; exact hp2
    refine ⟨_, rfl, _, rfl, .inr z, rfl, upd_same, by rw [upd_ne (Ne.symm ne2), upd_same], ne2, ?_⟩
    have sm : Same H1 (upd (upd (upd (upd H1 t (.dK kvs)) p2 (.dK [])) p2 (.dK [(.inr z, v)])) t (.dK (putK kvs (.inr z) v))) := fun a o ea => by
      have n1 := ne_of_none ea ht
      have n2 := ne_of_none ea hp21
      rw [upd_ne n1, upd_ne n2, upd_ne n2, upd_ne n1]
      exact ea
    have sH := s1.trans sm
    refine ⟨t, _, setP p z b, rfl, upd_same, ((Tk.same sm).pg hk).set (hb.same sH), hp, setP_nodup hn, fun qq y H' qp qs hy s' i _ => q qq y H' qp qs ?_ (sH.trans s') i⟩
    cases e : H y with
    | none => rfl
    | some o => rw [sH _ _ e] at hy; cases hy
end
end FR
set_option Elab.async false
set_option linter.all false
set_option maxRecDepth 100000
namespace LD
open PySem PySem.Spec PyProof.Rows L2
/-! ### The text by places -/
def top (i : Nat) : Stmt := PySem.Challenge.pw_surelyends_k31_knots.main.body.getD i (.Pass ⟨0, 0, 0, 0⟩)
abbrev sDice : Stmt := top 46
abbrev sRoll : Stmt := top 47
abbrev sOneOf : Stmt := top 48
/-! ### The dice -/
abbrev dxs (a b c : Int) : List V := [V.int a, V.int b, V.int c]
/-- the dice stand at d -/
def DiceAt (H : Hp) (d : Addr) : Prop := ∃ a b c : Int, H d = some (.lst (dxs a b c))
/-- nothing but the dice has changed -/
structure Rolled (H H' : Hp) (d : Addr) : Prop where
  ho : ∃ a b c : Int, H' = upd H d (.lst (dxs a b c))
def spRoll : Sp := fun vs H Q _ => ∃ (d : Addr) (n : Int), vs = [.ref d, .int n] ∧ DiceAt H d ∧ 0 < n ∧ n < 1073741824 ∧
  ∀ (r a b c : Int), 0 ≤ r → r < n → Q (.int r) (upd H d (.lst (dxs a b c)))
section
variable {P : Program} {w : World} {K : PySem.W.Frag} {mg : Str → Option Value} {base : Heap}
theorem scR : FnScope ["_law_dice_here", "_law_total", "_law_found", "_law_one", "_law_two"] ["_law_dice_here", "_law_total"] (defScope sRoll) :=
  ⟨rfl, rfl, rfl, by decide +kernel, rfl, by decide +kernel, by decide +kernel⟩
theorem nz1 : (2305843009213693951 : Int) ≠ 0 := by decide
theorem nz2 : (2305843009213693921 : Int) ≠ 0 := by decide
theorem nz3 : (2305843009213693907 : Int) ≠ 0 := by decide
theorem at0 {a b c : Int} : atI (dxs a b c) (0 : Int) = some (V.int a) := rfl
theorem at1 {a b c : Int} : atI (dxs a b c) (1 : Int) = some (V.int b) := rfl
theorem at2 {a b c : Int} : atI (dxs a b c) (2 : Int) = some (V.int c) := rfl
theorem ok_roll {f : Addr} {fd : FuncData} (F : Fun K "_law_roll" "_law_roll" sRoll f fd) (mI : mg "int" = none) : FnOk P w K mg base CX0 1 f fd ["_law_dice_here", "_law_total"] spRoll := by
  refine F.ok scR (fun vs H Q E h => ?_) (fun cdv A outer s H vs Q E hr h => ?_)
  · obtain ⟨d, n, rfl, _⟩ := h
    rfl
  · obtain ⟨d, n, rfl, ⟨a, b, c, hd⟩, h0, h1, k⟩ := h
    have hu := hu_of hr
    refine ⟨_, pss_cons (ps_if (pt_cmpR op_gt (pe_ix ix_list (pv 0) pe_int (fun _ _ => rfl)) pe_int (nomark _))
        (pss_cons (ps_set (i := 2) scR.nd rfl (Or.inl rfl) (pe_op op_modN (pe_callTy call_int1 (by rfl) mI (by decide +kernel) (pa_cons (pe_ix ix_list (pv 0) pe_int (fun _ _ => rfl)) pa_nil)) (pv 1)))
        (pss_cons (ps_asg (pe_op op_fdivN (pe_ix ix_list (pv 0) pe_int (fun _ _ => rfl)) (pv 1)) (pg_sub (pv 0) pe_int set_list))
        (pss_one (ps_ret (pv 2))))) pss_nil)
      (pss_cons (ps_asg (pe_op op_add (pe_ix ix_list (pv 0) pe_int (fun _ _ => rfl)) pe_int) (pg_sub (pv 0) pe_int set_list))
      (pss_cons (ps_set (i := 3) scR.nd rfl (Or.inl rfl) (pe_op op_modN (pe_callTy call_int1 (by rfl) mI (by decide +kernel) (pa_cons (pe_op op_add (pe_ix ix_list (pv 0) pe_int (fun _ _ => rfl)) (pe_op op_mul pe_int (pe_ix ix_list (pv 0) pe_int (fun _ _ => rfl)))) pa_nil)) pe_int))
      (pss_cons (ps_set (i := 4) scR.nd rfl (Or.inl rfl) (pe_op op_add (pe_op op_mul (pe_op op_modN (pe_callTy call_int1 (by rfl) mI (by decide +kernel) (pa_cons (pe_op op_mul (pv 3) (pv 3)) pa_nil)) pe_int) (pv 3)) (pe_op op_mul pe_int (pe_ix ix_list (pv 0) pe_int (fun _ _ => rfl)))))
      (pss_cons (ps_set (i := 4) scR.nd rfl (Or.inl rfl) (pe_op op_modN (pe_callTy call_int1 (by rfl) mI (by decide +kernel) (pa_cons (pv 4) pa_nil)) pe_int))
      (pss_one (ps_ret (pe_op op_modN (pe_callTy call_int1 (by rfl) mI (by decide +kernel) (pa_cons (pe_op op_fdivN (pv 4) pe_int) pa_nil)) (pv 1)))))))), ?_⟩
    refine ⟨_, rfl, d, _, _, _, rfl, rfl, SqL.of hd, at0, _, _, rfl, rfl, _, rfl, ?_⟩
    have hm : ∀ x : Int, 0 ≤ x.fmod n ∧ x.fmod n < n := fun x => by
      rw [Int.fmod_eq_emod_of_nonneg x (by omega)]
      exact ⟨Int.emod_nonneg x (by omega), Int.emod_lt_of_pos x h0⟩
    refine ite2 (fun ha => ?_) (fun ha => ?_)
    · refine ⟨_, rfl, d, _, _, _, rfl, rfl, SqL.of hd, at0, .inl ⟨_, rfl, ?_⟩⟩
      refine ⟨_, rfl, _, _, rfl, rfl, by omega, ?_⟩
      refine ⟨_, rfl, d, _, _, _, rfl, rfl, SqL.of hd, at0, _, rfl, _, _, rfl, rfl, ⟨by omega, by omega⟩, ?_⟩
      refine ⟨_, rfl, d, _, _, 0, rfl, rfl, hd, rfl, ?_⟩
      refine ⟨_, rfl, ?_⟩
      exact k _ _ _ _ (hm _).1 (hm _).2
    · refine ⟨_, rfl, d, _, _, _, rfl, rfl, SqL.of hd, at2, _, _, rfl, rfl, ?_⟩
      refine ⟨_, rfl, d, _, _, 2, rfl, rfl, hd, rfl, ?_⟩
      have hd2 : upd H d (.lst (dxs a b (c + 1))) d = some (.lst (dxs a b (c + 1))) := upd_same
      refine ⟨_, rfl, d, _, _, _, rfl, rfl, SqL.of hd2, at1, ?_⟩
      refine ⟨_, rfl, d, _, _, _, rfl, rfl, SqL.of hd2, at2, ?_⟩
      refine ⟨_, _, rfl, rfl, .inl ⟨by decide, by decide⟩, ?_⟩
      refine ⟨_, _, rfl, rfl, .inl ⟨_, rfl, ?_⟩⟩
      refine ⟨_, _, rfl, rfl, nz1, ?_⟩
      generalize hone : Int.fmod (b + 1000193 * (c + 1)) 2305843009213693951 = one
      have ho : 0 ≤ one ∧ one < 2305843009213693951 := by
        rw [← hone, Int.fmod_eq_emod_of_nonneg _ (by decide)]
        exact ⟨Int.emod_nonneg _ (by decide), Int.emod_lt_of_pos _ (by decide)⟩
      refine ⟨_, rfl, _, rfl, _, _, rfl, rfl, .inl ⟨by omega, by omega⟩, .inl ⟨_, rfl, ?_⟩⟩
      refine ⟨_, _, rfl, rfl, nz2, ?_⟩
      generalize htwo : Int.fmod (one * one) 2305843009213693921 = two
      refine ⟨_, rfl, _, _, rfl, rfl, .inr ⟨by omega, by omega⟩, ?_⟩
      refine ⟨_, rfl, d, _, _, _, rfl, rfl, SqL.of hd2, at2, ?_⟩
      refine ⟨_, _, rfl, rfl, .inl ⟨by decide, by decide⟩, ?_⟩
      refine ⟨_, _, rfl, rfl, ?_⟩
      generalize two * one + 8221 * (c + 1) = three
      refine ⟨_, rfl, .inl ⟨_, rfl, ?_⟩⟩
      refine ⟨_, _, rfl, rfl, nz3, ?_⟩
      refine ⟨_, rfl, _, _, rfl, rfl, ⟨by decide, by decide⟩, .inl ⟨_, rfl, ?_⟩⟩
      refine ⟨_, rfl, _, _, rfl, rfl, by omega, ?_⟩
      exact k _ _ _ _ (hm _).1 (hm _).2

/-! ### powers of any size within the line -/
def CPowW (i j : Int) : Prop := 0 ≤ j ∧ (Builtin.Int.intBits i : Int) * j ≤ 2 ^ 27
theorem op_powW {X : Cx} : OpR X (binaryOp .Pow) (rI CPowW fun i j => .int (i ^ j.toNat)) := opI fun _ _ _ _ _ _ _ hc q => pow_int hc.1 hc.2 q
theorem pow60 : CPowW 10 60 := ⟨by decide, by decide +kernel⟩
theorem pow600 : CPowW ((10 : Int) ^ (60 : Int).toNat) 10 := ⟨by decide, by decide +kernel⟩
theorem pow18 : CPowW 10 18 := ⟨by decide, by decide +kernel⟩
def big600 : Int := ((10 : Int) ^ (60 : Int).toNat) ^ (10 : Int).toNat
theorem big600_nz : ((10 : Int) ^ (60 : Int).toNat) ^ (10 : Int).toNat ≠ 0 := by decide +kernel
theorem nz4 : (2147483549 : Int) ≠ 0 := by decide
theorem nz5 : (2147483543 : Int) ≠ 0 := by decide
def spDice (K : PySem.W.Frag) : Sp := fun vs H Q _ => ∃ (a : Addr) (ns : List Int) (i : Nat) (j : Int), vs = [.ref a, .int j] ∧ j = (i : Int) ∧ SqL K H a (ns.map V.int) ∧
  ∀ (p : Addr) (x y z : Int), H p = none → Q (.ref p) (upd H p (.lst (dxs x y z)))
structure TxtD (mg : Str → Option Value) : Prop where
  mI : mg "int" = none
  mL : mg "len" = none
  mA : mg "abs" = none
  mM : mg "max" = none
theorem scD : FnScope ["_law_script", "_law_at", "_law_cell", "_law_great", "_law_mixed_here"] ["_law_script", "_law_at"] (defScope sDice) :=
  ⟨rfl, rfl, rfl, by decide +kernel, rfl, by decide +kernel, by decide +kernel⟩
theorem ok_dice {f : Addr} {fd : FuncData} (F : Fun K "_law_dice" "_law_dice" sDice f fd) (T : TxtD mg) : FnOk P w K mg base CX0 1 f fd ["_law_script", "_law_at"] (spDice K) := by
  refine F.ok scD (fun vs H Q E h => ?_) (fun cdv A outer s H vs Q E hr h => ?_)
  · obtain ⟨a, ns, i, j, rfl, _⟩ := h
    rfl
  · obtain ⟨a, ns, i, j, rfl, rfl, hs, k⟩ := h
    have hu := hu_of hr
    refine ⟨_, pss_cons (ps_set (i := 2) scD.nd rfl (Or.inl rfl) (pe_op op_add (pe_op op_mul pe_int (pv 1)) pe_int))
      (pss_cons (ps_if (pt_cmpR op_lt (pv 1) (pe_callB call_len_seq (by rfl) T.mL PySem.boot_len (pa_cons (pv 0) pa_nil)) (nomark _))
        (pss_one (ps_set (i := 2) scD.nd rfl (Or.inl rfl) (pe_ix ix_list (pv 0) (pv 1) (fun _ _ => rfl)))) pss_nil)
      (pss_cons (ps_set (i := 3) scD.nd rfl (Or.inl rfl) (pe_op op_modN (pe_callTy call_int1 (by rfl) T.mI (by decide +kernel) (pa_cons (pe_callB call_abs (by rfl) T.mA (by decide +kernel) (pa_cons (pv 2) pa_nil)) pa_nil))
          (pe_op op_powW (pe_op op_powW pe_int pe_int) pe_int)))
      (pss_cons (ps_set (i := 4) scD.nd rfl (Or.inl rfl) (pe_op op_add (pe_op op_add (pe_op op_add
          (pe_op op_mul (pe_op op_modN (pe_callTy call_int1 (by rfl) T.mI (by decide +kernel) (pa_cons (pv 3) pa_nil)) pe_int) pe_int)
          (pe_op op_mul pe_int (pv 1)))
          (pe_op op_mul pe_int (pe_callTy call_int1 (by rfl) T.mI (by decide +kernel) (pa_cons (pe_cmpR op_lt (pv 2) pe_int (nomark _)) pa_nil)))) pe_int))
      (pss_one (ps_ret (pe_lst (pa_cons (pe_callB (call_max2 rfl) (by rfl) T.mM (by decide +kernel) (pa_cons pe_int (pa_cons (pe_op op_sub (pv 3) (pe_op op_powW pe_int pe_int)) pa_nil)))
          (pa_cons (pe_op op_modN (pe_callTy call_int1 (by rfl) T.mI (by decide +kernel) (pa_cons (pv 4) pa_nil)) pe_int) (pa_cons pe_int pa_nil))))))))), ?_⟩
    refine ⟨_, rfl, _, _, rfl, rfl, .inl ⟨by decide, by decide⟩, _, _, rfl, rfl, ?_⟩
    refine ⟨_, rfl, _, rfl, a, _, rfl, .inl hs, _, _, rfl, rfl, _, rfl, ?_⟩
    refine ite2 (fun ha => ?_) (fun ha => ?_)
    · have hlt : i < (ns.map V.int).length := by
        have z := of_decide_eq_true ha
        omega
      refine ⟨_, rfl, _, rfl, a, _, _, V.int ((ns.getD i 0)), rfl, rfl, hs, atI_nat (by
        rw [List.length_map] at hlt
        simp [hlt]), ?_⟩
      refine ⟨_, rfl, _, rfl, .inl ⟨_, rfl, ?_⟩⟩
      refine ⟨_, _, rfl, rfl, pow60, _, _, rfl, rfl, pow600, _, _, rfl, rfl, big600_nz, ?_⟩
      refine ⟨_, rfl, .inl ⟨_, rfl, ?_⟩⟩
      refine ⟨_, _, rfl, rfl, nz4, _, _, rfl, rfl, .inr ⟨by decide, by decide⟩, ?_⟩
      refine ⟨_, rfl, _, _, rfl, rfl, .inl ⟨by decide, by decide⟩, _, _, rfl, rfl, ?_⟩
      refine ⟨_, rfl, _, _, rfl, rfl, .inr ⟨_, rfl, ?_⟩⟩
      refine ⟨_, _, rfl, rfl, .inl ⟨by decide, by decide⟩, _, _, rfl, rfl, _, _, rfl, rfl, ?_⟩
      refine ⟨_, rfl, _, _, rfl, rfl, pow18, _, _, rfl, rfl, _, _, rfl, ?_⟩
      refine ⟨_, rfl, .inl ⟨_, rfl, ?_⟩⟩
      refine ⟨_, _, rfl, rfl, nz5, ?_⟩
      refine ⟨by show 3 ≤ sizeLine; decide, fun p hp => ?_⟩
      exact k _ _ _ _ hp
    · refine ⟨_, rfl, _, rfl, .inl ⟨_, rfl, ?_⟩⟩
      refine ⟨_, _, rfl, rfl, pow60, _, _, rfl, rfl, pow600, _, _, rfl, rfl, big600_nz, ?_⟩
      refine ⟨_, rfl, .inl ⟨_, rfl, ?_⟩⟩
      refine ⟨_, _, rfl, rfl, nz4, _, _, rfl, rfl, .inr ⟨by decide, by decide⟩, ?_⟩
      refine ⟨_, rfl, _, _, rfl, rfl, .inl ⟨by decide, by decide⟩, _, _, rfl, rfl, ?_⟩
      refine ⟨_, rfl, _, _, rfl, rfl, .inr ⟨_, rfl, ?_⟩⟩
      refine ⟨_, _, rfl, rfl, .inl ⟨by decide, by decide⟩, _, _, rfl, rfl, _, _, rfl, rfl, ?_⟩
      refine ⟨_, rfl, _, _, rfl, rfl, pow18, _, _, rfl, rfl, _, _, rfl, ?_⟩
      refine ⟨_, rfl, .inl ⟨_, rfl, ?_⟩⟩
      refine ⟨_, _, rfl, rfl, nz5, ?_⟩
      refine ⟨by show 3 ≤ sizeLine; decide, fun p hp => ?_⟩
      exact k _ _ _ _ hp
/-! ### one of a list's items -/
def spOneOf : Sp := fun vs H Q _ => ∃ (d p : Addr) (xs : List V), vs = [.ref d, .ref p] ∧ DiceAt H d ∧ H p = some (.lst xs) ∧ p ≠ d ∧ 0 < xs.length ∧ xs.length < 1000 ∧
  ∀ (k : Nat) (x : V) (a b c : Int), xs[k]? = some x → Q x (upd H d (.lst (dxs a b c)))
theorem scO : FnScope ["_law_dice_here", "_law_items"] ["_law_dice_here", "_law_items"] (defScope sOneOf) :=
  ⟨rfl, rfl, rfl, by decide +kernel, rfl, by decide +kernel, by decide +kernel⟩
theorem ok_oneOf {f fR : Addr} {fd fdR : FuncData} (F : Fun K "_law_one_of" "_law_one_of" sOneOf f fd) (T : TxtD mg) (FR : Fun K "_law_roll" "_law_roll" sRoll fR fdR)
    (mR : mg "_law_roll" = some (.ref fR)) (kR : PySem.W.keepIn K (.ref fR) = true) (bR : Binds K fdR ["_law_dice_here", "_law_total"] []) : FnOk P w K mg base CX0 2 f fd ["_law_dice_here", "_law_items"] spOneOf := by
  have G : FnOk P w K mg base CX0 1 fR fdR ["_law_dice_here", "_law_total"] spRoll := ok_roll FR T.mI
  refine F.ok scO (fun vs H Q E h => ?_) (fun cdv A outer s H vs Q E hr h => ?_)
  · obtain ⟨d, p, xs, rfl, _⟩ := h
    rfl
  · obtain ⟨d, p, xs, rfl, hd, hp, ne, h0, h1, k⟩ := h
    have hu := hu_of hr
    refine ⟨_, pss_one (ps_ret (pe_ix ix_list (pv 1) (pe_call G hr (by rfl) mR kR bR .nil pass0
      (pa_cons (pv 0) (pa_cons (pe_callB call_len_seq (by rfl) T.mL PySem.boot_len (pa_cons (pv 1) pa_nil)) pa_nil))) (fun _ _ => rfl))), ?_⟩
    refine ⟨_, rfl, _, rfl, _, rfl, p, xs, rfl, .inl (SqL.of hp), d, _, rfl, hd, by omega, by omega, fun r a b c hr0 hr1 => ?_⟩
    obtain ⟨k', rfl⟩ : ∃ k' : Nat, r = (k' : Int) := ⟨r.toNat, by omega⟩
    have hk : k' < xs.length := by omega
    refine ⟨p, xs, _, xs[k'], rfl, rfl, SqL.of (by rw [upd_ne ne]; exact hp), atI_nat (List.getElem?_eq_getElem hk), ?_⟩
    exact k k' _ a b c (List.getElem?_eq_getElem hk)
end
end LD
set_option Elab.async false
set_option linter.all false
set_option maxRecDepth 100000
set_option maxHeartbeats 1000000
/-! the law's dice; _law_mixed, _law_weight -/
namespace FR
open PySem PySem.Spec PyProof.Rows L2 LD
abbrev sMx : Stmt := FR.top 49
abbrev NMx : List Str := ["_law_dice_here", "_law_items", "_law_left", "_law_turn"]
theorem scMx : FnScope NMx ["_law_dice_here", "_law_items"] (defScope sMx) := ⟨rfl, rfl, rfl, by decide +kernel, rfl, by decide +kernel, by decide +kernel⟩
abbrev sWe : Stmt := FR.top 50
abbrev NWe : List Str := ["_law_dice_here"]
theorem scWe : FnScope NWe ["_law_dice_here"] (defScope sWe) := ⟨rfl, rfl, rfl, by decide +kernel, rfl, by decide +kernel, by decide +kernel⟩
theorem pe_bmK {X : Cx} {K : PySem.W.Frag} {T : String} {name : Str} {id : String} {r : V → List V → Hp → VK → Prop} {o e : Expr} {es : List Expr} {to : TE} {t : L2.TA} {apos cpos : Pos} (hK : X.K = K) (pa : PlainAttrs T) (slot : Slot T name id) (hty : typeOf (.builtin id) = pure (.type "method_descriptor")) (hm : MtR X id r) (ho : PE X o to) (ha : PA X (e :: es) t)
    (hbase : attributeBase o name X.env (eval o X.env) = eval o X.env := by rfl)
    (hfew : ((backTo cpos (starEach (e :: es) X.env)).all (fun x => !x.1) && (backToKw cpos (keywordEach [] X.env)).all (fun x => x.1.isSome)
      && decide ((e :: es).length + ([] : List Keyword).length + (if ([] : List Keyword).isEmpty then 0 else 1) < 30)) = true := by rfl)
    (hline : (apos.endLine == cpos.line) = true := by rfl) (hs : starEach (e :: es) X.env = (false, eval e X.env) :: starEach es X.env := by rfl) (hplain : (backTo cpos (starEach es X.env)).any (·.1) = false := by rfl) :
    PE X (.Call (.Attribute o name apos) (e :: es) [] cpos) (tBM K T r to t) := by
  subst hK
  exact pe_bm pa slot hty hm ho ha hbase hfew hline hs hplain
/-- behind rolls: the dice are dice, all else stays -/
def Rl (d : Addr) (H H' : Hp) : Prop := DiceAt H' d ∧ But d H H'
theorem Rl.refl {d : Addr} {H : Hp} (h : DiceAt H d) : Rl d H H := ⟨h, fun _ _ _ e => e⟩
theorem Rl.trans {d : Addr} {H H1 H2 : Hp} (a : Rl d H H1) (b : Rl d H1 H2) : Rl d H H2 := ⟨b.1, a.2.trans b.2⟩
theorem Rl.roll {d : Addr} {H H1 : Hp} {a b c : Int} (r : Rl d H H1) : Rl d H (upd H1 d (.lst (dxs a b c))) := ⟨⟨a, b, c, upd_same⟩, r.2.trans But.upd⟩
theorem Rl.same {d : Addr} {H H1 H2 : Hp} (r : Rl d H H1) (s : Same H1 H2) : Rl d H H2 := ⟨by obtain ⟨a, b, c, e⟩ := r.1; exact ⟨a, b, c, s _ _ e⟩, r.2.trans (But.same s)⟩
theorem Rl.tk {d : Addr} {H H' : Hp} (r : Rl d H H') (h : DiceAt H d) : Tk H H' := by
  obtain ⟨a, b, c, e⟩ := h
  exact r.2.tk e (fun _ z => by cases z) (fun _ _ z => by cases z)
theorem dice_same {d : Addr} {H H' : Hp} (h : DiceAt H d) (s : Same H H') : DiceAt H' d := by
  obtain ⟨a, b, c, e⟩ := h
  exact ⟨a, b, c, s _ _ e⟩
theorem none_of_but {x a : Addr} {H H' : Hp} (b : But x H H') (n : a ≠ x) (h : H' a = none) : H a = none := by
  cases e : H a with
  | none => rfl
  | some o => rw [b _ _ n e] at h; cases h
theorem none_of_same {a : Addr} {H H' : Hp} (b : Same H H') (h : H' a = none) : H a = none := by
  cases e : H a with
  | none => rfl
  | some o => rw [b _ _ e] at h; cases h
theorem Rl.none {d a : Addr} {H H' : Hp} (r : Rl d H H') (hd : DiceAt H d) (h : H' a = none) : H a = none := by
  by_cases c : a = d
  · obtain ⟨x, y, z, e⟩ := r.1
    rw [c, e] at h
    cases h
  · exact none_of_but r.2 c h
/-- texts in a list, or as the keys of a dict -/
def Txs (H : Hp) (p : Addr) (xs : List Str) : Prop := H p = some (.lst (xs.map V.str)) ∨ ∃ kvs, H p = some (.dK kvs) ∧ (kvs.map fun kv => kV kv.1) = xs.map V.str
theorem erase_map {α β : Type} (f : α → β) : ∀ (l : List α) (i : Nat), (l.map f).eraseIdx i = (l.eraseIdx i).map f
  | [], _ => rfl
  | _ :: _, 0 => rfl
  | x :: l, i + 1 => by
    show f x :: (l.map f).eraseIdx i = f x :: (l.eraseIdx i).map f
    rw [erase_map f l i]
theorem erase_perm {α : Type} : ∀ (l : List α) (i : Nat) (y : α), l[i]? = some y → (y :: l.eraseIdx i).Perm l
  | x :: l, 0, y, h => by cases h; exact .refl _
  | x :: l, i + 1, y, h => by
    have := erase_perm l i y h
    exact (List.Perm.swap x y _).trans (this.cons x)
section
variable {P : Program} {w : World} {K : PySem.W.Frag} {mg : Str → Option Value} {base : Heap}
/-- the items in some order -/
def spMx : Sp := fun vs H Q _ => ∃ (d p : Addr) (xs : List Str), vs = [.ref d, .ref p] ∧ DiceAt H d ∧ Txs H p xs ∧ p ≠ d ∧ xs.length < 900 ∧ ∀ (ys : List Str) l H', ys.Perm xs → H l = none → Rl d H H' → H' l = some (.lst (ys.map V.str)) → Q (.ref l) H'
theorem ok_mx {f : Addr} {fd : FuncData} (F : Fun K "_law_mixed" "_law_mixed" sMx f fd) (T : LD.TxtD mg) (ml : mg "list" = none) (mr : mg "range" = none) (gR : Glo P w K mg base "_law_roll" 1 ["_law_dice_here", "_law_total"] spRoll) : FnOk P w K mg base CX0 2 f fd ["_law_dice_here", "_law_items"] spMx := by
  refine F.ok scMx (fun vs H Q E h => ?_) (fun cdv A outer s H vs Q E hr h => ?_)
  · obtain ⟨d, p, xs, rfl, _⟩ := h
    rfl
  · obtain ⟨d, p, xs, rfl, hd, hx, nd, few, q⟩ := h
    obtain ⟨tR, hR, qR⟩ : ∃ t, PSs (cxOf CX0 P w K mg base NMx "_law_mixed" (defScope sMx) f cdv A outer s H E).nox ((defBody sMx).drop 1) t ∧ ∀ l, H l = none → t { nx := fun _ H' => Q .non H', rt := Q } [some (.ref d), some (.ref p), some (.ref l), none] (upd H l (.lst (xs.map V.str))) := by
      refine ⟨_, (pss_one (ps_ret (pe_lc (X := (cxOf CX0 P w K mg base NMx "_law_mixed" (defScope sMx) f cdv A outer s H E).nox) (own := [("_law_turn", 3)]) (g := (gName 3)) (tt := tYes) rfl scMx.nd (pi_range1 (by rfl) mr (pa_cons (pe_callB (CallR.or call_len_seq call_lenD) (by rfl) T.mL PySem.boot_len (pa_cons (pv 1) pa_nil)) pa_nil)) (blkOk_by (N := NMx) (sc := defScope sMx) (by decide +kernel)) (fun _ _ _ _ _ => (pg_name (i := 3) scMx.nd rfl (.inl rfl))) (fun _ _ _ _ _ => pts_nil) (fun _ _ _ _ _ => (pe_bmK (K := K) rfl PySem.F.plainAttrs_list PySem.F.slot_list_pop PySem.F.type_list_pop mt_popAt (pv 2) (pa_cons (pe_call gR.G (hr.mono (by decide)) (by rfl) gR.m gR.k gR.b .nil pass0 (pa_cons (pv 0) (pa_cons (pe_callB (call_len_seqK (K := K) rfl) (by rfl) T.mL PySem.boot_len (pa_cons (pv 2) pa_nil)) pa_nil))) pa_nil)))))), fun l hl => ?_⟩
      have s1 := same_new (o := .lst (xs.map V.str)) hl
      have hl1 : upd H l (.lst (xs.map V.str)) l = some (.lst (xs.map V.str)) := upd_same
      have nl : l ≠ d := by
        obtain ⟨x, y, z, e⟩ := hd
        exact fun c => by rw [c, e] at hl; cases hl
      have hd1 := dice_same hd s1
      have hx1 : Txs (upd H l (.lst (xs.map V.str))) p xs := hx.elim (fun e => .inl (s1 _ _ e)) fun ⟨kvs, e, k⟩ => .inr ⟨kvs, s1 _ _ e, k⟩
      generalize upd H l (.lst (xs.map V.str)) = H1 at s1 hl1 hd1 hx1 ⊢
      have rng : ∀ (R : It → Hp → Prop), R (Itr 0 xs.length) H1 → (iRng1 (tCons (tCB (fun xs H Q => (∃ p ys, xs = [V.ref p] ∧ (SqL K H p ys ∨ SqT K H p ys) ∧ Q (.int ys.length) H) ∨ ∃ a kvs, xs = [V.ref a] ∧ H a = some (.dK kvs) ∧ Q (.int kvs.length) H) (tCons (tVar 1) tNil)) tNil)) [some (.ref d), some (.ref p), some (.ref l), none] H1 R := fun R h => by
        rcases hx1 with e | ⟨kvs, e, k⟩
        · refine ⟨_, rfl, .inl ⟨p, _, rfl, .inl (SqL.of e), _, rfl, ?_, ?_, ?_⟩⟩
          · omega
          · rw [List.length_map]; omega
          · rw [List.length_map]; exact h
        · have le : kvs.length = xs.length := by
            have z := congrArg List.length k
            rw [List.length_map, List.length_map] at z
            exact z
          refine ⟨_, rfl, .inr ⟨p, kvs, rfl, e, _, rfl, ?_, ?_, ?_⟩⟩
          · omega
          · omega
          · rw [le]; exact h
      unfold tRet tLc
      refine rng _ ?_
      intro D hD
      refine lc_range (lo := 0) (n := xs.length) (fun i Hc => (∀ a o, a ≠ d → a ≠ l → H1 a = some o → Hc a = some o) ∧ DiceAt Hc d ∧ ∃ ys ls : List Str, Hc l = some (.lst (ls.map V.str)) ∧ Hc D = some (.lst (ys.map V.str)) ∧ (ys ++ ls).Perm xs ∧ ys.length = i) ?_ ?_ ?_
      · exact ⟨fun a o _ _ e => (same_new hD) _ _ e, dice_same hd1 (same_new hD), [], xs, (same_new hD) _ _ hl1, upd_same, .refl _, rfl⟩
      · rintro i Hc hi ⟨keep, hdc, ys, ls, hlc, hDc, pm, ly⟩
        have tot : ys.length + ls.length = xs.length := by rw [← List.length_append, pm.length_eq]
        refine ⟨rfl, _, rfl, .inl ⟨rfl, _, SqL.of hlc⟩, _, rfl, _, rfl, l, _, rfl, .inl (SqL.of hlc), d, _, rfl, hdc, by rw [List.length_map]; omega, by rw [List.length_map]; omega, fun r a b c r0 r1 => ?_⟩
        rw [List.length_map] at r1
        have hl2 : upd Hc d (.lst (dxs a b c)) l = some (.lst (ls.map V.str)) := by rw [upd_ne nl]; exact hlc
        obtain ⟨r', rfl⟩ : ∃ r' : Nat, r = (r' : Int) := ⟨r.toNat, by omega⟩
        have hr' : r' < ls.length := by omega
        refine ⟨l, _, (r' : Int), r', V.str ls[r'], rfl, rfl, hl2, by omega, by omega, by rw [seqIndex_of (by omega) (by rw [List.length_map]; omega)]; rfl, by rw [List.getElem?_map, List.getElem?_eq_getElem hr']; rfl, ?_⟩
        have nD : D ≠ l := fun z => by
          rw [z] at hD
          rw [hD] at hl1
          cases hl1
        have nDd : D ≠ d := fun z => by
          obtain ⟨x, y, z', e⟩ := hd1
          rw [z, e] at hD
          cases hD
        have eer : (ls.map V.str).eraseIdx r' = (ls.eraseIdx r').map V.str := erase_map V.str ls r'
        rw [eer]
        have hD2 : upd (upd Hc d (.lst (dxs a b c))) l (.lst ((ls.eraseIdx r').map V.str)) D = some (.lst (ys.map V.str)) := by rw [upd_ne nD, upd_ne nDd]; exact hDc
        refine ⟨_, hD2, small1000 (by rw [List.length_map]; omega), fun x o n1 n2 e => ?_, ⟨a, b, c, ?_⟩, ys ++ [ls[r']], ls.eraseIdx r', ?_, ?_, ?_, ?_⟩
        · have nx : x ≠ D := ne_of_none e hD
          rw [upd_ne nx, upd_ne n2, upd_ne n1]
          exact keep x o n1 n2 e
        · rw [upd_ne (Ne.symm nDd), upd_ne (Ne.symm nl), upd_same]
        · rw [upd_ne (Ne.symm nD), upd_same]
        · rw [upd_same, List.map_append]
          rfl
        · rw [List.append_assoc]
          exact ((erase_perm ls r' _ (List.getElem?_eq_getElem hr')).append_left ys).trans pm
        · rw [List.length_append, ly]
          rfl
      · rintro Hc ⟨keep, hdc, ys, ls, hlc, hDc, pm, ly⟩
        have tot : ys.length + ls.length = xs.length := by rw [← List.length_append, pm.length_eq]
        have e0 : ls = [] := List.length_eq_zero_iff.mp (by omega)
        subst e0
        rw [List.append_nil] at pm
        exact q ys D Hc pm (none_of_same s1 hD) ⟨hdc, fun a o n e => keep a o n (ne_of_none e hl) (s1 _ _ e)⟩ hDc
    refine ⟨_, pss_cons (ps_set (i := 2) scMx.nd rfl (Or.inr rfl) (pe_callTy (CallR.or call_list_of (call_listD rfl)) (by rfl) ml (by decide +kernel) (pa_cons (pv 1) pa_nil))) hR, ?_⟩
    rcases hx with hx | ⟨kvs, hx, ek⟩
    · exact ⟨_, rfl, .inl ⟨p, _, rfl, .inl (SqL.of hx), fun l hl => qR l hl⟩⟩
    · refine ⟨_, rfl, .inr ⟨p, kvs, rfl, .inl hx, fun l hl => ?_⟩⟩
      rw [ek]
      exact qR l hl
def spWe : Sp := fun vs H Q _ => ∃ d, vs = [.ref d] ∧ DiceAt H d ∧ ∀ (i : Int) H', 1 ≤ i → i ≤ 9 → Rl d H H' → Q (.int i) H'
theorem ok_we {f : Addr} {fd : FuncData} (F : Fun K "_law_weight" "_law_weight" sWe f fd) (gO : Glo P w K mg base "_law_one_of" 2 ["_law_dice_here", "_law_items"] spOneOf) : FnOk P w K mg base CX0 3 f fd ["_law_dice_here"] spWe := by
  refine F.ok scWe (fun vs H Q E h => ?_) (fun cdv A outer s H vs Q E hr h => ?_)
  · obtain ⟨d, rfl, _⟩ := h
    rfl
  · obtain ⟨d, rfl, hd, q⟩ := h
    refine ⟨_, (pss_one (ps_ret (pe_call gO.G (hr.mono (by decide)) (by rfl) gO.m gO.k gO.b .nil pass0 (pa_cons (pv 0) (pa_cons (pe_lst (pa_cons pe_int (pa_cons pe_int (pa_cons pe_int (pa_cons pe_int (pa_cons pe_int (pa_cons pe_int (pa_cons pe_int (pa_cons pe_int pa_nil))))))))) pa_nil))))), ?_⟩
    refine ⟨_, rfl, small1000 (Nat.le_of_ble_eq_true rfl), fun l hl => ?_⟩
    have s1 := same_new (o := .lst [.int 1, .int 1, .int 2, .int 2, .int 3, .int 4, .int 5, .int 9]) hl
    have nl : l ≠ d := by
      obtain ⟨x, y, z, e⟩ := hd
      exact fun c => by rw [c, e] at hl; cases hl
    refine ⟨d, l, _, rfl, dice_same hd s1, upd_same, nl, by show 0 < 8; decide, by show 8 < 1000; decide, fun k x a b c hk => ?_⟩
    have r : Rl d H (upd (upd H l (.lst [.int 1, .int 1, .int 2, .int 2, .int 3, .int 4, .int 5, .int 9])) d (.lst (dxs a b c))) := ((Rl.refl hd).same s1).roll
    have all : ∀ (k : Nat) (x : V), ([.int 1, .int 1, .int 2, .int 2, .int 3, .int 4, .int 5, .int 9] : List V)[k]? = some x → ∃ i : Int, x = .int i ∧ 1 ≤ i ∧ i ≤ 9 := fun k x h => by
      have m := List.mem_of_getElem? h
      simp only [List.mem_cons, List.not_mem_nil, or_false] at m
      rcases m with e | e | e | e | e | e | e | e <;> exact ⟨_, e, by decide, by decide⟩
    obtain ⟨i, rfl, i1, i2⟩ := all k x hk
    exact q i _ i1 i2 r
end
end FR
set_option Elab.async false
set_option linter.all false
set_option maxRecDepth 100000
set_option maxHeartbeats 1000000
/-! drawn statements and bodies -/
namespace FR
open PySem PySem.Spec PyProof.Rows L2 LD
abbrev sLs : Stmt := FR.top 51
abbrev NLs : List Str := ["_law_dice_here", "_law_deep", "_law_names", "_law_room", "_law_extra", "_law_way", "_law_stop", "_law_go", "_law_rows", "_law_turn"]
theorem scLs : FnScope NLs ["_law_dice_here", "_law_deep", "_law_names", "_law_room", "_law_extra"] (defScope sLs) := ⟨rfl, rfl, rfl, by decide +kernel, rfl, by decide +kernel, by decide +kernel⟩
abbrev sLy : Stmt := FR.top 52
abbrev NLy : List Str := ["_law_dice_here", "_law_deep", "_law_names", "_law_room", "_law_extra", "_law_found", "_law_turn"]
theorem scLy : FnScope NLy ["_law_dice_here", "_law_deep", "_law_names", "_law_room", "_law_extra"] (defScope sLy) := ⟨rfl, rfl, rfl, by decide +kernel, rfl, by decide +kernel, by decide +kernel⟩
abbrev P5 : List Str := ["_law_dice_here", "_law_deep", "_law_names", "_law_room", "_law_extra"]
section
variable {P : Program} {w : World} {K : PySem.W.Frag} {mg : Str → Option Value} {base : Heap}
/-- a statement as it is drawn, its bodies by B -/
def GdS (ns es : List Str) (B : Bd → Prop) : St → Prop
  | .note z => z = "a" ∨ z = "b"
  | .call z => z ∈ ns
  | .stay => ("stay" : Str) ∈ es
  | .again i j b => (1 ≤ i ∧ i ≤ 9) ∧ (1 ≤ j ∧ j ≤ 9) ∧ B b
  | .choose bs => ("choose" : Str) ∈ es ∧ (2 ≤ bs.length ∧ bs.length ≤ 3) ∧ ∀ b ∈ bs, B b
  | .toss rs => (2 ≤ rs.length ∧ rs.length ≤ 4) ∧ ∀ r ∈ rs, (1 ≤ r.1 ∧ r.1 ≤ 9) ∧ B r.2
def GdB (ns es : List Str) : Nat → Bd → Prop
  | 0 => fun _ => False
  | n + 1 => fun b => b.length ≤ 3 ∧ ∀ s ∈ b, GdS ns es (GdB ns es n) s
/-- how many statements are in a statement's bodies -/
abbrev cntS (n : Nat) (s : St) : Nat := (s.kids.map (cnt n)).sum
/-- what the drawing stands on: dice, names, room, extra -/
structure Dw (d n m e : Addr) (ns es : List Str) (H : Hp) (r : Int) : Prop where
  dice : DiceAt H d
  room : H m = some (.lst [.int r])
  nm : H n = some (.lst (ns.map V.str))
  ex : H e = some (.lst (es.map V.str))
  n0 : 0 < ns.length
  n1 : ns.length < 900
  e1 : es.length < 900
  r0 : 0 ≤ r
/-- all stays but dice and room -/
def Bt2 (d m : Addr) (H H' : Hp) : Prop := ∀ a o, a ≠ d → a ≠ m → H a = some o → H' a = some o
theorem Bt2.refl {d m : Addr} (H : Hp) : Bt2 d m H H := fun _ _ _ _ e => e
theorem Bt2.trans {d m : Addr} {H H1 H2 : Hp} (a : Bt2 d m H H1) (b : Bt2 d m H1 H2) : Bt2 d m H H2 := fun q o n1 n2 e => b q o n1 n2 (a q o n1 n2 e)
theorem Bt2.of {d m : Addr} {H H' : Hp} (s : Same H H') : Bt2 d m H H' := fun a o _ _ e => s a o e
theorem Bt2.rl {d m : Addr} {H H' : Hp} (s : Rl d H H') : Bt2 d m H H' := fun a o n _ e => s.2 a o n e
section
variable {d n m e : Addr} {ns es : List Str} {H H' : Hp} {r : Int}
theorem Dw.mD (h : Dw d n m e ns es H r) : m ≠ d := by
  obtain ⟨x, y, z, q⟩ := h.dice
  exact fun c => by rw [← c, h.room] at q; cases q
theorem Dw.nD (h : Dw d n m e ns es H r) : n ≠ d := by
  obtain ⟨x, y, z, q⟩ := h.dice
  intro c
  rw [← c, h.nm] at q
  have q := HO.lst.inj (Option.some.inj q)
  cases ns with
  | nil => cases q
  | cons z t => cases q
theorem Dw.eD (h : Dw d n m e ns es H r) : e ≠ d := by
  obtain ⟨x, y, z, q⟩ := h.dice
  intro c
  rw [← c, h.ex] at q
  have q := HO.lst.inj (Option.some.inj q)
  cases es with
  | nil => cases q
  | cons z t => cases q
theorem Dw.nM (h : Dw d n m e ns es H r) : n ≠ m := by
  have q := h.room
  intro c
  rw [← c, h.nm] at q
  have q := HO.lst.inj (Option.some.inj q)
  cases ns with
  | nil => cases q
  | cons z t => cases q
theorem Dw.eM (h : Dw d n m e ns es H r) : e ≠ m := by
  have q := h.room
  intro c
  rw [← c, h.ex] at q
  have q := HO.lst.inj (Option.some.inj q)
  cases es with
  | nil => cases q
  | cons z t => cases q
theorem Dw.rl (h : Dw d n m e ns es H r) (s : Rl d H H') : Dw d n m e ns es H' r where
  dice := s.1
  room := s.2 _ _ h.mD h.room
  nm := s.2 _ _ h.nD h.nm
  ex := s.2 _ _ h.eD h.ex
  n0 := h.n0
  n1 := h.n1
  e1 := h.e1
  r0 := h.r0
theorem Dw.same (h : Dw d n m e ns es H r) (s : Same H H') : Dw d n m e ns es H' r := h.rl ((Rl.refl h.dice).same s)
theorem Dw.put (h : Dw d n m e ns es H r) {r' : Int} (p : 0 ≤ r') : Dw d n m e ns es (upd H m (.lst [.int r'])) r' where
  dice := by
    obtain ⟨x, y, z, q⟩ := h.dice
    exact ⟨x, y, z, by rw [upd_ne h.mD.symm]; exact q⟩
  room := upd_same
  nm := by rw [upd_ne h.nM]; exact h.nm
  ex := by rw [upd_ne h.eM]; exact h.ex
  n0 := h.n0
  n1 := h.n1
  e1 := h.e1
  r0 := p
theorem Bt2.tk (h : Dw d n m e ns es H r) (b : Bt2 d m H H') : Tk H H' := by
  obtain ⟨x, y, z, q⟩ := h.dice
  have p := h.room
  refine ⟨fun a xs e => b a _ (fun c => ?_) (fun c => ?_) e, fun a o xs e => b a _ (fun c => ?_) (fun c => ?_) e⟩
  · rw [c, q] at e; cases e
  · rw [c, p] at e; cases e
  · rw [c, q] at e; cases e
  · rw [c, p] at e; cases e
theorem Dw.free (h : Dw d n m e ns es H r) {r' : Int} (b : Bt2 d m H H') (g : Dw d n m e ns es H' r') {a : Addr} (f : H' a = none) : H a = none := by
  cases c : H a with
  | none => rfl
  | some o =>
    by_cases q : a = d
    · obtain ⟨x, y, z, u⟩ := g.dice
      rw [q, u] at f; cases f
    · by_cases q2 : a = m
      · rw [q2, g.room] at f; cases f
      · rw [b a o q q2 c] at f; cases f
end
def spLs (k : Nat) : Sp := fun vs H Q _ => ∃ (d n m e : Addr) (ns es : List Str) (r : Int), vs = [.ref d, .int (k : Nat), .ref n, .ref m, .ref e] ∧ Dw d n m e ns es H r ∧
  ∀ v s H' r', Dw d n m e ns es H' r' → Bt2 d m H H' → StAt k H' v s → GdS ns es (GdB ns es k) s → (cntS k s : Int) + r' = r → Q v H'
def spLy (k : Nat) : Sp := fun vs H Q _ => ∃ (d n m e : Addr) (ns es : List Str) (r : Int), 1 ≤ k ∧ vs = [.ref d, .int ((k : Int) - 1), .ref n, .ref m, .ref e] ∧ Dw d n m e ns es H r ∧
  ∀ v b H' r', Dw d n m e ns es H' r' → Bt2 d m H H' → BdAt k H' v b → GdB ns es k b → (cnt k b : Int) + r' = r → Q v H'
theorem or_if {c1 c2 : Bool} {A B X : Prop} (hx : (if c2 = true then A else B) → X) (ha : (c1 || c2) = true → A) (hb : (c1 || c2) = false → B) : if c1 = true then (if true = true then A else B) else X := by
  cases c1 with
  | true => exact ha rfl
  | false => exact hx (by cases c2 with | true => exact ha rfl | false => exact hb rfl)
theorem and_if {c1 c2 : Bool} {A B X : Prop} (hx : (if c2 = true then A else B) → X) (ha : (c1 && c2) = true → A) (hb : (c1 && c2) = false → B) : if c1 = true then X else (if false = true then A else B) := by
  cases c1 with
  | true => exact hx (by cases c2 with | true => exact ha rfl | false => exact hb rfl)
  | false => exact hb rfl
theorem inV_strs {z : Str} : ∀ {es : List Str}, inV (.str z) (es.map V.str) = decide (z ∈ es)
  | [] => rfl
  | x :: es => by
    have e : inV (.str z) ((x :: es).map V.str) = (eqV (.str x) (.str z) || inV (.str z) (es.map V.str)) := rfl
    have e2 : eqV (.str x) (.str z) = decide (x = z) := rfl
    rw [e, inV_strs, e2]
    by_cases h : x = z
    · subst h; simp
    · have : z ≠ x := fun q => h q.symm
      simp [h, this]
theorem flat_strs : ∀ {es : List Str}, (es.map V.str).all flatV = true
  | [] => rfl
  | _ :: es => flat_strs (es := es)
section
variable {d n m e : Addr} {ns es : List Str} {H H' : Hp} {r : Int}
theorem Dw.grow (h : Dw d n m e ns es H r) {r' : Int} (g : Dw d n m e ns es H' r') {D : Addr} {o : HO} (f : H D = none) : Dw d n m e ns es (upd H' D o) r' where
  dice := by
    obtain ⟨x, y, z, q⟩ := g.dice
    obtain ⟨x', y', z', q'⟩ := h.dice
    exact ⟨x, y, z, by rw [upd_ne (ne_of_none q' f)]; exact q⟩
  room := by rw [upd_ne (ne_of_none h.room f)]; exact g.room
  nm := by rw [upd_ne (ne_of_none h.nm f)]; exact g.nm
  ex := by rw [upd_ne (ne_of_none h.ex f)]; exact g.ex
  n0 := h.n0
  n1 := h.n1
  e1 := h.e1
  r0 := g.r0
theorem Bt2.grow (b : Bt2 d m H H') {D : Addr} {o : HO} (f : H D = none) : Bt2 d m H (upd H' D o) := fun a u n1 n2 e => by
  rw [upd_ne (ne_of_none e f)]
  exact b a u n1 n2 e
end
theorem ok_ls {f fb : Addr} {fd fdb : FuncData} {k kb : Nat} (F : Fun K "_law_statement" "_law_statement" sLs f fd) (mr : mg "range" = none) (mt : mg "tuple" = none) (gR : Glo P w K mg base "_law_roll" 1 ["_law_dice_here", "_law_total"] spRoll) (gO : Glo P w K mg base "_law_one_of" 2 ["_law_dice_here", "_law_items"] spOneOf) (gW : Glo P w K mg base "_law_weight" 3 ["_law_dice_here"] spWe)
    (GB : FnOk P w K mg base CX0 kb fb fdb P5 (spLy k)) (k3 : 3 ≤ kb) (mB : mg "_law_body" = some (.ref fb)) (kB : PySem.W.keepIn K (.ref fb) = true) (bB : Binds K fdb P5 []) : FnOk P w K mg base CX0 (kb + 1) f fd P5 (spLs k) := by
  refine F.ok scLs (fun vs H Q E h => ?_) (fun cdv A outer s H vs Q E hr h => ?_)
  · obtain ⟨d, n, m, e, ns, es, r, rfl, _⟩ := h
    rfl
  · obtain ⟨d, n, m, e, ns, es, r, rfl, hw, q⟩ := h
    refine ⟨_, (pss_cons (ps_set (i := 5) scLs.nd rfl (Or.inl rfl) (pe_call gR.G (hr.mono (by omega)) (by rfl) gR.m gR.k gR.b .nil pass0 (pa_cons (pv 0) (pa_cons pe_int pa_nil))))
      (pss_cons (ps_if (pt_cmpR op_lt (pv 5) pe_int (nomark _)) (pss_one (ps_ret (pe_tup (pa_cons pe_str (pa_cons (pe_call gO.G (hr.mono (by omega)) (by rfl) gO.m gO.k gO.b .nil pass0 (pa_cons (pv 0) (pa_cons (pe_lst (pa_cons pe_str (pa_cons pe_str pa_nil))) pa_nil))) pa_nil))))) pss_nil)
      (pss_cons (ps_if (PW.pt (pw_or (pt_cmpR op_lt (pv 5) pe_int (nomark _)) (pw_or1 (pt_cmpR op_lt (pv 1) pe_int (nomark _))))) (pss_one (ps_ret (pe_tup (pa_cons pe_str (pa_cons (pe_call gO.G (hr.mono (by omega)) (by rfl) gO.m gO.k gO.b .nil pass0 (pa_cons (pv 0) (pa_cons (pv 2) pa_nil))) pa_nil))))) pss_nil)
      (pss_cons (ps_if (PW.pt (pw_and (pt_cmpR op_eq (pv 5) pe_int (nomark _)) (pw_and1 (pt_cmpR op_in_seq pe_str (pv 4) (by rfl))))) (pss_one (ps_ret (pe_tup (pa_cons pe_str pa_nil)))) pss_nil)
      (pss_cons (ps_if (pt_cmpR op_lt (pv 5) pe_int (nomark _)) (pss_cons (ps_par (i := 6) (j := 7) (by rfl) scLs.nd rfl rfl (by decide) rfl rfl (pa_cons (pe_call gW.G (hr.mono (by omega)) (by rfl) gW.m gW.k gW.b .nil pass0 (pa_cons (pv 0) pa_nil)) (pa_cons (pe_call gW.G (hr.mono (by omega)) (by rfl) gW.m gW.k gW.b .nil pass0 (pa_cons (pv 0) pa_nil)) pa_nil)) (by rfl))
      (pss_one (ps_ret (pe_tup (pa_cons pe_str (pa_cons (pv 6) (pa_cons (pv 7) (pa_cons (pe_call GB (hr.mono (by omega)) (by rfl) mB kB bB .nil pass0 (pa_cons (pv 0) (pa_cons (pe_op op_sub (pv 1) pe_int) (pa_cons (pv 2) (pa_cons (pv 3) (pa_cons (pv 4) pa_nil)))))) pa_nil)))))))) pss_nil)
      (pss_cons (ps_if (PW.pt (pw_and (pt_cmpR op_eq (pv 5) pe_int (nomark _)) (pw_and1 (pt_cmpR op_in_seq pe_str (pv 4) (by rfl))))) (pss_cons (ps_setLc (i := 8) (X := (cxOf CX0 P w K mg base NLs "_law_statement" (defScope sLs) f cdv A outer s H E).nox) (own := [("_law_turn", 9)]) (g := (gName 9)) (tt := tYes) rfl scLs.nd rfl rfl (sw_true rfl rfl rfl (by decide +kernel)) (pi_range1 (by rfl) mr (pa_cons (pe_op op_add pe_int (pe_call gR.G (hr.mono (by omega)) (by rfl) gR.m gR.k gR.b .nil pass0 (pa_cons (pv 0) (pa_cons pe_int pa_nil)))) pa_nil)) (blkOk_by (N := NLs) (sc := defScope sLs) (by decide +kernel)) (fun _ _ _ _ _ => (pg_name (i := 9) scLs.nd rfl (.inl rfl))) (fun _ _ _ _ _ => pts_nil) (fun _ _ _ _ _ => (pe_call GB (hr.mono (by omega)) (by rfl) mB kB bB .nil pass0 (pa_cons (pv 0) (pa_cons (pe_op op_sub (pv 1) pe_int) (pa_cons (pv 2) (pa_cons (pv 3) (pa_cons (pv 4) pa_nil))))))))
      (pss_one (ps_ret (pe_op op_catA (pe_tup (pa_cons pe_str pa_nil)) (pe_callTy call_tuple_of (by rfl) mt (by decide +kernel) (pa_cons (pv 8) pa_nil)))))) pss_nil)
      (pss_cons (ps_set (i := 8) scLs.nd rfl (Or.inl rfl) (pe_lst pa_nil))
      (pss_cons (ps_for PassesOwn.never rfl (pi_range1 (by rfl) mr (pa_cons (pe_op op_add pe_int (pe_call gO.G (hr.mono (by omega)) (by rfl) gO.m gO.k gO.b .nil pass0 (pa_cons (pv 0) (pa_cons (pe_lst (pa_cons pe_int (pa_cons pe_int (pa_cons pe_int (pa_cons pe_int pa_nil))))) pa_nil)))) pa_nil)) (pg_name (i := 9) scLs.nd rfl (.inl rfl)) (pss_one (ps_expr (pe_bm PySem.F.plainAttrs_list PySem.F.slot_list_append PySem.F.type_list_append mt_append (pv 8) (pa_cons (pe_tup (pa_cons (pe_call gW.G (hr.mono (by omega)) (by rfl) gW.m gW.k gW.b .nil pass0 (pa_cons (pv 0) pa_nil)) (pa_cons (pe_call GB (hr.mono (by omega)) (by rfl) mB kB bB .nil pass0 (pa_cons (pv 0) (pa_cons (pe_op op_sub (pv 1) pe_int) (pa_cons (pv 2) (pa_cons (pv 3) (pa_cons (pv 4) pa_nil)))))) pa_nil))) pa_nil)))))
      (pss_one (ps_ret (pe_op op_catA (pe_tup (pa_cons pe_str pa_nil)) (pe_callTy call_tuple_of (by rfl) mt (by decide +kernel) (pa_cons (pv 8) pa_nil))))))))))))), ?_⟩
    refine ⟨_, rfl, d, 12, rfl, hw.dice, by decide, by decide, fun way a b c w0 w12 => ?_⟩
    have R1 : Rl d H (upd H d (.lst (dxs a b c))) := (Rl.refl hw.dice).roll
    generalize upd H d (.lst (dxs a b c)) = H1 at R1 ⊢
    have W1 := hw.rl R1
    have B1 : Bt2 d m H H1 := .rl R1
    refine ⟨_, rfl, _, _, rfl, rfl, _, rfl, ite2 (fun h3 => ?_) (fun h3 => ?_)⟩
    · refine ⟨_, rfl, small1000 (Nat.le_of_ble_eq_true rfl), fun l hl => ?_⟩
      have s1 := same_new (o := .lst [.str "a", .str "b"]) hl
      have hl1 : upd H1 l (.lst [.str "a", .str "b"]) l = some (.lst [.str "a", .str "b"]) := upd_same
      have nl : l ≠ d := by
        obtain ⟨x, y, z, e⟩ := R1.1
        exact fun c => by rw [c, e] at hl; cases hl
      refine ⟨d, l, _, rfl, dice_same R1.1 s1, hl1, nl, by show 0 < 2; decide, by show 2 < 1000; decide, fun j x a' b' c' hk => ⟨small1000 (Nat.le_of_ble_eq_true rfl), fun p hp => ?_⟩⟩
      have R2 := ((Rl.refl R1.1).same s1).roll (a := a') (b := b') (c := c')
      have m' := List.mem_of_getElem? hk
      obtain ⟨z, rfl, hz⟩ : ∃ z, x = .str z ∧ (z = "a" ∨ z = "b") := by
        rcases List.mem_cons.mp m' with e | e
        · exact ⟨_, e, .inl rfl⟩
        · exact ⟨_, List.mem_singleton.mp e, .inr rfl⟩
      exact q _ (.note z) _ r ((W1.rl R2).same (same_new hp)) ((B1.trans (.rl R2)).trans (.of (same_new hp))) ⟨p, rfl, upd_same⟩ hz (by show (0 : Int) + r = r; omega)
    refine ⟨_, rfl, _, _, rfl, rfl, _, rfl, ?_⟩
    refine or_if (c2 := decide ((k : Int) < 1)) (fun z => ⟨_, rfl, _, _, rfl, rfl, _, rfl, z⟩) (fun hc => ?_) (fun hc => ?_)
    · refine ⟨_, rfl, _, rfl, d, n, _, rfl, W1.dice, W1.nm, W1.nD, by rw [List.length_map]; exact W1.n0, by rw [List.length_map]; exact Nat.lt_of_lt_of_le W1.n1 (by decide), fun j x a' b' c' hk => ⟨small1000 (Nat.le_of_ble_eq_true rfl), fun p hp => ?_⟩⟩
      have R2 := (Rl.refl R1.1).roll (a := a') (b := b') (c := c')
      obtain ⟨z, hz, rfl⟩ := List.mem_map.mp (List.mem_of_getElem? hk)
      exact q _ (.call z) _ r ((W1.rl R2).same (same_new hp)) ((B1.trans (.rl R2)).trans (.of (same_new hp))) ⟨p, rfl, upd_same⟩ hz (by show (0 : Int) + r = r; omega)
    have k1 : 1 ≤ k := by
      rw [Bool.or_eq_false_iff] at hc
      have := of_decide_eq_false hc.2
      omega
    refine ⟨_, rfl, rfl, _, rfl, ?_⟩
    refine and_if (c2 := decide (("stay" : Str) ∈ es)) (fun z => ⟨_, rfl, e, _, rfl, .inl (SqL.of W1.ex), rfl, flat_strs, _, by rw [inV_strs]; rfl, z⟩) (fun hc => ?_) (fun hc => ?_)
    · refine ⟨small1000 (Nat.le_of_ble_eq_true rfl), fun p hp => ?_⟩
      rw [Bool.and_eq_true] at hc
      exact q _ .stay _ r (W1.same (same_new hp)) (B1.trans (.of (same_new hp))) ⟨p, rfl, upd_same⟩ (show ("stay" : Str) ∈ es from of_decide_eq_true hc.2) (by show (0 : Int) + r = r; omega)
    refine ⟨_, rfl, _, _, rfl, rfl, _, rfl, ite2 (fun h8 => ?_) (fun h8 => ?_)⟩
    · refine ⟨_, rfl, d, rfl, W1.dice, fun i H2 i1 i9 R2 => ?_⟩
      have W2 := W1.rl R2
      refine ⟨_, rfl, d, rfl, W2.dice, fun j H3 j1 j9 R3 => ⟨_, _, rfl, ?_⟩⟩
      have W3 := W2.rl R3
      have B3 : Bt2 d m H H3 := (B1.trans (.rl R2)).trans (.rl R3)
      refine ⟨_, rfl, _, rfl, _, rfl, _, rfl, _, _, rfl, rfl, _, rfl, _, rfl, _, rfl, d, n, m, e, ns, es, r, k1, rfl, W3, fun v b H4 r4 W4 B4 hb gb hc4 => ⟨small1000 (Nat.le_of_ble_eq_true rfl), fun p hp => ?_⟩⟩
      have s5 : Same H4 (upd H4 p (.tup [.str "again", .int i, .int j, v])) := same_new hp
      exact q _ (.again i j b) _ r4 (W4.same s5) ((B3.trans B4).trans (.of s5)) ⟨p, v, rfl, upd_same, hb.same s5⟩ ⟨⟨i1, i9⟩, ⟨j1, j9⟩, gb⟩ (by show ((([b].map (cnt k)).sum : Nat) : Int) + r4 = r; rw [List.map_cons, List.map_nil, List.sum_cons, List.sum_nil]; omega)
    refine ⟨_, rfl, rfl, _, rfl, ?_⟩
    refine and_if (c2 := decide (("choose" : Str) ∈ es)) (fun z => ⟨_, rfl, e, _, rfl, .inl (SqL.of W1.ex), rfl, flat_strs, _, by rw [inV_strs]; rfl, z⟩) (fun hc => ?_) (fun hc => ?_)
    · rw [Bool.and_eq_true] at hc
      refine ⟨_, rfl, d, 2, rfl, W1.dice, by decide, by decide, fun x a b c x0 x2 => ?_⟩
      have R2 : Rl d H1 (upd H1 d (.lst (dxs a b c))) := (Rl.refl R1.1).roll
      generalize upd H1 d (.lst (dxs a b c)) = H2 at R2 ⊢
      have W2 := W1.rl R2
      have B2 : Bt2 d m H H2 := B1.trans (.rl R2)
      refine ⟨_, _, rfl, rfl, 2 + x, rfl, by omega, by omega, fun D hD => ?_⟩
      refine lc_range (lo := 0) (n := (2 + x).toNat) (fun i Hc => ∃ rc us bs, Dw d n m e ns es Hc rc ∧ Bt2 d m H2 Hc ∧ Hc D = some (.lst us) ∧ AG (fun w b => BdAt k Hc w b) us bs ∧ us.length = i ∧ (∀ b ∈ bs, GdB ns es k b) ∧ (((bs.map (cnt k)).sum : Nat) : Int) + rc = r) ?_ ?_ ?_
      · exact ⟨r, [], [], W2.same (same_new hD), .of (same_new hD), upd_same, AG.nil, rfl, (fun b h => absurd h List.not_mem_nil), (by show (0 : Int) + r = r; omega)⟩
      · rintro i Hc hi ⟨rc, us, bs, Wc, Bc, hDc, hu, ul, gs, sm⟩
        refine ⟨rfl, _, rfl, _, rfl, _, _, rfl, rfl, _, rfl, _, rfl, _, rfl, d, n, m, e, ns, es, rc, k1, rfl, Wc, fun v b H4 r4 W4 B4 hb gb hc4 => ?_⟩
        have nDd : D ≠ d := fun z => by
          obtain ⟨x, y, z', e⟩ := W2.dice
          rw [z, e] at hD
          cases hD
        have nDm : D ≠ m := fun z => by
          rw [z, W2.room] at hD
          cases hD
        have hD4 : H4 D = some (.lst us) := B4 _ _ nDd nDm hDc
        have tk : Tk H4 (upd H4 D (.lst (us ++ [v]))) := Tk.upd hD4 (fun _ z => by cases z) fun _ _ z => by cases z
        have tk2 : Tk Hc (upd H4 D (.lst (us ++ [v]))) := (Bt2.tk Wc B4).trans tk
        refine ⟨us, hD4, small1000 (by omega), r4, us ++ [v], bs ++ [b], W2.grow W4 hD, (Bc.trans B4).grow hD, upd_same, (hu.imp fun _ _ z => tk2.bd z).snoc (tk.bd hb), by rw [List.length_append, ul]; rfl, fun b' h => ?_, ?_⟩
        · rcases List.mem_append.mp h with h | h
          · exact gs b' h
          · rw [List.mem_singleton.mp h]; exact gb
        · rw [List.map_append, List.sum_append, List.map_cons, List.map_nil, List.sum_cons, List.sum_nil]
          omega
      · rintro Hc ⟨rc, us, bs, Wc, Bc, hDc, hu, ul, gs, sm⟩
        refine ⟨small1000 (Nat.le_of_ble_eq_true rfl), fun t ht => ?_⟩
        have s5 : Same Hc (upd Hc t (.tup [.str "choose"])) := same_new ht
        have ht5 : upd Hc t (.tup [.str "choose"]) t = some (.tup [.str "choose"]) := upd_same
        generalize upd Hc t (.tup [.str "choose"]) = H5 at s5 ht5 ⊢
        refine ⟨_, rfl, D, us, rfl, .inl ⟨SqL.of (s5 _ _ hDc), fun u hu6 => ?_⟩⟩
        have s6 : Same H5 (upd H5 u (.tup us)) := same_new hu6
        have hu6' : upd H5 u (.tup us) u = some (.tup us) := upd_same
        generalize upd H5 u (.tup us) = H6 at s6 hu6' ⊢
        refine ⟨t, u, _, _, rfl, rfl, SqT.of (s6 _ _ ht5), SqT.of hu6', Nat.le_of_lt (small1000 (by show 1 + _ ≤ 1000; omega)), fun z => (by cases z), fun _ z => ?_, fun _ _ p hp => ?_⟩
        · rw [z] at ul
          have : (0 : Nat) = (2 + x).toNat := ul
          omega
        · have s7 : Same H6 (upd H6 p (.tup ([.str "choose"] ++ us))) := same_new hp
          have s57 := (s5.trans s6).trans s7
          have bl := hu.1
          exact q _ (.choose bs) _ rc (Wc.same s57) ((B2.trans Bc).trans (.of s57)) ⟨p, us, rfl, upd_same, hu.imp fun _ _ z => z.same s57⟩ ⟨of_decide_eq_true hc.2, ⟨by omega, by omega⟩, gs⟩ sm
    refine ⟨Nat.zero_le _, fun rw' hrw => ?_⟩
    have W2 := W1.same (same_new (o := .lst []) hrw)
    have B2 : Bt2 d m H1 (upd H1 rw' (.lst [])) := .of (same_new hrw)
    have hrw2 : upd H1 rw' (.lst []) rw' = some (.lst []) := upd_same
    generalize upd H1 rw' (.lst []) = H2 at W2 B2 hrw2 ⊢
    refine ⟨_, rfl, small1000 (Nat.le_of_ble_eq_true rfl), fun l hl => ?_⟩
    have s3 := same_new (o := .lst [.int 0, .int 0, .int 1, .int 2]) hl
    have hl3 : upd H2 l (.lst [.int 0, .int 0, .int 1, .int 2]) l = some (.lst [.int 0, .int 0, .int 1, .int 2]) := upd_same
    have nl : l ≠ d := by
      obtain ⟨x, y, z, e⟩ := W2.dice
      exact fun c => by rw [c, e] at hl; cases hl
    have W3 := W2.same s3
    have B3 := B2.trans (.of s3)
    have hrw3 := s3 _ _ hrw2
    generalize upd H2 l (.lst [.int 0, .int 0, .int 1, .int 2]) = H3 at W3 B3 hl3 hrw3 ⊢
    refine ⟨d, l, _, rfl, W3.dice, hl3, nl, by show 0 < 4; decide, by show 4 < 1000; decide, fun j x a' b' c' hk => ?_⟩
    obtain ⟨x, rfl, x0, x2⟩ : ∃ i : Int, x = .int i ∧ 0 ≤ i ∧ i ≤ 2 := by
      have m := List.mem_of_getElem? hk
      simp only [List.mem_cons, List.not_mem_nil, or_false] at m
      rcases m with e | e | e | e <;> exact ⟨_, e, by decide, by decide⟩
    have R4 : Rl d H3 (upd H3 d (.lst (dxs a' b' c'))) := (Rl.refl W3.dice).roll
    have W4 := W3.rl R4
    have B4 : Bt2 d m H1 (upd H3 d (.lst (dxs a' b' c'))) := B3.trans (.rl R4)
    have nrd : rw' ≠ d := by
      obtain ⟨x, y, z, e⟩ := W1.dice
      exact fun c => by rw [c, e] at hrw; cases hrw
    have nrm : rw' ≠ m := fun z => by
      rw [z, W1.room] at hrw
      cases hrw
    have hrw4 : upd H3 d (.lst (dxs a' b' c')) rw' = some (.lst []) := by rw [upd_ne nrd]; exact hrw3
    generalize upd H3 d (.lst (dxs a' b' c')) = H4 at W4 B4 hrw4 ⊢
    refine ⟨_, _, rfl, rfl, 2 + x, rfl, by omega, by omega, ?_⟩
    refine for_range (n := (2 + x).toNat) (fun i σ Hc => ∃ (rc : Int) (us : List V) (bs : List (Int × Bd)) (y : Option V), σ = [some (.ref d), some (.int (k : Nat)), some (.ref n), some (.ref m), some (.ref e), some (.int way), none, none, some (.ref rw'), y] ∧ Dw d n m e ns es Hc rc ∧ Bt2 d m H1 Hc ∧ Hc rw' = some (.lst us) ∧ AG (fun w r => ∃ p x, w = .ref p ∧ Hc p = some (.tup [.int r.1, x]) ∧ BdAt k Hc x r.2) us bs ∧ us.length = i ∧ (∀ b ∈ bs, (1 ≤ b.1 ∧ b.1 ≤ 9) ∧ GdB ns es k b.2) ∧ ((((bs.map (·.2)).map (cnt k)).sum : Nat) : Int) + rc = r) ?_ ?_ ?_
    · exact ⟨r, [], [], _, rfl, W4, B4, hrw4, AG.nil, rfl, (fun b h => absurd h List.not_mem_nil), (by show (0 : Int) + r = r; omega)⟩
    · rintro i σ Hc hi ⟨rc, us, bs, y, rfl, Wc, Bc, hc4, hu, ul, gs, sm⟩
      refine ⟨_, rfl, .inl ⟨rfl, _, SqL.of hc4⟩, _, rfl, d, rfl, Wc.dice, fun i5 H5 i1 i9 R5 => ?_⟩
      have W5 := Wc.rl R5
      have B5 : Bt2 d m Hc H5 := .rl R5
      refine ⟨_, rfl, _, rfl, _, _, rfl, rfl, _, rfl, _, rfl, _, rfl, d, n, m, e, ns, es, rc, k1, rfl, W5, fun v b H6 r6 W6 B6 hb gb hc6 => ⟨small1000 (Nat.le_of_ble_eq_true rfl), fun p hp => ?_⟩⟩
      have s7 : Same H6 (upd H6 p (.tup [.int i5, v])) := same_new hp
      have hp7 : upd H6 p (.tup [.int i5, v]) p = some (.tup [.int i5, v]) := upd_same
      have W7 := W6.same s7
      have B7 := (B5.trans B6).trans (.of s7)
      have hb7 := hb.same s7
      have hr7 := B7 _ _ nrd nrm hc4
      generalize upd H6 p (.tup [.int i5, v]) = H7 at W7 B7 hp7 hb7 hr7 ⊢
      have tk : Tk H7 (upd H7 rw' (.lst (us ++ [.ref p]))) := Tk.upd hr7 (fun _ z => by cases z) fun _ _ z => by cases z
      have tk2 : Tk Hc (upd H7 rw' (.lst (us ++ [.ref p]))) := (Bt2.tk Wc B7).trans tk
      refine ⟨rw', us, _, rfl, rfl, hr7, small1000 (by omega), ?_⟩
      refine ⟨r6, us ++ [.ref p], bs ++ [(i5, b)], _, rfl, W1.grow W7 hrw, (Bc.trans B7).grow hrw, upd_same, (hu.imp fun _ _ ⟨p', x', e1, e2, e3⟩ => ⟨p', x', e1, tk2.1 _ _ e2, tk2.bd e3⟩).snoc ⟨p, v, rfl, tk.1 _ _ hp7, tk.bd hb7⟩, by rw [List.length_append, ul]; rfl, fun b' h => ?_, ?_⟩
      · rcases List.mem_append.mp h with h | h
        · exact gs b' h
        · rw [List.mem_singleton.mp h]; exact ⟨⟨i1, i9⟩, gb⟩
      · rw [List.map_append, List.map_append, List.sum_append, List.map_cons, List.map_nil, List.map_cons, List.map_nil, List.sum_cons, List.sum_nil]
        show (((((bs.map (·.2)).map (cnt k)).sum + (cnt k b + 0) : Nat)) : Int) + r6 = r
        omega
    · rintro σ Hc ⟨rc, us, bs, y, rfl, Wc, Bc, hDc, hu, ul, gs, sm⟩
      refine ⟨small1000 (Nat.le_of_ble_eq_true rfl), fun t ht => ?_⟩
      have s5 : Same Hc (upd Hc t (.tup [.str "toss"])) := same_new ht
      have ht5 : upd Hc t (.tup [.str "toss"]) t = some (.tup [.str "toss"]) := upd_same
      generalize upd Hc t (.tup [.str "toss"]) = H5 at s5 ht5 ⊢
      refine ⟨_, rfl, rw', us, rfl, .inl ⟨SqL.of (s5 _ _ hDc), fun u hu6 => ?_⟩⟩
      have s6 : Same H5 (upd H5 u (.tup us)) := same_new hu6
      have hu6' : upd H5 u (.tup us) u = some (.tup us) := upd_same
      generalize upd H5 u (.tup us) = H6 at s6 hu6' ⊢
      refine ⟨t, u, _, _, rfl, rfl, SqT.of (s6 _ _ ht5), SqT.of hu6', Nat.le_of_lt (small1000 (by show 1 + _ ≤ 1000; omega)), fun z => (by cases z), fun _ z => ?_, fun _ _ p hp => ?_⟩
      · rw [z] at ul
        have : (0 : Nat) = (2 + x).toNat := ul
        omega
      · have s7 : Same H6 (upd H6 p (.tup ([.str "toss"] ++ us))) := same_new hp
        have s57 := (s5.trans s6).trans s7
        have bl := hu.1
        exact q _ (.toss bs) _ rc (Wc.same s57) ((B1.trans Bc).trans (.of s57)) ⟨p, us, rfl, upd_same, hu.imp fun _ _ ⟨p', x', e1, e2, e3⟩ => ⟨p', x', e1, s57 _ _ e2, e3.same s57⟩⟩ ⟨⟨by omega, by omega⟩, gs⟩ sm
theorem ok_ly {f fb : Addr} {fd fdb : FuncData} {k kb : Nat} (F : Fun K "_law_body" "_law_body" sLy f fd) (mr : mg "range" = none) (mt : mg "tuple" = none) (gO : Glo P w K mg base "_law_one_of" 2 ["_law_dice_here", "_law_items"] spOneOf)
    (GS : FnOk P w K mg base CX0 kb fb fdb P5 (spLs k)) (k3 : 3 ≤ kb) (mS : mg "_law_statement" = some (.ref fb)) (kS : PySem.W.keepIn K (.ref fb) = true) (bS : Binds K fdb P5 []) : FnOk P w K mg base CX0 (kb + 1) f fd P5 (spLy (k + 1)) := by
  refine F.ok scLy (fun vs H Q E h => ?_) (fun cdv A outer s H vs Q E hr h => ?_)
  · obtain ⟨d, n, m, e, ns, es, r, _, rfl, _⟩ := h
    rfl
  · obtain ⟨d, n, m, e, ns, es, r, _, rfl, hw, q⟩ := h
    refine ⟨_, (pss_cons (ps_set (i := 5) scLy.nd rfl (Or.inl rfl) (pe_lst pa_nil))
      (pss_cons (ps_for PassesOwn.never rfl (pi_range1 (by rfl) mr (pa_cons (pe_call gO.G (hr.mono (by omega)) (by rfl) gO.m gO.k gO.b .nil pass0 (pa_cons (pv 0) (pa_cons (pe_lst (pa_cons pe_int (pa_cons pe_int (pa_cons pe_int (pa_cons pe_int (pa_cons pe_int (pa_cons pe_int pa_nil))))))) pa_nil))) pa_nil)) (pg_name (i := 6) scLy.nd rfl (.inl rfl)) (pss_one (ps_if (pt_cmpR op_gt (pe_ix ix_list (pv 3) pe_int (fun _ _ => rfl)) pe_int (nomark _)) (pss_cons (ps_asg (pe_op op_sub (pe_ix ix_list (pv 3) pe_int (fun _ _ => rfl)) pe_int) (pg_sub (pv 3) pe_int set_list))
      (pss_one (ps_expr (pe_bm PySem.F.plainAttrs_list PySem.F.slot_list_append PySem.F.type_list_append mt_append (pv 5) (pa_cons (pe_call GS (hr.mono (by omega)) (by rfl) mS kS bS .nil pass0 (pa_cons (pv 0) (pa_cons (pv 1) (pa_cons (pv 2) (pa_cons (pv 3) (pa_cons (pv 4) pa_nil)))))) pa_nil))))) pss_nil)))
      (pss_one (ps_ret (pe_callTy call_tuple_of (by rfl) mt (by decide +kernel) (pa_cons (pv 5) pa_nil)))))), ?_⟩
    refine ⟨Nat.zero_le _, fun fo hfo => ?_⟩
    have W1 := hw.same (same_new (o := .lst []) hfo)
    have B1 : Bt2 d m H (upd H fo (.lst [])) := .of (same_new hfo)
    have hfo1 : upd H fo (.lst []) fo = some (.lst []) := upd_same
    have nfd : fo ≠ d := by
      obtain ⟨x, y, z, e⟩ := hw.dice
      exact fun c => by rw [c, e] at hfo; cases hfo
    have nfm : fo ≠ m := fun z => by
      rw [z, hw.room] at hfo
      cases hfo
    generalize upd H fo (.lst []) = H1 at W1 B1 hfo1 ⊢
    refine ⟨_, rfl, small1000 (Nat.le_of_ble_eq_true rfl), fun l hl => ?_⟩
    have s3 := same_new (o := .lst [.int 0, .int 1, .int 1, .int 2, .int 2, .int 3]) hl
    have hl3 : upd H1 l (.lst [.int 0, .int 1, .int 1, .int 2, .int 2, .int 3]) l = some (.lst [.int 0, .int 1, .int 1, .int 2, .int 2, .int 3]) := upd_same
    have nl : l ≠ d := by
      obtain ⟨x, y, z, e⟩ := W1.dice
      exact fun c => by rw [c, e] at hl; cases hl
    have W3 := W1.same s3
    have B3 := B1.trans (.of s3)
    have hfo3 := s3 _ _ hfo1
    generalize upd H1 l (.lst [.int 0, .int 1, .int 1, .int 2, .int 2, .int 3]) = H3 at W3 B3 hl3 hfo3 ⊢
    refine ⟨d, l, _, rfl, W3.dice, hl3, nl, by show 0 < 6; decide, by show 6 < 1000; decide, fun j x a' b' c' hk => ?_⟩
    obtain ⟨x, rfl, x0, x3⟩ : ∃ i : Int, x = .int i ∧ 0 ≤ i ∧ i ≤ 3 := by
      have m := List.mem_of_getElem? hk
      simp only [List.mem_cons, List.not_mem_nil, or_false] at m
      rcases m with e | e | e | e | e | e <;> exact ⟨_, e, by decide, by decide⟩
    have R4 : Rl d H3 (upd H3 d (.lst (dxs a' b' c'))) := (Rl.refl W3.dice).roll
    have W4 := W3.rl R4
    have B4 : Bt2 d m H (upd H3 d (.lst (dxs a' b' c'))) := B3.trans (.rl R4)
    have hfo4 : upd H3 d (.lst (dxs a' b' c')) fo = some (.lst []) := by rw [upd_ne nfd]; exact hfo3
    generalize upd H3 d (.lst (dxs a' b' c')) = H4 at W4 B4 hfo4 ⊢
    refine ⟨x, rfl, by omega, by omega, ?_⟩
    refine for_range (n := x.toNat) (fun i σ Hc => ∃ (rc : Int) (us : List V) (b : Bd) (y : Option V), σ = [some (.ref d), some (.int (((k + 1 : Nat) : Int) - 1)), some (.ref n), some (.ref m), some (.ref e), some (.ref fo), y] ∧ Dw d n m e ns es Hc rc ∧ Bt2 d m H Hc ∧ Hc fo = some (.lst us) ∧ AG (fun w s => StAt k Hc w s) us b ∧ us.length ≤ i ∧ (∀ s ∈ b, GdS ns es (GdB ns es k) s) ∧ ((b.length + (b.map fun s => cntS k s).sum : Nat) : Int) + rc = r) ?_ ?_ ?_
    · exact ⟨r, [], [], _, rfl, W4, B4, hfo4, AG.nil, Nat.zero_le _, (fun b h => absurd h List.not_mem_nil), (by show (0 : Int) + r = r; omega)⟩
    · rintro i σ Hc hi ⟨rc, us, b, y, rfl, Wc, Bc, hc4, hu, ul, gs, sm⟩
      refine ⟨_, rfl, m, _, _, _, rfl, rfl, SqL.of Wc.room, rfl, _, _, rfl, rfl, _, rfl, ite2 (fun h0 => ?_) (fun h0 => ?_)⟩
      · have rc0 : 0 < rc := of_decide_eq_true h0
        refine ⟨_, rfl, m, _, _, _, rfl, rfl, SqL.of Wc.room, rfl, _, _, rfl, rfl, ?_⟩
        refine ⟨_, rfl, m, _, _, 0, rfl, rfl, Wc.room, rfl, ?_⟩
        have W5 : Dw d n m e ns es (upd Hc m (.lst [.int (rc - 1)])) (rc - 1) := Wc.put (by omega)
        have B5 : Bt2 d m Hc (upd Hc m (.lst [.int (rc - 1)])) := fun a o _ n2 e => by rw [upd_ne n2]; exact e
        have hc5 : upd Hc m (.lst [.int (rc - 1)]) fo = some (.lst us) := by rw [upd_ne nfm]; exact hc4
        refine ⟨_, rfl, .inl ⟨rfl, _, SqL.of hc5⟩, _, rfl, _, rfl, _, rfl, _, rfl, _, rfl, d, n, m, e, ns, es, rc - 1, by rw [show (((k + 1 : Nat) : Int) - 1) = ((k : Nat) : Int) by omega]; rfl, W5, fun v s H6 r6 W6 B6 hs gb hc6 => ?_⟩
        have hf6 := B6 _ _ nfd nfm hc5
        have tk : Tk H6 (upd H6 fo (.lst (us ++ [v]))) := Tk.upd hf6 (fun _ z => by cases z) fun _ _ z => by cases z
        have tk2 : Tk Hc (upd H6 fo (.lst (us ++ [v]))) := (Bt2.tk Wc (B5.trans B6)).trans tk
        refine ⟨fo, us, v, rfl, rfl, hf6, small1000 (by omega), r6, us ++ [v], b ++ [s], _, rfl, hw.grow W6 hfo, (Bc.trans (B5.trans B6)).grow hfo, upd_same, (hu.imp fun _ _ z => tk2.st z).snoc (tk.st hs), by rw [List.length_append]; show us.length + 1 ≤ i + 1; omega, fun s' h => ?_, ?_⟩
        · rcases List.mem_append.mp h with h | h
          · exact gs s' h
          · rw [List.mem_singleton.mp h]; exact gb
        · rw [List.length_append, List.map_append, List.sum_append, List.map_cons, List.map_nil, List.sum_cons, List.sum_nil]
          show ((b.length + 1 + ((b.map fun s => cntS k s).sum + (cntS k s + 0)) : Nat) : Int) + r6 = r
          omega
      · exact ⟨rc, us, b, _, rfl, Wc, Bc, hc4, hu, by omega, gs, sm⟩
    · rintro σ Hc ⟨rc, us, b, y, rfl, Wc, Bc, hc4, hu, ul, gs, sm⟩
      refine ⟨_, rfl, fo, us, rfl, .inl ⟨SqL.of hc4, fun p hp => ?_⟩⟩
      have s5 : Same Hc (upd Hc p (.tup us)) := same_new hp
      have bl := hu.1
      exact q _ b _ rc (Wc.same s5) (Bc.trans (.of s5)) ⟨p, us, rfl, upd_same, hu.imp fun _ _ z => StAt.same z s5⟩ ⟨by omega, gs⟩ sm
end
end FR
set_option Elab.async false
set_option linter.all false
set_option maxRecDepth 100000
set_option maxHeartbeats 1000000
/-! what is drawn is a program -/
namespace FR
open PySem PySem.Spec PyProof.Rows L2 LD
theorem GdS.imp {ns es : List Str} {B B' : Bd → Prop} (h : ∀ b, B b → B' b) : ∀ {s : St}, GdS ns es B s → GdS ns es B' s
  | .note _, g => g
  | .call _, g => g
  | .stay, g => g
  | .again _ _ _, ⟨a, b, c⟩ => ⟨a, b, h _ c⟩
  | .choose _, ⟨a, b, c⟩ => ⟨a, b, fun x m => h _ (c x m)⟩
  | .toss _, ⟨a, b⟩ => ⟨a, fun x m => ⟨(b x m).1, h _ (b x m).2⟩⟩
theorem GdB.up {ns es : List Str} : ∀ {n : Nat} {b : Bd}, GdB ns es n b → GdB ns es (n + 1) b
  | n + 1, b, ⟨l, g⟩ => ⟨l, fun s hs => (g s hs).imp fun _ h => GdB.up h⟩
theorem GdB.mono {ns es : List Str} {n m : Nat} {b : Bd} (h : GdB ns es n b) (le : n ≤ m) : GdB ns es m b := by
  induction le with
  | refl => exact h
  | step _ ih => exact ih.up
theorem GdS.kids {ns es : List Str} {B : Bd → Prop} : ∀ {s : St}, GdS ns es B s → ∀ k ∈ s.kids, B k
  | .note _, _ => fun _ h => absurd h List.not_mem_nil
  | .call _, _ => fun _ h => absurd h List.not_mem_nil
  | .stay, _ => fun _ h => absurd h List.not_mem_nil
  | .again _ _ _, ⟨_, _, c⟩ => fun k h => by rw [List.mem_singleton.mp h]; exact c
  | .choose _, ⟨_, _, c⟩ => c
  | .toss _, ⟨_, b⟩ => fun k h => by
    obtain ⟨r, hr, rfl⟩ := List.mem_map.mp h
    exact (b r hr).2
theorem GdS.few {ns es : List Str} {B : Bd → Prop} : ∀ {s : St}, GdS ns es B s → s.kids.length ≤ 4
  | .note _, _ => Nat.zero_le _
  | .call _, _ => Nat.zero_le _
  | .stay, _ => Nat.zero_le _
  | .again _ _ _, _ => by show 1 ≤ 4; decide
  | .choose bs, ⟨_, b, _⟩ => by show bs.length ≤ 4; omega
  | .toss rs, ⟨b, _⟩ => by show (rs.map _).length ≤ 4; rw [List.length_map]; exact b.2
theorem cnt_up {ns es : List Str} : ∀ {n : Nat} {b : Bd}, GdB ns es n b → cnt (n + 1) b = cnt n b
  | n + 1, b, ⟨_, g⟩ => by
    show b.length + (b.map fun s => (s.kids.map (cnt (n + 1))).sum).sum = b.length + (b.map fun s => (s.kids.map (cnt n)).sum).sum
    congr 2
    exact List.map_congr_left fun s hs => by rw [List.map_congr_left fun k hk => cnt_up ((g s hs).kids k hk)]
theorem cnt_mono {ns es : List Str} {n m : Nat} {b : Bd} (h : GdB ns es n b) (le : n ≤ m) : cnt m b = cnt n b := by
  induction le with
  | refl => rfl
  | @step m le ih => rw [cnt_up (h.mono le), ih]
theorem bdAt_mono {n m : Nat} {H : Hp} {v : V} {b : Bd} (h : BdAt n H v b) (le : n ≤ m) : BdAt m H v b := by
  induction le with
  | refl => exact h
  | step _ ih => exact bdAt_up _ _ _ _ ih
theorem zip_sum {α : Type} (f : α → Nat) : ∀ (l : List α) (i : Nat), ((l.zipIdx i).map fun z => f z.1).sum = (l.map f).sum
  | [], _ => rfl
  | x :: l, i => by
    show f x + ((l.zipIdx (i + 1)).map fun z => f z.1).sum = f x + (l.map f).sum
    rw [zip_sum f l]
theorem placed_len : ∀ (n : Nat) (b : Bd) (p : List Nat), (placed n b p).length = cnt n b
  | 0, _, _ => rfl
  | n + 1, b, p => by
    show (b.zipIdx.flatMap fun z => stP (placed n) z.1 (p ++ [z.2])).length = b.length + (b.map fun s => (s.kids.map (cnt n)).sum).sum
    rw [List.length_flatMap]
    have e : (b.zipIdx.map fun z => (stP (placed n) z.1 (p ++ [z.2])).length) = b.zipIdx.map fun z => 1 + (z.1.kids.map (cnt n)).sum := List.map_congr_left fun z _ => by
      show (kidsP (placed n) z.1 (p ++ [z.2])).length + 1 = _
      unfold kidsP
      rw [List.length_flatMap]
      have e2 : (z.1.kids.zipIdx.map fun y => (placed n y.1 (p ++ [z.2] ++ [y.2])).length) = z.1.kids.zipIdx.map fun y => cnt n y.1 := List.map_congr_left fun y _ => placed_len n y.1 _
      rw [e2, zip_sum (cnt n)]
      omega
    rw [e]
    have e3 := zip_sum (fun s : St => 1 + (s.kids.map (cnt n)).sum) b 0
    rw [e3]
    clear e e3
    induction b with
    | nil => rfl
    | cons s b ih =>
      rw [List.map_cons, List.sum_cons, List.map_cons, List.sum_cons, List.length_cons, ih]
      omega
theorem wt_ok {i : Int} (h : 1 ≤ i ∧ i ≤ 9) : wtB i = true := by
  unfold wtB
  rw [decide_eq_true h.1, decide_eq_true (show i ≤ 99 by omega)]
  rfl
theorem okS_gd {ns es : List Str} {B : Bd → Prop} (hn : ∀ z ∈ ns, nameB z = true) : ∀ {s : St}, GdS ns es B s → okS s = true
  | .note _, g => by
    rcases g with rfl | rfl
    · show nameB "a" = true; decide +kernel
    · show nameB "b" = true; decide +kernel
  | .call _, g => hn _ g
  | .stay, _ => rfl
  | .again _ _ _, ⟨a, b, _⟩ => by
    show (wtB _ && wtB _) = true
    rw [wt_ok a, wt_ok b]
    rfl
  | .choose bs, ⟨_, b, _⟩ => by
    show (decide ((2 : Int) ≤ (bs.length : Nat)) && decide (((bs.length : Nat) : Int) ≤ 3)) = true
    rw [decide_eq_true (by omega), decide_eq_true (by omega)]
    rfl
  | .toss rs, ⟨b, c⟩ => by
    show ((decide ((2 : Int) ≤ (rs.length : Nat)) && decide (((rs.length : Nat) : Int) ≤ 4)) && rs.all fun r => wtB r.1) = true
    rw [decide_eq_true (by omega), decide_eq_true (by omega), List.all_eq_true.mpr fun r hr => wt_ok (c r hr).1]
    rfl
theorem okB_gd {ns es : List Str} (hn : ∀ z ∈ ns, nameB z = true) : ∀ {n : Nat} {b : Bd}, GdB ns es n b → okB n b
  | n + 1, b, ⟨_, g⟩ => fun s hs => ⟨okS_gd hn (g s hs), fun k hk => okB_gd hn ((g s hs).kids k hk)⟩
theorem fewB_gd {ns es : List Str} : ∀ {n : Nat} {b : Bd}, GdB ns es n b → FewB n b
  | n + 1, b, ⟨_, g⟩ => fun s hs => ⟨by have := (g s hs).few; omega, fun k hk => fewB_gd ((g s hs).kids k hk)⟩
theorem zip_mem {α : Type} {l : List α} {z : α × Nat} (h : z ∈ l.zipIdx) : z.1 ∈ l := by
  obtain ⟨i, hi⟩ := List.getElem?_of_mem h
  rw [List.getElem?_zipIdx] at hi
  cases e : l[i]? with
  | none => rw [e] at hi; cases hi
  | some x => rw [e] at hi; cases hi; exact List.mem_of_getElem? e
theorem placed_gd {ns es : List Str} : ∀ {n : Nat} {b : Bd} {p : List Nat}, GdB ns es n b → ∀ y ∈ placed n b p, ∃ m, GdS ns es (GdB ns es m) y.2
  | n + 1, b, p, ⟨_, g⟩, y, hy => by
    obtain ⟨z, hz, hy⟩ := List.mem_flatMap.mp (show y ∈ b.zipIdx.flatMap fun z => stP (placed n) z.1 (p ++ [z.2]) from hy)
    have gz := g _ (zip_mem hz)
    rcases List.mem_cons.mp hy with e | hy
    · rw [e]; exact ⟨n, gz⟩
    · obtain ⟨u, hu, hy⟩ := List.mem_flatMap.mp (show y ∈ z.1.kids.zipIdx.flatMap fun u => placed n u.1 (p ++ [z.2] ++ [u.2]) from hy)
      exact placed_gd (gz.kids _ (zip_mem hu)) y hy
theorem calls_gd {ns es : List Str} {b : Bd} (g : GdB ns es 5 b) : ∀ z ∈ callsOf b, z ∈ ns := fun z hz => by
  obtain ⟨x, hx, rfl⟩ := List.mem_map.mp (show z ∈ (ofWord 5 b "call").map St.nm from hz)
  have wx := ofWord_mem hx
  unfold ofWord at hx
  obtain ⟨y, hy, rfl⟩ := List.mem_map.mp (List.mem_filter.mp hx).1
  obtain ⟨m, gy⟩ := placed_gd g y hy
  revert wx gy
  generalize y.2 = s
  intro wx gy
  match s, wx, gy with
  | .call z, _, gy => exact gy
  | .note _, h, _ => exact absurd h (by show ¬ (("note" : Str) = "call"); decide +kernel)
  | .stay, h, _ => exact absurd h (by decide +kernel)
  | .again _ _ _, h, _ => exact absurd h (by show ¬ (("again" : Str) = "call"); decide +kernel)
  | .choose _, h, _ => exact absurd h (by show ¬ (("choose" : Str) = "call"); decide +kernel)
  | .toss _, h, _ => exact absurd h (by show ¬ (("toss" : Str) = "call"); decide +kernel)
/-- the names that are drawn -/
abbrev five : List Str := ["x", "y", "z", "go", "a"]
/-- a drawn program, its names ascending -/
structure Drawn (es : List Str) (p : Pg) : Prop where
  len : 1 ≤ p.length ∧ p.length ≤ 5
  nd : (names p).Nodup
  so : sortedS (names p) = true
  nm : ∀ z ∈ names p, z ∈ five
  gd : ∀ x ∈ p, GdB (names p) es 5 x.2
  sz : (p.map fun x => cnt 5 x.2).sum ≤ 50
theorem five_ok : ∀ z ∈ five, nameB z = true := fun z hz => by
  have : five.all nameB = true := by decide +kernel
  exact List.all_eq_true.mp this z hz
theorem Drawn.prg {es : List Str} {p : Pg} (h : Drawn es p) : Prg p where
  len := ⟨h.len.1, by have := h.len.2; omega⟩
  ok := fun x hx => ⟨five_ok _ (h.nm _ (List.mem_map.mpr ⟨x, hx, rfl⟩)), okB_gd (fun z hz => five_ok z (h.nm z hz)) (h.gd x hx), by
    have : cnt 5 x.2 ≤ (p.map fun x => cnt 5 x.2).sum := len_mem_sum (f := fun x : Str × Bd => cnt 5 x.2) hx
    have := h.sz
    omega, fewB_gd (h.gd x hx)⟩
  sz := by
    have e : (p.map fun x => (placed 5 x.2 []).length) = p.map fun x => cnt 5 x.2 := List.map_congr_left fun x _ => placed_len 5 x.2 []
    rw [e]
    have := h.sz
    omega
  cl := fun x hx z hz => calls_gd (h.gd x hx) z hz
theorem ok_draw {P : Program} {w : World} {K : PySem.W.Frag} {mg : Str → Option Value} {base : Heap} {fs fb : Addr} {fds fdb : FuncData} (FS : Fun K "_law_statement" "_law_statement" sLs fs fds) (FB : Fun K "_law_body" "_law_body" sLy fb fdb) (mr : mg "range" = none) (mt : mg "tuple" = none) (gR : Glo P w K mg base "_law_roll" 1 ["_law_dice_here", "_law_total"] spRoll) (gO : Glo P w K mg base "_law_one_of" 2 ["_law_dice_here", "_law_items"] spOneOf) (gW : Glo P w K mg base "_law_weight" 3 ["_law_dice_here"] spWe)
    (mB : mg "_law_body" = some (.ref fb)) (kB : PySem.W.keepIn K (.ref fb) = true) (bB : Binds K fdb P5 []) (mS : mg "_law_statement" = some (.ref fs)) (kS : PySem.W.keepIn K (.ref fs) = true) (bS : Binds K fds P5 []) : ∀ n, FnOk P w K mg base CX0 (2 * n + 3) fb fdb P5 (spLy n) ∧ FnOk P w K mg base CX0 (2 * n + 4) fs fds P5 (spLs n)
  | 0 => by
    have B : FnOk P w K mg base CX0 3 fb fdb P5 (spLy 0) := by
      refine FB.ok scLy (fun vs H Q E h => ?_) (fun cdv A outer s H vs Q E hr h => ?_)
      · obtain ⟨d, n, m, e, ns, es, r, z, _⟩ := h
        exact absurd z (by decide)
      · obtain ⟨d, n, m, e, ns, es, r, z, _⟩ := h
        exact absurd z (by decide)
    exact ⟨B, ok_ls FS mr mt gR gO gW B (by decide) mB kB bB⟩
  | n + 1 => by
    have S := (ok_draw FS FB mr mt gR gO gW mB kB bB mS kS bS n).2
    have B : FnOk P w K mg base CX0 (2 * n + 4 + 1) fb fdb P5 (spLy (n + 1)) := ok_ly FB mr mt gO S (by omega) mS kS bS
    exact ⟨B, ok_ls FS mr mt gR gO gW B (by omega) mB kB bB⟩
end FR
set_option Elab.async false
set_option linter.all false
set_option maxRecDepth 100000
set_option maxHeartbeats 1000000
/-! _law_bodies -/
namespace FR
open PySem PySem.Spec PyProof.Rows L2 LD
abbrev sLo : Stmt := FR.top 53
abbrev NLo : List Str := ["_law_dice_here", "_law_much", "_law_extra", "_law_names", "_law_found", "_law_name_here"]
theorem scLo : FnScope NLo ["_law_dice_here", "_law_much", "_law_extra"] (defScope sLo) := ⟨rfl, rfl, rfl, by decide +kernel, rfl, by decide +kernel, by decide +kernel⟩
theorem lt1_of {a c : Nat} (h : a + 64 < c) : a + 1 < c := by omega
theorem cut_take {xs : List V} {n : Nat} (h : n ≤ xs.length) : cutV xs none (some (n : Int)) = xs.take n := by
  unfold cutV
  rw [HT.sIx_nat, HT.sIx_none, Nat.min_eq_left h, List.drop_zero, Nat.sub_zero]
theorem setP_new {p : Pg} {z : Str} {b : Bd} (h : z ∉ names p) : setP p z b = p ++ [(z, b)] := by
  unfold setP
  rw [if_neg h]
section
variable {P : Program} {w : World} {K : PySem.W.Frag} {mg : Str → Option Value} {base : Heap}
def spLyA : Sp := fun vs H Q E => spLy 2 vs H Q E ∨ spLy 3 vs H Q E
def spLo : Sp := fun vs H Q _ => ∃ (d e : Addr) (mu : Int) (es : List Str), vs = [.ref d, .int mu, .ref e] ∧ 1 ≤ mu ∧ mu ≤ 5 ∧ DiceAt H d ∧ H e = some (.lst (es.map V.str)) ∧ es.length < 900 ∧
  ∀ l kvs p H', H l = none → Rl d H H' → H' l = some (.dK kvs) → PrgK H' kvs p → Drawn es p → Q (.ref l) H'
theorem ok_lo {f fb : Addr} {fd fdb : FuncData} (F : Fun K "_law_bodies" "_law_bodies" sLo f fd) (ms : mg "sorted" = none) (gR : Glo P w K mg base "_law_roll" 1 ["_law_dice_here", "_law_total"] spRoll) (gX : Glo P w K mg base "_law_mixed" 2 ["_law_dice_here", "_law_items"] spMx)
    (GB : FnOk P w K mg base CX0 9 fb fdb P5 spLyA) (mB : mg "_law_body" = some (.ref fb)) (kB : PySem.W.keepIn K (.ref fb) = true) (bB : Binds K fdb P5 []) : FnOk P w K mg base CX0 10 f fd ["_law_dice_here", "_law_much", "_law_extra"] spLo := by
  refine F.ok scLo (fun vs H Q E h => ?_) (fun cdv A outer s H vs Q E hr h => ?_)
  · obtain ⟨d, e, mu, es, rfl, _⟩ := h
    rfl
  · obtain ⟨d, e, mu, es, rfl, m1, m5, hd, he, e9, q⟩ := h
    refine ⟨_, (pss_cons (ps_set (i := 3) scLo.nd rfl (Or.inl rfl) (pe_callB cr_sortedS (by rfl) ms (by decide +kernel) (pa_cons (pe_slice sl_list (pe_call gX.G (hr.mono (by decide)) (by rfl) gX.m gX.k gX.b .nil pass0 (pa_cons (pv 0) (pa_cons (pe_lst (pa_cons pe_str (pa_cons pe_str (pa_cons pe_str (pa_cons pe_str (pa_cons pe_str pa_nil)))))) pa_nil))) po_none (po_some (pe_op op_add pe_int (pe_call gR.G (hr.mono (by decide)) (by rfl) gR.m gR.k gR.b .nil pass0 (pa_cons (pv 0) (pa_cons (pv 1) pa_nil)))))) pa_nil)))
      (pss_cons (ps_set (i := 4) scLo.nd rfl (Or.inl rfl) pe_dnewK)
      (pss_cons (ps_for PassesOwn.never rfl (pi_list (pv 3)) (pg_name (i := 5) scLo.nd rfl (.inl rfl)) (pss_one (ps_dput (lt1_of hr.units) (pv 4) (pv 5) (pe_call GB hr (by rfl) mB kB bB .nil pass0 (pa_cons (pv 0) (pa_cons (pe_op op_add pe_int (pe_call gR.G (hr.mono (by decide)) (by rfl) gR.m gR.k gR.b .nil pass0 (pa_cons (pv 0) (pa_cons pe_int pa_nil)))) (pa_cons (pv 3) (pa_cons (pe_lst (pa_cons (pe_op op_add pe_int (pe_call gR.G (hr.mono (by decide)) (by rfl) gR.m gR.k gR.b .nil pass0 (pa_cons (pv 0) (pa_cons pe_int pa_nil)))) pa_nil)) (pa_cons (pv 2) pa_nil)))))) (by rfl))))
      (pss_one (ps_ret (pv 4)))))), ?_⟩
    refine ⟨_, rfl, small1000 (Nat.le_of_ble_eq_true rfl), fun l0 hl0 => ?_⟩
    have s0 := same_new (o := .lst (five.map V.str)) hl0
    have hl01 : upd H l0 (.lst (five.map V.str)) l0 = some (.lst (five.map V.str)) := upd_same
    have n0 : l0 ≠ d := by
      obtain ⟨x, y, z, e⟩ := hd
      exact fun c => by rw [c, e] at hl0; cases hl0
    have R1 := (Rl.refl hd).same s0
    refine ⟨d, l0, five, rfl, R1.1, .inl hl01, n0, by decide, fun ys l1 H2 pm hl1n R2 hy => ?_⟩
    have hl1n : upd H l0 (.lst (five.map V.str)) l1 = none := hl1n
    have n1 : l1 ≠ d := by
      obtain ⟨x, y, z, e⟩ := R1.1
      exact fun c => by rw [c, e] at hl1n; cases hl1n
    have R12 := R1.trans R2
    clear R1 R2
    refine ⟨_, rfl, _, rfl, d, mu, rfl, R12.1, by omega, by omega, fun r a b c r0 r1 => ?_⟩
    have R3 : Rl d H (upd H2 d (.lst (dxs a b c))) := R12.roll
    have hy3 : upd H2 d (.lst (dxs a b c)) l1 = some (.lst (ys.map V.str)) := by rw [upd_ne n1]; exact hy
    generalize upd H2 d (.lst (dxs a b c)) = H3 at R3 hy3 ⊢
    clear hy R12
    have ly : ys.length = 5 := pm.length_eq
    obtain ⟨n, hn, nn1, nn5⟩ : ∃ n : Nat, (1 : Int) + r = (n : Int) ∧ 1 ≤ n ∧ n ≤ 5 := ⟨(1 + r).toNat, by omega, by omega, by omega⟩
    refine ⟨_, _, rfl, rfl, _, rfl, l1, _, rfl, SqL.of hy3, fun p hp => ?_⟩
    have ecut : cutV (ys.map V.str) none (some (1 + r)) = (ys.take n).map V.str := by
      rw [hn, cut_take (by rw [List.length_map, ly]; exact nn5), List.map_take]
    rw [ecut]
    have R4 : Rl d H (upd H3 p (.lst ((ys.take n).map V.str))) := R3.same (same_new hp)
    have hp4 : upd H3 p (.lst ((ys.take n).map V.str)) p = some (.lst ((ys.take n).map V.str)) := upd_same
    generalize upd H3 p (.lst ((ys.take n).map V.str)) = H4 at R4 hp4 ⊢
    refine ⟨p, ys.take n, rfl, SqL.of hp4, by rw [List.length_take]; omega, fun zs nl pz sz hnl => ?_⟩
    have R5 : Rl d H (upd H4 nl (.lst (zs.map V.str))) := R4.same (same_new hnl)
    have hn5 : upd H4 nl (.lst (zs.map V.str)) nl = some (.lst (zs.map V.str)) := upd_same
    generalize upd H4 nl (.lst (zs.map V.str)) = H5 at R5 hn5 ⊢
    have he5 : H5 e = some (.lst (es.map V.str)) := by
      refine R5.2 _ _ (fun c => ?_) he
      obtain ⟨x, y, z, e'⟩ := hd
      rw [c, e'] at he
      have he := HO.lst.inj (Option.some.inj he)
      cases es with
      | nil => cases he
      | cons z t => cases he
    have lz : zs.length = n := by rw [pz.length_eq, List.length_take]; omega
    have ndz : zs.Nodup := pz.symm.nodup ((pm.symm.nodup (by decide +kernel)).sublist (List.take_sublist _ _))
    have inz : ∀ z ∈ zs, z ∈ five := fun z h => pm.mem_iff.mp (List.take_subset _ _ (pz.mem_iff.mp h))
    intro fo hfo
    refine ⟨_, rfl, _, rfl, ⟨_, SqL.of (same_new hfo _ _ hn5)⟩, ?_⟩
    refine for_list (xs := zs.map V.str) (fun i σ Hc => ∃ (y : Option V) (kvs : List (Key × V)) (p : Pg), σ = [some (.ref d), some (.int mu), some (.ref e), some (.ref nl), some (.ref fo), y] ∧ Rl d H5 Hc ∧ Hc fo = some (.dK kvs) ∧ PrgK Hc kvs p ∧ names p = zs.take i ∧ (∀ x ∈ p, GdB zs es 5 x.2) ∧ (p.map fun x => cnt 5 x.2).sum ≤ 10 * i) ?_ ?_ ?_ ?_
    · exact ⟨_, [], [], rfl, (Rl.refl R5.1).same (same_new hfo), upd_same, PrgK.nil, rfl, (fun x h => absurd h List.not_mem_nil), Nat.zero_le _⟩
    · rintro i σ Hc _ ⟨y, kvs, p, rfl, Rc, _⟩
      refine SqL.of (Rc.2 _ _ (fun c => ?_) hn5)
      obtain ⟨x, y, z, e'⟩ := R5.1
      rw [c, e'] at hn5
      have hn5 := HO.lst.inj (Option.some.inj hn5)
      cases zs with
      | nil => cases hn5
      | cons z t => cases hn5
    · rintro i x σ Hc hx ⟨y, kvs, p, rfl, Rc, hfc, hk, hnm, hgd, hsz⟩
      have ii := (List.getElem?_eq_some_iff.mp hx).1
      rw [List.length_map, lz] at ii
      obtain ⟨z, hz, rfl⟩ : ∃ z, zs[i]? = some z ∧ x = .str z := by
        rw [List.getElem?_map] at hx
        cases e : zs[i]? with
        | none => rw [e] at hx; cases hx
        | some z => rw [e] at hx; cases hx; exact ⟨z, rfl, rfl⟩
      have e10 := hr.units
      have zn : z ∉ names p := fun c => by
        rw [hnm] at c
        have := ndz
        rw [← List.take_append_drop i zs] at this
        have dz : z ∈ zs.drop i := by
          rw [List.mem_iff_getElem?]
          exact ⟨0, by rw [List.getElem?_drop]; exact hz⟩
        exact (List.nodup_append.mp this).2.2 z c z dz rfl
      have hn6 : Hc nl = some (.lst (zs.map V.str)) := by
        refine Rc.2 _ _ (fun c => ?_) hn5
        obtain ⟨x, y, z, e'⟩ := R5.1
        rw [c, e'] at hn5
        have hn5 := HO.lst.inj (Option.some.inj hn5)
        cases zs with
        | nil => cases hn5
        | cons z t => cases hn5
      have ed : e ≠ d := fun c => by
        obtain ⟨x, y, z, e'⟩ := hd
        rw [c, e'] at he
        have he := HO.lst.inj (Option.some.inj he)
        cases es with
        | nil => cases he
        | cons z t => cases he
      have nld : nl ≠ d := fun c => by
        obtain ⟨x, y, z, e'⟩ := R5.1
        rw [c, e'] at hn5
        have hn5 := HO.lst.inj (Option.some.inj hn5)
        cases zs with
        | nil => cases hn5
        | cons z t => cases hn5
      have he6 : Hc e = some (.lst (es.map V.str)) := Rc.2 _ _ ed he5
      have nfd : fo ≠ d := by
        obtain ⟨x, y, z, e⟩ := R5.1
        exact fun c => by rw [c, e] at hfo; cases hfo
      refine ⟨_, rfl, _, rfl, d, 2, rfl, Rc.1, by decide, by decide, fun r a b c r0 r2 => ⟨_, _, rfl, rfl, _, rfl, ?_⟩⟩
      have R6 : Rl d H5 (upd Hc d (.lst (dxs a b c))) := Rc.roll
      have R6' : Rl d Hc (upd Hc d (.lst (dxs a b c))) := (Rl.refl Rc.1).roll
      generalize upd Hc d (.lst (dxs a b c)) = H6 at R6 R6' ⊢
      refine ⟨_, rfl, d, 8, rfl, R6.1, by decide, by decide, fun r' a b c r0' r2' => ⟨_, _, rfl, rfl, Nat.le_of_lt (small1000 (Nat.le_of_ble_eq_true rfl)), fun m hm => ⟨_, rfl, ?_⟩⟩⟩
      have s7 : Same (upd H6 d (.lst (dxs a b c))) (upd (upd H6 d (.lst (dxs a b c))) m (.lst [.int (3 + r')])) := same_new hm
      have R7 : Rl d Hc (upd (upd H6 d (.lst (dxs a b c))) m (.lst [.int (3 + r')])) := R6'.roll.same s7
      have hmc : Hc m = none := R6'.roll.none Rc.1 hm
      have hm7 : upd (upd H6 d (.lst (dxs a b c))) m (.lst [.int (3 + r')]) m = some (.lst [.int (3 + r')]) := upd_same
      have hn7 := R7.2 _ _ nld hn6
      have he7 := R7.2 _ _ ed he6
      have D7 : Dw d nl m e zs es (upd (upd H6 d (.lst (dxs a b c))) m (.lst [.int (3 + r')])) (3 + r') := ⟨R7.1, hm7, hn7, he7, by omega, by omega, e9, by omega⟩
      have step : ∀ (k : Nat) (v : V) (bd : Bd) (H' : Hp) (r'' : Int), k ≤ 5 → Dw d nl m e zs es H' r'' → Bt2 d m (upd (upd H6 d (.lst (dxs a b c))) m (.lst [.int (3 + r')])) H' → BdAt k H' v bd → GdB zs es k bd → (cnt k bd : Int) + r'' = 3 + r' →
          H' fo = some (.dK kvs) ∧ Rl d H5 (upd H' fo (.dK (putK kvs (.inr z) v))) ∧ PrgK (upd H' fo (.dK (putK kvs (.inr z) v))) (putK kvs (.inr z) v) (p ++ [(z, bd)]) ∧ names (p ++ [(z, bd)]) = zs.take (i + 1) ∧ (∀ x ∈ p ++ [(z, bd)], GdB zs es 5 x.2) ∧ ((p ++ [(z, bd)]).map fun x => cnt 5 x.2).sum ≤ 10 * (i + 1) := by
        intro k v bd H' r'' k5 W' B' hb gb hc
        have R8 : Rl d Hc H' := ⟨W'.dice, fun q o n e => B' q o n (ne_of_none e hmc) (R7.2 q o n e)⟩
        have hf8 := R8.2 _ _ nfd hfc
        have tk : Tk H' (upd H' fo (.dK (putK kvs (.inr z) v))) := Tk.upd hf8 (fun _ z => by cases z) fun _ _ z => by cases z
        have R9 := Rc.trans R8
        have hk8 : PrgK H' kvs p := (R8.tk Rc.1).pg hk
        have hk9 := hk8.set (z := z) (bdAt_mono hb k5)
        rw [setP_new zn] at hk9
        have gb5 := gb.mono k5
        have c5 : cnt 5 bd = cnt k bd := cnt_mono gb k5
        have r0'' := W'.r0
        refine ⟨hf8, ⟨?_, fun q o n e => ?_⟩, tk.pg hk9, ?_, fun x hx => ?_, ?_⟩
        · obtain ⟨x, y, z, e⟩ := W'.dice
          exact ⟨x, y, z, by rw [upd_ne nfd.symm]; exact e⟩
        · rw [upd_ne (ne_of_none e hfo)]
          exact R9.2 q o n e
        · rw [take_snoc hz, ← hnm]
          show (p ++ [(z, bd)]).map (·.1) = p.map (·.1) ++ [z]
          rw [List.map_append]
          rfl
        · rcases List.mem_append.mp hx with h | h
          · exact hgd x h
          · rw [List.mem_singleton.mp h]; exact gb5
        · rw [List.map_append, List.sum_append, List.map_cons, List.map_nil, List.sum_cons, List.sum_nil]
          show (p.map fun x => cnt 5 x.2).sum + (cnt 5 bd + 0) ≤ 10 * (i + 1)
          omega
      have lk : kvs.length < sizeLine := small1000 (by
        have h1 := hk.1
        have h2 := congrArg List.length hnm
        rw [List.length_map, List.length_take] at h2
        omega)
      rcases (show r = 0 ∨ r = 1 by omega) with rfl | rfl
      · refine .inl ⟨d, nl, m, e, zs, es, 3 + r', by decide, rfl, D7, fun v bd H' r'' W' B' hb gb hc => ?_⟩
        obtain ⟨a1, a2, a3, a4, a5, a6⟩ := step 2 v bd H' r'' (by decide) W' B' hb gb hc
        exact ⟨_, rfl, _, rfl, fo, _, rfl, DPut.k (k := .inr z) a1 lk, _, _, _, rfl, a2, upd_same, a3, a4, a5, a6⟩
      · refine .inr ⟨d, nl, m, e, zs, es, 3 + r', by decide, rfl, D7, fun v bd H' r'' W' B' hb gb hc => ?_⟩
        obtain ⟨a1, a2, a3, a4, a5, a6⟩ := step 3 v bd H' r'' (by decide) W' B' hb gb hc
        exact ⟨_, rfl, _, rfl, fo, _, rfl, DPut.k (k := .inr z) a1 lk, _, _, _, rfl, a2, upd_same, a3, a4, a5, a6⟩
    · rintro σ Hc ⟨y, kvs, p, rfl, Rc, hfc, hk, hnm, hgd, hsz⟩
      rw [List.length_map, List.take_length] at hnm
      rw [List.length_map, lz] at hsz
      have lp : p.length = n := by rw [← lz, ← hnm, List.length_map]
      refine ⟨_, rfl, q fo kvs p Hc ((R5.none hd hfo)) (R5.trans Rc) hfc hk ⟨⟨by omega, by omega⟩, by rw [hnm]; exact ndz, by rw [hnm]; exact sz, by rw [hnm]; exact inz, by rw [hnm]; exact hgd, by omega⟩⟩
end
end FR
set_option Elab.async false
set_option linter.all false
set_option maxRecDepth 100000
set_option maxHeartbeats 1000000
/-! _law_inner, _law_sorts -/
namespace FR
open PySem PySem.Spec PyProof.Rows L2
abbrev sLi : Stmt := FR.top 54
abbrev NLi : List Str := ["_law_statement_here", "_law_weight_here", "_law_inner_here"]
theorem scLi : FnScope NLi ["_law_statement_here"] (defScope sLi) := ⟨rfl, rfl, rfl, by decide +kernel, rfl, by decide +kernel, by decide +kernel⟩
abbrev sLr : Stmt := FR.top 55
abbrev NLr : List Str := ["_law_body_here", "_law_found", "_law_statement_here", "_law_inner_here"]
theorem scLr : FnScope NLr ["_law_body_here"] (defScope sLr) := ⟨rfl, rfl, rfl, by decide +kernel, rfl, by decide +kernel, by decide +kernel⟩
/-- words and names of all statements -/
def srt : Nat → Bd → List (Str × Str)
  | 0, _ => []
  | n + 1, b => b.flatMap fun s => (s.word, s.nm) :: s.kids.flatMap (srt n)
theorem ta_same {te : TE} {t : TA} {σ : L2.St} {H : Hp} {Q : List V → Hp → Prop} {v : V} (h : ∀ Q' : VK, (∀ H', Same H H' → Q' v H') → te σ H Q') (g : ∀ H', Same H H' → t σ H' fun xs H2 => Q (v :: xs) H2) : tCons te t σ H Q := h _ g
section
variable {P : Program} {w : World} {K : PySem.W.Frag} {mg : Str → Option Value} {base : Heap}
def spLi (n : Nat) : Sp := fun vs H Q _ => ∃ v x, vs = [v] ∧ StAt n H v x ∧ x.kids.length ≤ 90 ∧ ∀ l us H', H l = none → Same H H' → H' l = some (.lst us) → AG (fun w b => BdAt n H' w b) us x.kids → Q (.ref l) H'
theorem ok_li {f : Addr} {fd : FuncData} {n : Nat} (F : Fun K "_law_inner" "_law_inner" sLi f fd) (ml : mg "list" = none) : FnOk P w K mg base CX0 1 f fd ["_law_statement_here"] (spLi n) := by
  refine F.ok scLi (fun vs H Q E h => ?_) (fun cdv A outer s H vs Q E hr h => ?_)
  · obtain ⟨v, x, rfl, _⟩ := h
    rfl
  · obtain ⟨v, x, rfl, hv, few, q⟩ := h
    refine ⟨_, (pss_cons (ps_if (pt_cmpR op_eq (pe_ix ix_tup (pv 0) pe_int (fun _ _ => rfl)) pe_str (nomark _)) (pss_one (ps_ret (pe_lc (X := (cxOf CX0 P w K mg base NLi "_law_inner" (defScope sLi) f cdv A outer s H E).nox) (own := [("_law_weight_here", 1), ("_law_inner_here", 2)]) (g := (gTup K 2 (gCons (gName 1) (gCons (gName 2) gNil)))) (tt := tYes) rfl scLi.nd (pi_tup (pe_slice sl_tupA (pv 0) (po_some pe_int) po_none)) (blkOk_by (N := NLi) (sc := defScope sLi) (by decide +kernel)) (fun _ _ _ _ _ => (pg_tupK (K := K) rfl rfl (pgs_cons (pg_name (i := 1) scLi.nd rfl (.inl rfl)) (pgs_cons (pg_name (i := 2) scLi.nd rfl (.inl rfl)) pgs_nil)))) (fun _ _ _ _ _ => pts_nil) (fun _ _ _ _ _ => (pv 2))))) pss_nil)
      (pss_cons (ps_if (pt_cmpR op_eq (pe_ix ix_tup (pv 0) pe_int (fun _ _ => rfl)) pe_str (nomark _)) (pss_one (ps_ret (pe_lst (pa_cons (pe_ix ix_tup (pv 0) pe_int (fun _ _ => rfl)) pa_nil)))) pss_nil)
      (pss_one (ps_ret (pe_ifExp (pt_cmpR op_eq (pe_ix ix_tup (pv 0) pe_int (fun _ _ => rfl)) pe_str (nomark _)) (pe_callTy call_list_of (by rfl) ml (by decide +kernel) (pa_cons (pe_slice sl_tupA (pv 0) (po_some pe_int) po_none) pa_nil)) (pe_lst pa_nil)))))), ?_⟩
    obtain ⟨a, xs, rfl, ha⟩ := hv.head
    match x, hv, few, q, ha with
    | .note z, ⟨_, e, _⟩, few, q, ha => exact ⟨_, rfl, a, _, 0, _, rfl, rfl, SqT.of ha, atI_nat (j := 0) rfl, rfl, _, rfl, iteF ⟨_, rfl, a, _, 0, _, rfl, rfl, SqT.of ha, atI_nat (j := 0) rfl, rfl, _, rfl, iteF ⟨_, rfl, a, _, 0, _, rfl, rfl, SqT.of ha, atI_nat (j := 0) rfl, rfl, _, rfl, iteF ⟨Nat.zero_le _, fun p hp => q p [] _ hp (same_new hp) upd_same AG.nil⟩⟩⟩⟩
    | .call z, ⟨_, e, _⟩, few, q, ha => exact ⟨_, rfl, a, _, 0, _, rfl, rfl, SqT.of ha, atI_nat (j := 0) rfl, rfl, _, rfl, iteF ⟨_, rfl, a, _, 0, _, rfl, rfl, SqT.of ha, atI_nat (j := 0) rfl, rfl, _, rfl, iteF ⟨_, rfl, a, _, 0, _, rfl, rfl, SqT.of ha, atI_nat (j := 0) rfl, rfl, _, rfl, iteF ⟨Nat.zero_le _, fun p hp => q p [] _ hp (same_new hp) upd_same AG.nil⟩⟩⟩⟩
    | .stay, ⟨_, e, _⟩, few, q, ha => exact ⟨_, rfl, a, _, 0, _, rfl, rfl, SqT.of ha, atI_nat (j := 0) rfl, rfl, _, rfl, iteF ⟨_, rfl, a, _, 0, _, rfl, rfl, SqT.of ha, atI_nat (j := 0) rfl, rfl, _, rfl, iteF ⟨_, rfl, a, _, 0, _, rfl, rfl, SqT.of ha, atI_nat (j := 0) rfl, rfl, _, rfl, iteF ⟨Nat.zero_le _, fun p hp => q p [] _ hp (same_new hp) upd_same AG.nil⟩⟩⟩⟩
    | .again i j b, ⟨a', w0, e, ha', g⟩, few, q, ha =>
      cases e
      refine ⟨_, rfl, a, _, 0, _, rfl, rfl, SqT.of ha, atI_nat (j := 0) rfl, rfl, _, rfl, iteF ⟨_, rfl, a, _, 0, _, rfl, rfl, SqT.of ha, atI_nat (j := 0) rfl, rfl, _, rfl, iteT ?_⟩⟩
      refine ⟨_, rfl, a, _, 3, _, rfl, rfl, SqT.of ha', atI_nat (j := 3) rfl, small1000 (Nat.le_of_ble_eq_true rfl), fun p hp => ?_⟩
      have sp := same_new (o := .lst [w0]) hp
      exact q p [w0] _ hp sp upd_same (AG.consA (BdAt.same g sp) AG.nil)
    | .choose bs, ⟨a', ws, e, ha', g⟩, few, q, ha =>
      cases e
      obtain ⟨ec, ew⟩ := cut_tail (.str "choose") ws
      refine ⟨_, rfl, a, _, 0, _, rfl, rfl, SqT.of ha, atI_nat (j := 0) rfl, rfl, _, rfl, iteF ⟨_, rfl, a, _, 0, _, rfl, rfl, SqT.of ha, atI_nat (j := 0) rfl, rfl, _, rfl, iteF ⟨_, rfl, a, _, 0, _, rfl, rfl, SqT.of ha, atI_nat (j := 0) rfl, rfl, _, rfl, iteT ?_⟩⟩⟩
      refine ⟨_, rfl, _, rfl, a, _, rfl, SqT.of ha', fun z => (ew z).elim, fun _ p hp => ?_⟩
      rw [ec]
      have sp := same_new (o := .tup ws) hp
      have hp1 : upd H p (.tup ws) p = some (.tup ws) := upd_same
      generalize upd H p (.tup ws) = H1 at sp hp1 ⊢
      refine ⟨p, ws, rfl, .inr (SqT.of hp1), fun l hl => ?_⟩
      have s2 := sp.trans (same_new (o := .lst ws) hl)
      exact q l ws _ (none_of_same sp hl) s2 upd_same (g.imp fun _ _ z => BdAt.same z s2)
    | .toss rs, ⟨a', ws, e, ha', g⟩, few, q, ha =>
      cases e
      obtain ⟨ec, ew⟩ := cut_tail (.str "toss") ws
      refine ⟨_, rfl, a, _, 0, _, rfl, rfl, SqT.of ha, atI_nat (j := 0) rfl, rfl, _, rfl, iteT ?_⟩
      refine ⟨_, rfl, _, rfl, a, _, rfl, SqT.of ha', fun z => (ew z).elim, fun _ p hp => ?_⟩
      rw [ec]
      have sp := same_new (o := .tup ws) hp
      have hp1 : upd H p (.tup ws) p = some (.tup ws) := upd_same
      have g1 := g.imp (R' := fun w0 r => ∃ p0 x, w0 = .ref p0 ∧ upd H p (.tup ws) p0 = some (.tup [.int r.1, x]) ∧ BdAt n (upd H p (.tup ws)) x r.2) fun _ _ ⟨p0, x, e1, h1, z⟩ => ⟨p0, x, e1, sp _ _ h1, BdAt.same z sp⟩
      generalize upd H p (.tup ws) = H1 at sp hp1 g1 ⊢
      have lw : ws.length ≤ 90 := by rw [g1.1]; have : (rs.map fun r => r.2).length ≤ 90 := few; rw [List.length_map] at this; exact this
      refine ⟨p, rfl, ⟨_, SqT.of hp1⟩, fun D hD => ?_⟩
      refine lc_tup (xs := ws) (fun i Hc => Same H1 Hc ∧ ∃ us, Hc D = some (.lst us) ∧ AG (fun w b => BdAt n Hc w b) us ((rs.map fun r => r.2).take i)) ⟨same_new hD, [], upd_same, AG.nil⟩ (fun i Hc _ p' => SqT.of (p'.1 _ _ hp1)) ?_ ?_
      · rintro i v Hc hvi ⟨sm, us, hDc, hu⟩
        obtain ⟨r, hr, p0, x0, rfl, h0, z⟩ := g1.2 i v hvi
        have il := (List.getElem?_eq_some_iff.mp hvi).1
        have h0 := sm _ _ h0
        have z := BdAt.same z sm
        refine ⟨p0, _, rfl, SqT.of h0, rfl, _, _, rfl, _, _, rfl, rfl, rfl, ?_⟩
        have dt : ∀ b xs, Hc b = some (.tup xs) → upd Hc D (.lst (us ++ [x0])) b = some (.tup xs) := fun b xs e => by rw [upd_ne (fun y => by rw [y, hDc] at e; cases e)]; exact e
        refine ⟨_, rfl, us, hDc, small1000 (by rw [hu.1, List.length_take, List.length_map]; have := g1.1; omega), same_upd hD sm, us ++ [x0], upd_same, ?_⟩
        have hr2 : (rs.map fun r => r.2)[i]? = some r.2 := by rw [List.getElem?_map, hr]; rfl
        rw [take_snoc hr2]
        exact AG.snoc (hu.imp fun _ _ y => bdAt_keep dt n _ _ y) (bdAt_keep dt n _ _ z)
      · rintro Hc ⟨sm, us, hDc, hu⟩
        rw [List.take_of_length_le (by rw [List.length_map, g1.1]; exact Nat.le_refl _)] at hu
        exact q D us _ (none_of_same sp hD) (sp.trans sm) hDc hu
def spLr (n : Nat) : Sp := fun vs H Q _ => ∃ v b, vs = [v] ∧ BdAt n H v b ∧ FewB n b ∧ (srt n b).length ≤ 900 ∧ ∀ l us H', H l = none → Same H H' → H' l = some (.lst us) → AG (fun z y => ∃ t, z = .ref t ∧ H' t = some (.tup [.str y.1, .str y.2])) us (srt n b) → Q (.ref l) H'
theorem ok_lr {f fs : Addr} {fd fds : FuncData} {n k : Nat} (F : Fun K "_law_sorts" "_law_sorts" sLr f fd) (gI : Glo P w K mg base "_law_inner" 1 ["_law_statement_here"] (spLi n)) (GS : FnOk P w K mg base CX0 k fs fds ["_law_body_here"] (spLr n)) (k1 : 1 ≤ k)
    (mS : mg "_law_sorts" = some (.ref fs)) (kS : PySem.W.keepIn K (.ref fs) = true) (bS : Binds K fds ["_law_body_here"] []) : FnOk P w K mg base CX0 (k + 1) f fd ["_law_body_here"] (spLr (n + 1)) := by
  refine F.ok scLr (fun vs H Q E h => ?_) (fun cdv A outer s H vs Q E hr h => ?_)
  · obtain ⟨v, b, rfl, _⟩ := h
    rfl
  · obtain ⟨v, b, rfl, ⟨a, xs, rfl, ha, hx⟩, few, sz, q⟩ := h
    refine ⟨_, (pss_cons (ps_set (i := 1) scLr.nd rfl (Or.inl rfl) (pe_lst pa_nil))
      (pss_cons (ps_for PassesOwn.never rfl (pi_tup (pv 0)) (pg_name (i := 2) scLr.nd rfl (.inl rfl)) (pss_cons (ps_expr (pe_bm PySem.F.plainAttrs_list PySem.F.slot_list_append PySem.F.type_list_append mt_append (pv 1) (pa_cons (pe_tup (pa_cons (pe_ix ix_tup (pv 2) pe_int (fun _ _ => rfl)) (pa_cons (pe_ifExp (pt_cmpR op_in_seq (pe_ix ix_tup (pv 2) pe_int (fun _ _ => rfl)) (pe_tup (pa_cons pe_str (pa_cons pe_str pa_nil))) rfl) (pe_ix ix_tup (pv 2) pe_int (fun _ _ => rfl)) pe_str) pa_nil))) pa_nil)))
      (pss_one (ps_for PassesOwn.never rfl (pi_list (pe_call gI.G (hr.mono k1) (by rfl) gI.m gI.k gI.b .nil pass0 (pa_cons (pv 2) pa_nil))) (pg_name (i := 3) scLr.nd rfl (.inl rfl)) (pss_one (ps_expr (pe_bm PySem.F.plainAttrs_list PySem.F.slot_list_extend PySem.F.type_list_extend mt_extend (pv 1) (pa_cons (pe_call GS hr (by rfl) mS kS bS .nil pass0 (pa_cons (pv 3) pa_nil)) pa_nil))))))))
      (pss_one (ps_ret (pv 1))))), ?_⟩
    refine ⟨Nat.zero_le _, fun fo hfo => ?_⟩
    have s0 := same_new (o := .lst []) hfo
    have h0 : upd H fo (.lst []) fo = some (.lst []) := upd_same
    generalize upd H fo (.lst []) = H0 at s0 h0 ⊢
    refine ⟨_, rfl, a, rfl, ⟨xs, SqT.of (s0 _ _ ha)⟩, ?_⟩
    have xl : xs.length = b.length := hx.1
    let ft : Nat → List (Str × Str) := fun i => (b.take i).flatMap fun s => (s.word, s.nm) :: s.kids.flatMap (srt n)
    refine for_it (walk_tup (xs := xs)) (fun i σ Hc => Same H Hc ∧ ∃ (us : List V) (x2 x3 : Option V), σ = [some (.ref a), some (.ref fo), x2, x3] ∧ Hc fo = some (.lst us) ∧ AG (fun z y => ∃ t, z = .ref t ∧ Hc t = some (.tup [.str y.1, .str y.2])) us (ft i))
      ⟨s0, [], _, _, rfl, h0, AG.nil⟩ (fun i σ Hc _ p' => SqT.of (p'.1 _ _ ha)) ?_ ?_
    · rintro i v σ Hc H' hi ⟨sm, us, x2, x3, rfl, hfc, hu⟩ ⟨rfl, hxi⟩
      obtain ⟨st, hst, hs⟩ := hx.2 i v hxi
      have il : i < b.length := (List.getElem?_eq_some_iff.mp hst).1
      obtain ⟨fk, fks⟩ := few st (List.mem_of_getElem? hst)
      have hs := StAt.same hs sm
      have step : ft (i + 1) = ft i ++ ((st.word, st.nm) :: st.kids.flatMap (srt n)) := flat_take hst
      have lft : us.length = (ft i).length := hu.1
      have hit : (ft (i + 1)).length ≤ 900 := Nat.le_trans (flat_take_le _ _) sz
      have lst_ : (ft i).length + 1 + (st.kids.flatMap (srt n)).length ≤ 900 := by
        rw [step, List.length_append, List.length_cons] at hit
        omega
      obtain ⟨as, ys, rfl, has⟩ := hs.head
      refine ⟨_, rfl, .inl ⟨rfl, _, SqL.of hfc⟩, _, rfl, as, _, 0, _, rfl, rfl, SqT.of has, atI_nat (j := 0) rfl, ?_⟩
      refine ta_same (v := .str st.nm) (fun Q' h' => ?_) fun H1 s1 => ?_
      · refine ⟨_, rfl, as, _, 0, _, rfl, rfl, SqT.of has, atI_nat (j := 0) rfl, small1000 (Nat.le_of_ble_eq_true rfl), fun tt htt => ⟨tt, _, rfl, .inr (SqT.of upd_same), rfl, rfl, _, rfl, ?_⟩⟩
        have s2 := same_new (o := .tup [.str "call", .str "note"]) htt
        match st, hs, has, h' with
        | .note z, ⟨_, e, ha'⟩, has, h' =>
          cases e
          exact iteT ⟨_, rfl, as, _, 1, _, rfl, rfl, SqT.of (s2 _ _ ha'), atI_nat (j := 1) rfl, h' _ s2⟩
        | .call z, ⟨_, e, ha'⟩, has, h' =>
          cases e
          exact iteT ⟨_, rfl, as, _, 1, _, rfl, rfl, SqT.of (s2 _ _ ha'), atI_nat (j := 1) rfl, h' _ s2⟩
        | .stay, _, has, h' => exact iteF (h' _ s2)
        | .again _ _ _, _, has, h' => exact iteF (h' _ s2)
        | .choose _, _, has, h' => exact iteF (h' _ s2)
        | .toss _, _, has, h' => exact iteF (h' _ s2)
      refine ⟨small1000 (Nat.le_of_ble_eq_true rfl), fun t ht => ?_⟩
      have s2 := s1.trans (same_new (o := .tup [.str st.word, .str st.nm]) ht)
      have ht2 : upd H1 t (.tup [.str st.word, .str st.nm]) t = some (.tup [.str st.word, .str st.nm]) := upd_same
      have hf2 := s2 _ _ hfc
      have s02 := sm.trans s2
      generalize upd H1 t (.tup [.str st.word, .str st.nm]) = H2 at s2 ht2 hf2 s02 ⊢
      refine ⟨fo, us, _, rfl, rfl, hf2, small1000 (by omega), ?_⟩
      have kd := Kt.upd (o := .lst (us ++ [V.ref t])) hf2
      have hf3 : upd H2 fo (.lst (us ++ [V.ref t])) fo = some (.lst (us ++ [V.ref t])) := upd_same
      have s03 : Same H (upd H2 fo (.lst (us ++ [V.ref t]))) := same_upd hfo s02
      have k3 := (Kt.same s2).trans kd
      have hs3 := k3.st hs
      have hu3 : AG (fun z y => ∃ t', z = .ref t' ∧ upd H2 fo (.lst (us ++ [V.ref t])) t' = some (.tup [.str y.1, .str y.2])) (us ++ [V.ref t]) (ft i ++ [(st.word, st.nm)]) := AG.snoc (hu.imp fun _ _ ⟨t', e1, e2⟩ => ⟨t', e1, k3.tup e2⟩) ⟨t, rfl, kd.tup ht2⟩
      generalize upd H2 fo (.lst (us ++ [V.ref t])) = H3 at hf3 s03 hs3 hu3 ⊢
      -- the bodies in it
      refine ⟨_, rfl, _, st, rfl, hs3, fk, fun ka ks HE nka sE hka hks => ⟨ka, rfl, ⟨ks, SqL.of hka⟩, ?_⟩⟩
      have kl : ks.length = st.kids.length := hks.1
      let gk : Nat → List (Str × Str) := fun j => (st.kids.take j).flatMap (srt n)
      refine for_it (walk_list (xs := ks)) (fun j σ Hx => Same H Hx ∧ Kt HE Hx ∧ Hx ka = some (.lst ks) ∧ ∃ (ws : List V) (x3 : Option V), σ = [some (.ref a), some (.ref fo), some (.ref as), x3] ∧ Hx fo = some (.lst ws) ∧ AG (fun z y => ∃ t, z = .ref t ∧ Hx t = some (.tup [.str y.1, .str y.2])) ws ((ft i ++ [(st.word, st.nm)]) ++ gk j))
        ⟨s03.trans sE, Kt.same (Same.refl _), hka, _, _, rfl, sE _ _ hf3, by
          show AG _ _ ((ft i ++ [(st.word, st.nm)]) ++ [])
          rw [List.append_nil]
          exact hu3.imp fun _ _ ⟨t', e1, e2⟩ => ⟨t', e1, sE _ _ e2⟩⟩ (fun j σ Hx _ p' => SqL.of p'.2.2.1) ?_ ?_
      · rintro j v σ Hx H' hj ⟨sx, kx, hkx, ws, x3, rfl, hfx, hw⟩ ⟨rfl, hkj⟩
        obtain ⟨kb, hkb, hb⟩ := hks.2 j v hkj
        have stepk : gk (j + 1) = gk j ++ srt n kb := flat_take hkb
        have lek : (gk (j + 1)).length ≤ (st.kids.flatMap (srt n)).length := flat_take_le _ _
        rw [stepk, List.length_append] at lek
        refine ⟨_, rfl, .inl ⟨rfl, _, SqL.of hfx⟩, _, rfl, _, kb, rfl, kx.bd hb, fks kb (List.mem_of_getElem? hkb), by omega, fun l2 zs HG nl2 sG hl2 hz => ?_⟩
        have lw : ws.length = (ft i).length + 1 + (gk j).length := by
          have := hw.1
          rw [List.length_append, List.length_append] at this
          exact this
        have lz : zs.length = (srt n kb).length := hz.1
        have hfG := sG _ _ hfx
        refine ⟨fo, l2, ws, zs, rfl, rfl, hfG, hl2, Nat.le_of_lt (small1000 (by omega)), ?_⟩
        have kG := Kt.upd (o := .lst (ws ++ zs)) hfG
        have nka' : ka ≠ fo := fun z => by rw [z, hf3] at nka; cases nka
        refine ⟨same_upd hfo (sx.trans sG), (kx.trans (Kt.same sG)).trans kG, by rw [upd_ne nka']; exact sG _ _ hkx, _, _, rfl, upd_same, ?_⟩
        rw [stepk, ← List.append_assoc]
        exact AG.app (hw.imp fun _ _ ⟨t', e1, e2⟩ => ⟨t', e1, kG.tup (sG _ _ e2)⟩) (hz.imp fun _ _ ⟨t', e1, e2⟩ => ⟨t', e1, kG.tup e2⟩)
      · rintro σ Hx ⟨sx, kx, hkx, ws, x3, rfl, hfx, hw⟩
        have e : gk ks.length = st.kids.flatMap (srt n) := by
          show (st.kids.take ks.length).flatMap _ = _
          rw [List.take_of_length_le (by rw [kl]; exact Nat.le_refl _)]
        rw [e, List.append_assoc] at hw
        refine ⟨sx, ws, _, _, rfl, hfx, ?_⟩
        rw [step]
        exact hw
    · rintro σ Hc ⟨sm, us, x2, x3, rfl, hfc, hu⟩
      have e : ft xs.length = srt (n + 1) b := by
        show (b.take xs.length).flatMap _ = _
        rw [List.take_of_length_le (by rw [xl]; exact Nat.le_refl _)]
        rfl
      rw [e] at hu
      exact ⟨_, rfl, q fo us Hc hfo sm hfc hu⟩
end
end FR
set_option Elab.async false
set_option linter.all false
set_option maxRecDepth 100000
set_option maxHeartbeats 1000000
/-! _law_sorts at every level; _law_choices -/
namespace FR
open PySem PySem.Spec PyProof.Rows L2
theorem tif_join {c : TT} {t u : TS} {D : Ends} {σ : L2.St} {H : Hp} {G : Hp → Prop} (h : ∀ Q' : L2.St → Hp → Prop, (∀ H', G H' → Q' σ H') → tIfS c t u { D with nx := Q' } σ H) (g : ∀ H', G H' → D.nx σ H') : tIfS c t u D σ H := h D.nx g
section
variable {P : Program} {w : World} {K : PySem.W.Frag} {mg : Str → Option Value} {base : Heap}
theorem ok_sorts {f : Addr} {fd : FuncData} (F : Fun K "_law_sorts" "_law_sorts" sLr f fd) (gI : ∀ n, Glo P w K mg base "_law_inner" 1 ["_law_statement_here"] (spLi n))
    (mS : mg "_law_sorts" = some (.ref f)) (kS : PySem.W.keepIn K (.ref f) = true) (bS : Binds K fd ["_law_body_here"] []) : ∀ n, FnOk P w K mg base CX0 (n + 1) f fd ["_law_body_here"] (spLr n)
  | 0 => by
    refine F.ok scLr (fun vs H Q E h => ?_) (fun cdv A outer s H vs Q E hr h => ?_)
    · obtain ⟨v, b, rfl, h, _⟩ := h
      exact h.elim
    · obtain ⟨v, b, rfl, h, _⟩ := h
      exact h.elim
  | n + 1 => ok_lr F (gI n) (ok_sorts F gI mS kS bS n) (by omega) mS kS bS
end
end FR
set_option Elab.async false
set_option linter.all false
set_option maxRecDepth 100000
set_option maxHeartbeats 1000000
/-! _law_noted; places and sorts -/
namespace FR
open PySem PySem.Spec PyProof.Rows L2
theorem zip_flat {α β : Type} (f : α → List β) : ∀ (l : List α) (i : Nat), ((l.zipIdx i).flatMap fun z => f z.1) = l.flatMap f
  | [], _ => rfl
  | x :: l, i => by
    show f x ++ ((l.zipIdx (i + 1)).flatMap fun z => f z.1) = f x ++ l.flatMap f
    rw [zip_flat f l]
theorem flat_congr {α β : Type} {f g : α → List β} : ∀ {l : List α}, (∀ x ∈ l, f x = g x) → l.flatMap f = l.flatMap g
  | [], _ => rfl
  | x :: l, h => by
    rw [List.flatMap_cons, List.flatMap_cons, h x List.mem_cons_self, flat_congr fun y hy => h y (List.mem_cons_of_mem _ hy)]
theorem map_flat {α β γ : Type} {f : α → List β} {g : β → γ} : ∀ {l : List α}, (l.flatMap f).map g = l.flatMap fun x => (f x).map g
  | [] => rfl
  | x :: l => by rw [List.flatMap_cons, List.map_append, map_flat, List.flatMap_cons]
theorem flat_flat {α β γ : Type} {f : α → List β} {g : β → List γ} : ∀ {l : List α}, (l.flatMap f).flatMap g = l.flatMap fun x => (f x).flatMap g
  | [] => rfl
  | x :: l => by rw [List.flatMap_cons, List.flatMap_append, flat_flat, List.flatMap_cons]
theorem flat_map {α β γ : Type} {f : α → β} {g : β → List γ} : ∀ {l : List α}, (l.map f).flatMap g = l.flatMap fun x => g (f x)
  | [] => rfl
  | x :: l => by rw [List.map_cons, List.flatMap_cons, flat_map, List.flatMap_cons]
theorem srt_placed : ∀ (n : Nat) (b : Bd) (p : List Nat), (placed n b p).map (fun y => (y.2.word, y.2.nm)) = srt n b
  | 0, _, _ => rfl
  | n + 1, b, p => by
    show (b.zipIdx.flatMap fun z => stP (placed n) z.1 (p ++ [z.2])).map _ = b.flatMap fun s => (s.word, s.nm) :: s.kids.flatMap (srt n)
    rw [map_flat, ← zip_flat (fun s : St => (s.word, s.nm) :: s.kids.flatMap (srt n)) b 0]
    refine flat_congr fun z _ => ?_
    show (z.1.word, z.1.nm) :: (z.1.kids.zipIdx.flatMap fun u => placed n u.1 (p ++ [z.2] ++ [u.2])).map _ = _
    rw [map_flat, ← zip_flat (srt n) z.1.kids 0]
    congr 1
    exact flat_congr fun u _ => srt_placed n u.1 _
theorem srt_len (n : Nat) (b : Bd) : (srt n b).length = cnt n b := by
  rw [← srt_placed n b [], List.length_map, placed_len]
def nts (b : Bd) : List Str := (srt 5 b).flatMap fun y => if y.1 = ("note" : Str) then [y.2] else []
theorem notes_allP (p : Pg) : notes (allP p) = p.flatMap fun x => nts x.2 := by
  unfold notes allP nts
  rw [flat_flat]
  refine flat_congr fun x _ => ?_
  rw [flat_map, ← srt_placed 5 x.2 [], flat_map]
theorem nts_len (b : Bd) : (nts b).length ≤ cnt 5 b := by
  rw [← srt_len]
  unfold nts
  generalize srt 5 b = l
  induction l with
  | nil => exact Nat.le_refl _
  | cons y l ih =>
    rw [List.flatMap_cons, List.length_append, List.length_cons]
    split
    · show 1 + _ ≤ _; omega
    · show 0 + _ ≤ _; omega
theorem allP_cnt (p : Pg) : (allP p).length = (p.map fun x => cnt 5 x.2).sum := by
  rw [allP_len]
  congr 1
  exact List.map_congr_left fun x _ => placed_len 5 x.2 []
theorem Prg.cnts {p : Pg} (h : Prg p) : (p.map fun x => cnt 5 x.2).sum ≤ 60 := by
  rw [← allP_cnt, allP_len]
  exact h.sz
end FR
set_option Elab.async false
set_option linter.all false
set_option maxRecDepth 100000
set_option maxHeartbeats 1000000
/-! _law_told -/
namespace FR
open PySem PySem.Spec PyProof.Rows L2
/-- data, at most n deep -/
def PlN (n : Nat) (d : PyData) : Prop := d.plain = true ∧ d.depth ≤ n
theorem PlN.pl {n : Nat} {d : PyData} (h : PlN n d) (le : n ≤ 60) : PlainD d := ⟨h.1, by have := h.2; omega⟩
theorem plainAll_of : ∀ {ds : List PyData}, (∀ d ∈ ds, d.plain = true) → PyData.plainAll ds = true
  | [], _ => rfl
  | d :: ds, h => by
    show (d.plain && PyData.plainAll ds) = true
    rw [h d List.mem_cons_self, plainAll_of fun y hy => h y (List.mem_cons_of_mem _ hy)]
    rfl
theorem depthAll_of {m : Nat} : ∀ {ds : List PyData}, (∀ d ∈ ds, d.depth ≤ m) → PyData.depthAll ds ≤ m
  | [], _ => Nat.zero_le _
  | d :: ds, h => by
    show max d.depth (PyData.depthAll ds) ≤ m
    exact Nat.max_le.mpr ⟨h d List.mem_cons_self, depthAll_of fun y hy => h y (List.mem_cons_of_mem _ hy)⟩
theorem PlN.tup {n : Nat} {ds : List PyData} (h : ∀ d ∈ ds, PlN n d) : PlN (n + 1) (.tuple ds) := ⟨plainAll_of fun d m => (h d m).1, by
  have := depthAll_of fun d m => (h d m).2
  show PyData.depthAll ds + 1 ≤ n + 1
  omega⟩
theorem PlN.lst {n : Nat} {ds : List PyData} (h : ∀ d ∈ ds, PlN n d) : PlN (n + 1) (.list ds) := ⟨plainAll_of fun d m => (h d m).1, by
  have := depthAll_of fun d m => (h d m).2
  show PyData.depthAll ds + 1 ≤ n + 1
  omega⟩
theorem PlN.str {n : Nat} (z : Str) : PlN n (.str z) := ⟨rfl, Nat.zero_le _⟩
theorem PlN.int {n : Nat} (i : Int) : PlN n (.int i) := ⟨rfl, Nat.zero_le _⟩
theorem PlN.up {n m : Nat} {d : PyData} (h : PlN n d) (le : n ≤ m) : PlN m d := ⟨h.1, Nat.le_trans h.2 le⟩
theorem all1 {n : Nat} {ds : List PyData} {d : PyData} (h : PlN n d) (g : ∀ x ∈ ds, PlN n x) : ∀ x ∈ d :: ds, PlN n x := fun x m => (List.mem_cons.mp m).elim (fun e => e ▸ h) (g x)
theorem all0 {n : Nat} : ∀ x ∈ ([] : List PyData), PlN n x := fun x m => absurd m List.not_mem_nil
theorem allM {α : Type} {n : Nat} {f : α → PyData} {l : List α} (h : ∀ x ∈ l, PlN n (f x)) : ∀ d ∈ l.map f, PlN n d := fun d m => by
  obtain ⟨x, hx, rfl⟩ := List.mem_map.mp m
  exact h x hx
def itD (x : Str × Bd) : PyData := .tuple [.str x.1, dB 5 x.2]
theorem itPl (x : Str × Bd) : PlN 16 (itD x) := .tup (all1 (PlN.str _) (all1 ⟨plainB 5 _, by have := depthB 5 x.2; omega⟩ all0))
theorem strPl (xs : List Str) : ∀ d ∈ xs.map PyData.str, PlN 0 d := allM fun z _ => PlN.str z
theorem dpStrs {K : PySem.W.Frag} {H : Hp} : ∀ xs : List Str, DpAll K H (xs.map V.str) (xs.map PyData.str)
  | [] => .nil
  | x :: xs => .cons (.str x) (dpStrs xs)
def ItAt (H : Hp) (v : V) (x : Str × Bd) : Prop := ∃ t w, v = .ref t ∧ H t = some (.tup [.str x.1, w]) ∧ BdAt 5 H w x.2
theorem dpIt {K : PySem.W.Frag} {H : Hp} {zs : List V} {ys : Pg} (h : AG (fun v x => ItAt H v x) zs ys) : DpAll K H zs (ys.map itD) :=
  dpAll (fun v x ⟨t, w, e, h1, h2⟩ => by rw [e]; exact .tup (.of h1) (.cons (.str _) (.cons (dpB 5 h2) .nil))) h
theorem eqv_nil {α : Type} (f : α → PyData) (l : List α) : PyData.eqv (.list (l.map f)) (.list []) = decide (l.length = 0) := by
  cases l with
  | nil => rfl
  | cons x l => rfl
theorem ItAt.tk {H H' : Hp} (k : Tk H H') {v : V} {x : Str × Bd} (h : ItAt H v x) : ItAt H' v x := by
  obtain ⟨t, w, e, h1, h2⟩ := h
  exact ⟨t, w, e, k.1 _ _ h1, k.bd h2⟩
theorem But.new {x : Addr} {H H' : Hp} (b : But x H H') {D : Addr} {o : HO} (f : H' D = none) : But x H (L2.upd H' D o) := b.trans (But.same (same_new f))
theorem iteNe {a b : V} {A B : Prop} (e : a = b) (h : B) : if (!decide (a = b)) = true then A else B := by
  subst e
  rw [decide_eq_true rfl]
  exact iteF h
theorem orNe {a b : V} {A B X : Prop} (e : a = b) (h : X) : if (!decide (a = b)) = true then (if true = true then A else B) else X := by
  subst e
  rw [decide_eq_true rfl]
  exact iteF h
/-- repr(bool) -/
theorem call_repr_bl {X : Cx} : CallR X (.builtin "repr") (fun xs H Q => ∃ b, xs = [.bl b] ∧ Q (.str (if b then "True" else "False")) H) := by
  intro pins s σ H xs us Q I r h
  obtain ⟨b, rfl, q⟩ := h
  obtain ⟨u, rfl, ru⟩ := vals1 r
  cases ru
  exact PySem.P.repr_of_bool ⟨.str _, H, I.tok _, ⟨_, rfl⟩, q⟩
end FR
set_option Elab.async false
set_option linter.all false
set_option maxRecDepth 100000
set_option maxHeartbeats 1000000
/-! check_free, check_closed, calls_of, is_whole, _able_more -/
namespace FR
open PySem PySem.Spec PyProof.Rows L2
abbrev sCf : Stmt := FR.top 34
abbrev NCf : List Str := ["free"]
theorem scCf : FnScope NCf ["free"] (defScope sCf) := ⟨rfl, rfl, rfl, by decide +kernel, rfl, by decide +kernel, by decide +kernel⟩
abbrev sCo : Stmt := FR.top 38
abbrev NCo : List Str := ["free", "name"]
theorem scCo : FnScope NCo ["free", "name"] (defScope sCo) := ⟨rfl, rfl, rfl, by decide +kernel, rfl, by decide +kernel, by decide +kernel⟩
theorem op_notIn_seqK {X : Cx} {K : PySem.W.Frag} (hK : X.K = K) : OpR X (compareOp .NotIn) (rIn K true) := by
  subst hK
  exact op_notIn_seq
theorem op_in_seqK {X : Cx} {K : PySem.W.Frag} (hK : X.K = K) : OpR X (compareOp .In) (rIn K false) := by
  subst hK
  exact op_in_seq
theorem pe_subOwnK {X : Cx} {K : PySem.W.Frag} {CX : CXT} {k : Nat} {f C : Addr} {fd : FuncData} {ps : List Str} {sp : Sp} {E : XK} {o e : Expr} {to te : TE} {pos : Pos} (hK : X.K = K) (D : Dun K C "__getitem__" f) (hfi : PySem.W.fnIn K f = true) (F : FnOk X.prog X.w K X.mg X.base CX k f fd ps sp) (hr : Room (k + 1) X.A) (hb : Binds K fd ps []) (hx : Passes CX X E) (ho : PE X o to) (he : PE X e te)
    (hsl : ∀ x i, subscripted e true (.ref x) i = runValue (.builtin "lifetime.subscript" ⟨[.ref x, i], []⟩) := by intro _ _; with_unfolding_all rfl) : PE X (.Subscript o e pos) (tSubOwn C sp E to te) := by
  subst hK
  exact pe_subOwn D hfi F hr hb hx ho he hsl
section
variable {P : Program} {w : World} {K : PySem.W.Frag} {mg : Str → Option Value} {base : Heap}
/-- a property with its promise -/
structure PMet (P : Program) (w : World) (K : PySem.W.Frag) (mg : Str → Option Value) (base : Heap) (C : Addr) (nm : Str) (n : Nat) (ps : List Str) (sp : Sp) where
  p : Addr
  f : Addr
  fd : FuncData
  o : PropOf K C nm p f
  G : FnOk P w K mg base CX0 n f fd ps sp
  b : Binds K fd ps []
def spCf (K : PySem.W.Frag) (C : Addr) : Sp := fun vs H Q _ => ∃ x p, vs = [.ref x] ∧ IsPg K C H x p ∧ Q .non H
theorem ok_cf {f C : Addr} {fd : FuncData} (F : Fun K "check_free" "check_free" sCf f fd) (R : PgC K C) (mi : mg "isinstance" = none) (mC : mg "Program" = some (.ref C)) (kYes : PySem.W.kitOne K (.ref C) (.ref C) = some true) : FnOk P w K mg base CX0 1 f fd ["free"] (spCf K C) := by
  refine F.ok scCf (fun vs H Q E h => ?_) (fun cdv A outer s H vs Q E hr h => ?_)
  · obtain ⟨x, p, rfl, _⟩ := h
    rfl
  · obtain ⟨x, p, rfl, ⟨dx, d, e, c, kvs, es, cs, hx, _⟩, q⟩ := h
    refine ⟨_, (pss_one (ps_if (pt_not (pt_val (pe_callB call_isi (by rfl) mi PyProof.Rows.boot_isinstance (pa_cons (pv 0) (pa_cons (pe_glob (v := .ref C) (by rfl) mC rfl) pa_nil))))) pss_never pss_nil)), ?_⟩
    exact ⟨_, rfl, _, _, _, _, true, rfl, .own C, .base (R.ty.ins hx), kYes, _, rfl, iteF q⟩
/-- what a procedure calls, ascending -/
def Asc (es xs : List Str) : Prop := sortedS es = true ∧ es.Nodup ∧ ∀ z, z ∈ es ↔ z ∈ xs
def spCo (K : PySem.W.Frag) (C : Addr) : Sp := fun vs H Q _ => ∃ x z p, vs = [.ref x, .str z] ∧ IsPg K C H x p ∧ Prg p ∧ (names p).Nodup ∧ z ∈ names p ∧ ∀ t es H', H t = none → Same H H' → H' t = some (.tup (es.map V.str)) → Asc es (callsOf (bodyOf p z)) → Q (.ref t) H'
theorem ok_co {f C : Addr} {fd : FuncData} (F : Fun K "calls_of" "calls_of" sCo f fd) (mt : mg "tuple" = none) (ms : mg "sorted" = none) (mst : mg "set" = none) (gCf : Glo P w K mg base "check_free" 1 ["free"] (spCf K C)) (gCn : Glo P w K mg base "check_name" 2 ["free", "name"] (spCn K C)) (gNc : Glo P w K mg base "_names_called" 8 ["body"] (spNc K))
    (mGt : Met P w K mg base C "__getitem__" 3 ["self", "at"] (spGt K C)) (hfi : PySem.W.fnIn K mGt.f = true) : FnOk P w K mg base CX0 9 f fd ["free", "name"] (spCo K C) := by
  refine F.ok scCo (fun vs H Q E h => ?_) (fun cdv A outer s H vs Q E hr h => ?_)
  · obtain ⟨x, z, p, rfl, _⟩ := h
    rfl
  · obtain ⟨x, z, p, rfl, hi, hp, hn, hz, q⟩ := h
    have hi0 := hi
    obtain ⟨dx, d, e, c, kvs, es, cs, hx, _⟩ := hi0
    refine ⟨_, (pss_cons (ps_expr (pe_call gCf.G (hr.mono (by decide)) (by rfl) gCf.m gCf.k gCf.b .nil pass0 (pa_cons (pv 0) pa_nil)))
      (pss_cons (ps_expr (pe_call gCn.G (hr.mono (by decide)) (by rfl) gCn.m gCn.k gCn.b .nil pass0 (pa_cons (pv 0) (pa_cons (pv 1) pa_nil))))
      (pss_one (ps_ret (pe_callTy call_tuple_of (by rfl) mt (by decide +kernel) (pa_cons (pe_callB (SX.cr_sortedTx rfl) (by rfl) ms (by decide +kernel) (pa_cons (pe_callTy (SX.cr_setOfTx rfl) (by rfl) mst (by decide +kernel) (pa_cons (pe_call gNc.G (hr.mono (by decide)) (by rfl) gNc.m gNc.k gNc.b .nil pass0 (pa_cons (pe_subOwnK (K := K) rfl mGt.D hfi mGt.G (hr.mono (by decide)) mGt.b pass0 (pv 0) (pv 1)) pa_nil)) pa_nil)) pa_nil)) pa_nil)))))), ?_⟩
    obtain ⟨bx, hbx, eb⟩ := List.mem_map.mp hz
    have ebz : bodyOf p z = bx.2 := by rw [← eb]; exact bodyOf_mem hn hbx
    obtain ⟨_, _, c60, fb⟩ := hp.ok bx hbx
    have pl60 : (placed 5 (bodyOf p z) []).length ≤ 60 := by rw [placed_len, ebz]; exact c60
    refine ⟨_, rfl, x, p, rfl, hi, _, rfl, _, rfl, x, z, p, rfl, hi, hz, ?_⟩
    refine ⟨_, rfl, _, rfl, x, dx, _, rfl, hx, x, z, p, rfl, hi, hn, hz, fun v hv => ?_⟩
    refine ⟨v, _, rfl, hv, by rw [ebz]; exact fb, by omega, fun l H1 s1 hl => ?_⟩
    have lc : (callsOf (bodyOf p z)).length ≤ 60 := by
      show ((ofWord 5 _ "call").map St.nm).length ≤ 60
      rw [List.length_map]
      exact Nat.le_trans (ofWord_len 5 _ _) pl60
    refine ⟨l, _, rfl, SqL.of hl, by unfold scanBound; omega, fun S hS => ?_⟩
    have s2 := s1.trans (same_new (o := SX.SetTO P w S (SX.gather (callsOf (bodyOf p z)))) hS)
    refine ⟨S, _, rfl, upd_same, Nat.lt_of_le_of_lt (SX.len_gather _) (by omega), fun es2 l2 pe se ne hl2 => ?_⟩
    have s3 := s2.trans (same_new (o := .lst (es2.map V.str)) hl2)
    refine ⟨l2, _, rfl, .inl ⟨SqL.of upd_same, fun r hr' => ?_⟩⟩
    exact q r es2 _ (none_of_same s3 hr') (s3.trans (same_new hr')) upd_same ⟨se, ne, fun y => (pe.mem_iff).trans SX.mem_gather⟩
end
end FR
set_option Elab.async false
set_option linter.all false
set_option maxRecDepth 100000
set_option maxHeartbeats 1000000
/-! _law_called, _law_can_end -/
namespace FR
open PySem PySem.Spec PyProof.Rows L2
abbrev sQc : Stmt := FR.top 56
abbrev NQc : List Str := ["_law_body_here", "_law_sort", "_law_name_here"]
theorem scQc : FnScope NQc ["_law_body_here"] (defScope sQc) := ⟨rfl, rfl, rfl, by decide +kernel, rfl, by decide +kernel, by decide +kernel⟩
def cls (b : Bd) : List Str := (srt 5 b).flatMap fun y => if y.1 = ("call" : Str) then [y.2] else []
theorem cls_len (b : Bd) : (cls b).length ≤ cnt 5 b := by
  rw [← srt_len]
  unfold cls
  generalize srt 5 b = l
  induction l with
  | nil => exact Nat.le_refl _
  | cons y l ih =>
    rw [List.flatMap_cons, List.length_append, List.length_cons]
    split
    · show 1 + _ ≤ _; omega
    · show 0 + _ ≤ _; omega
theorem calls_cls (b : Bd) : callsOf b = cls b := by
  unfold callsOf ofWord cls
  rw [← srt_placed 5 b []]
  generalize placed 5 b [] = l
  induction l with
  | nil => rfl
  | cons y l ih =>
    rw [List.map_cons, List.map_cons, List.flatMap_cons, ← ih, List.filter_cons]
    by_cases c : y.2.word = ("call" : Str)
    · rw [if_pos (decide_eq_true c), if_pos c]; rfl
    · rw [if_neg (fun z => c (of_decide_eq_true z)), if_neg c]; rfl
theorem inV_bls {b : Bool} : ∀ {bs : List Bool}, inV (.bl b) (bs.map V.bl) = bs.any (fun x => x == b)
  | [] => rfl
  | x :: bs => by
    have e : inV (.bl b) ((x :: bs).map V.bl) = (eqV (.bl x) (.bl b) || inV (.bl b) (bs.map V.bl)) := rfl
    rw [e, inV_bls]
    cases x <;> cases b <;> rfl
theorem flat_bls : ∀ {bs : List Bool}, (bs.map V.bl).all flatV = true
  | [] => rfl
  | _ :: bs => flat_bls (bs := bs)
/-- no stay, no call of an unknown procedure -/
def ok1 (S : List Str) : St → Bool
  | .stay => false
  | .call z => decide (z ∈ S)
  | _ => true
section
variable {P : Program} {w : World} {K : PySem.W.Frag} {mg : Str → Option Value} {base : Heap}
def spQc : Sp := fun vs H Q _ => ∃ v b, vs = [v] ∧ BdAt 5 H v b ∧ FewB 5 b ∧ cnt 5 b ≤ 60 ∧ ∀ l es H', H l = none → Same H H' → H' l = some (.lst (es.map V.str)) → Asc es (callsOf b) → Q (.ref l) H'
theorem ok_qc {f : Addr} {fd : FuncData} (F : Fun K "_law_called" "_law_called" sQc f fd) (ms : mg "sorted" = none) (mst : mg "set" = none) (gS : Glo P w K mg base "_law_sorts" 6 ["_law_body_here"] (spLr 5)) : FnOk P w K mg base CX0 7 f fd ["_law_body_here"] spQc := by
  refine F.ok scQc (fun vs H Q E h => ?_) (fun cdv A outer s H vs Q E hr h => ?_)
  · obtain ⟨v, b, rfl, _⟩ := h
    rfl
  · obtain ⟨v, b, rfl, hb, few, c60, q⟩ := h
    refine ⟨_, (pss_one (ps_ret (pe_callB (SX.cr_sortedTx rfl) (by rfl) ms (by decide +kernel) (pa_cons (pe_callTy (SX.cr_setOfTx rfl) (by rfl) mst (by decide +kernel) (pa_cons (pe_lc (X := (cxOf CX0 P w K mg base NQc "_law_called" (defScope sQc) f cdv A outer s H E).nox) (own := [("_law_sort", 1), ("_law_name_here", 2)]) (g := (gTup K 2 (gCons (gName 1) (gCons (gName 2) gNil)))) rfl scQc.nd (pi_list (pe_call gS.G (hr.mono (by decide)) (by rfl) gS.m gS.k gS.b .nil pass0 (pa_cons (pv 0) pa_nil))) (blkOk_by (N := NQc) (sc := defScope sQc) (by decide +kernel)) (fun _ _ _ _ _ => (pg_tupK (K := K) rfl rfl (pgs_cons (pg_name (i := 1) scQc.nd rfl (.inl rfl)) (pgs_cons (pg_name (i := 2) scQc.nd rfl (.inl rfl)) pgs_nil)))) (fun _ _ _ _ _ => (pts_one (pt_cmpR op_eq (pv 1) pe_str (nomark _)))) (fun _ _ _ _ _ => (pv 2))) pa_nil)) pa_nil)))), ?_⟩
    refine ⟨_, rfl, v, b, rfl, hb, few, by rw [srt_len]; omega, fun l us H2 nl s2 hl hu => ⟨l, rfl, ⟨_, SqL.of hl⟩, fun D hD => ?_⟩⟩
    have lu : us.length = (srt 5 b).length := hu.1
    have lc := cls_len b
    refine lc_list (xs := us) (fun j Hx => Same H2 Hx ∧ Hx D = some (.lst ((((srt 5 b).take j).flatMap fun y => if y.1 = ("call" : Str) then [y.2] else []).map V.str))) ⟨same_new hD, upd_same⟩ (fun j Hx _ p' => SqL.of (p'.1 _ _ hl)) ?_ ?_
    · rintro j w0 Hx hj ⟨sx, hDx⟩
      obtain ⟨yy, hyy, t', rfl, ht'⟩ := hu.2 j w0 hj
      have ht' := sx _ _ ht'
      have stj : (((srt 5 b).take (j + 1)).flatMap fun y => if y.1 = ("call" : Str) then [y.2] else []) = (((srt 5 b).take j).flatMap fun y => if y.1 = ("call" : Str) then [y.2] else []) ++ (if yy.1 = ("call" : Str) then [yy.2] else []) := flat_take hyy
      have lt : (((srt 5 b).take j).flatMap fun y => if y.1 = ("call" : Str) then [y.2] else []).length ≤ 60 := Nat.le_trans (flat_take_le _ _) (Nat.le_trans lc c60)
      refine ⟨t', _, rfl, SqT.of ht', rfl, _, _, rfl, _, _, rfl, rfl, rfl, ?_⟩
      refine ⟨_, rfl, rfl, _, rfl, ?_⟩
      show if decide (V.str yy.1 = V.str "call") = true then _ else _
      rw [dec_str]
      refine ite2 (fun hw => ?_) (fun hw => ?_)
      · have hw := of_decide_eq_true hw
        rw [if_pos hw] at stj
        refine ⟨_, rfl, _, hDx, small1000 (by rw [List.length_map]; omega), same_upd hD sx, ?_⟩
        rw [stj, List.map_append]
        exact upd_same
      · have hw : ¬ yy.1 = ("call" : Str) := fun z => hw (decide_eq_true z)
        rw [if_neg hw, List.append_nil] at stj
        refine ⟨sx, ?_⟩
        rw [stj]
        exact hDx
    · rintro Hx ⟨sx, hDx⟩
      rw [List.take_of_length_le (by omega)] at hDx
      have hDx : Hx D = some (.lst ((cls b).map V.str)) := hDx
      refine ⟨D, _, rfl, SqL.of hDx, by unfold scanBound; omega, fun S hS => ?_⟩
      have s3 := (s2.trans sx).trans (same_new (o := SX.SetTO P w S (SX.gather (cls b))) hS)
      refine ⟨S, _, rfl, upd_same, Nat.lt_of_le_of_lt (SX.len_gather _) (by omega), fun es2 l2 pe se ne hl2 => ?_⟩
      have s4 := s3.trans (same_new (o := .lst (es2.map V.str)) hl2)
      exact q l2 es2 _ (none_of_same s3 hl2) s4 upd_same ⟨se, ne, fun y => by rw [calls_cls]; exact (pe.mem_iff).trans SX.mem_gather⟩
end
end FR
set_option Elab.async false
set_option linter.all false
set_option maxRecDepth 100000
set_option maxHeartbeats 1000000
/-! what a procedure reaches -/
namespace FR
open PySem PySem.Spec PyProof.Rows L2
inductive Reach (p : Pg) (z : Str) : Str → Prop where
  | refl : Reach p z z
  | step {y c : Str} : Reach p z y → c ∈ callsOf (bodyOf p y) → Reach p z c
theorem Reach.trans {p : Pg} {x y z : Str} (a : Reach p x y) (b : Reach p y z) : Reach p x z := by
  induction b with
  | refl => exact a
  | step _ h ih => exact ih.step h
theorem Reach.names {p : Pg} (hp : Prg p) (hn : (names p).Nodup) {z y : Str} (hz : z ∈ names p) (h : Reach p z y) : y ∈ names p := by
  induction h with
  | refl => exact hz
  | step _ hc ih =>
    obtain ⟨b, hb, e⟩ := List.mem_map.mp ih
    rw [← e, bodyOf_mem hn hb] at hc
    exact hp.cl b hb _ hc
/-- what is reached, ascending -/
def Rch (p : Pg) (z : Str) (es : List Str) : Prop := sortedS es = true ∧ es.Nodup ∧ ∀ y, y ∈ es ↔ Reach p z y
theorem Rch.eq {p : Pg} {z : Str} {es fs : List Str} (a : Rch p z es) (b : Rch p z fs) : es = fs := sorted_nodup a.2.1 b.2.1 (fun y => (a.2.2 y).trans (b.2.2 y).symm) a.1 b.1
theorem reach_all {p : Pg} {z : Str} {F : List Str} (hz : z ∈ F) (hr : ∀ y ∈ F, Reach p z y) (hc : ∀ y ∈ F, ∀ c ∈ callsOf (bodyOf p y), c ∈ F) : ∀ y, y ∈ F ↔ Reach p z y := fun y => by
  refine ⟨hr y, fun h => ?_⟩
  induction h with
  | refl => exact hz
  | step _ h ih => exact hc _ ih _ h
theorem nodup_le : ∀ {l m : List Str}, l.Nodup → (∀ z ∈ l, z ∈ m) → l.length ≤ m.length
  | [], _, _, _ => Nat.zero_le _
  | x :: l, m, h, s => by
    obtain ⟨h1, h2⟩ := List.nodup_cons.mp h
    have hx := s x List.mem_cons_self
    have le := nodup_le (m := m.erase x) h2 fun z hz => (List.mem_erase_of_ne (fun (e : z = x) => h1 (e ▸ hz))).mpr (s z (List.mem_cons_of_mem _ hz))
    rw [List.length_erase_of_mem hx] at le
    have := List.length_pos_of_mem hx
    rw [List.length_cons]
    omega
end FR
set_option Elab.async false
set_option linter.all false
set_option maxRecDepth 100000
set_option maxHeartbeats 1000000
/-! reaches -/
namespace FR
open PySem PySem.Spec PyProof.Rows L2
abbrev sRa : Stmt := FR.top 40
abbrev NRa : List Str := ["free", "name", "found", "waiting", "last", "other"]
theorem scRa : FnScope NRa ["free", "name"] (defScope sRa) := ⟨rfl, rfl, rfl, by decide +kernel, rfl, by decide +kernel, by decide +kernel⟩
section
variable {P : Program} {w : World} {K : PySem.W.Frag} {mg : Str → Option Value} {base : Heap}
def spRa (K : PySem.W.Frag) (C : Addr) : Sp := fun vs H Q _ => ∃ x z p, vs = [.ref x, .str z] ∧ IsPg K C H x p ∧ Prg p ∧ (names p).Nodup ∧ z ∈ names p ∧ ∀ t es H', H t = none → Same H H' → H' t = some (.tup (es.map V.str)) → Rch p z es → Q (.ref t) H'
theorem ok_ra {f C : Addr} {fd : FuncData} (F : Fun K "reaches" "reaches" sRa f fd) (ml : mg "len" = none) (mt : mg "tuple" = none) (ms : mg "sorted" = none) (gCf : Glo P w K mg base "check_free" 1 ["free"] (spCf K C)) (gCn : Glo P w K mg base "check_name" 2 ["free", "name"] (spCn K C)) (gCo : Glo P w K mg base "calls_of" 9 ["free", "name"] (spCo K C)) : FnOk P w K mg base CX0 10 f fd ["free", "name"] (spRa K C) := by
  refine F.ok scRa (fun vs H Q E h => ?_) (fun cdv A outer s H vs Q E hr h => ?_)
  · obtain ⟨x, z, p, rfl, _⟩ := h
    rfl
  · obtain ⟨x, z, p, rfl, hi, hp, hn, hz, q⟩ := h
    refine ⟨_, (pss_cons (ps_expr (pe_call gCf.G (hr.mono (by decide)) (by rfl) gCf.m gCf.k gCf.b .nil pass0 (pa_cons (pv 0) pa_nil)))
      (pss_cons (ps_expr (pe_call gCn.G (hr.mono (by decide)) (by rfl) gCn.m gCn.k gCn.b .nil pass0 (pa_cons (pv 0) (pa_cons (pv 1) pa_nil))))
      (pss_cons (ps_set (i := 2) scRa.nd rfl (Or.inl rfl) (pe_lst (pa_cons (pv 1) pa_nil)))
      (pss_cons (ps_set (i := 3) scRa.nd rfl (Or.inl rfl) (pe_lst (pa_cons (pv 1) pa_nil)))
      (pss_cons (ps_while PassesOwn.never (pt_cmpR op_gt (pe_callB call_len_seq (by rfl) ml PySem.boot_len (pa_cons (pv 3) pa_nil)) pe_int (nomark _)) (pss_cons (ps_set (i := 4) scRa.nd rfl (Or.inl rfl) (pe_bm0 PySem.F.plainAttrs_list PySem.F.slot_list_pop PySem.F.type_list_pop mt_pop (pv 3)))
      (pss_one (ps_for PassesOwn.never rfl (pi_tup (pe_call gCo.G (hr.mono (by decide)) (by rfl) gCo.m gCo.k gCo.b .nil pass0 (pa_cons (pv 0) (pa_cons (pv 4) pa_nil)))) (pg_name (i := 5) scRa.nd rfl (.inl rfl)) (pss_one (ps_if (pt_cmpR op_notIn_seq (pv 5) (pv 2) rfl) (pss_cons (ps_expr (pe_bm PySem.F.plainAttrs_list PySem.F.slot_list_append PySem.F.type_list_append mt_append (pv 2) (pa_cons (pv 5) pa_nil)))
      (pss_one (ps_expr (pe_bm PySem.F.plainAttrs_list PySem.F.slot_list_append PySem.F.type_list_append mt_append (pv 3) (pa_cons (pv 5) pa_nil))))) pss_nil))))))
      (pss_one (ps_ret (pe_callTy call_tuple_of (by rfl) mt (by decide +kernel) (pa_cons (pe_callB cr_sortedS (by rfl) ms (by decide +kernel) (pa_cons (pv 2) pa_nil)) pa_nil))))))))), ?_⟩
    have hi0 := hi
    obtain ⟨dx, _, _, _, _, _, _, hx, _⟩ := hi0
    refine ⟨_, rfl, x, p, rfl, hi, _, rfl, _, rfl, x, z, p, rfl, hi, hz, ?_⟩
    refine ⟨_, rfl, small1000 (Nat.le_of_ble_eq_true rfl), fun fo hfo => ?_⟩
    have s1 := same_new (o := .lst [.str z]) hfo
    have h1 : upd H fo (.lst [.str z]) fo = some (.lst (([z] : List Str).map V.str)) := upd_same
    generalize upd H fo (.lst [.str z]) = H1 at s1 h1 ⊢
    refine ⟨_, rfl, small1000 (Nat.le_of_ble_eq_true rfl), fun wa hwa => ?_⟩
    have s2 := same_new (o := .lst [.str z]) hwa
    have h2 : upd H1 wa (.lst [.str z]) wa = some (.lst (([z] : List Str).map V.str)) := upd_same
    generalize upd H1 wa (.lst [.str z]) = H2 at s2 h2 ⊢
    have nwf : wa ≠ fo := fun e => by rw [e, h1] at hwa; cases hwa
    have f2 := s2 _ _ h1
    have i2 := (hi.same s1).same s2
    have l8 := hp.len.2
    have s12 := s1.trans s2
    -- found and waiting
    have mle : ∀ {F : List Str}, F.Nodup → (∀ y ∈ F, Reach p z y) → F.length ≤ p.length := fun {F} n r => by
      have := nodup_le n fun y hy => (r y hy).names hp hn hz
      rwa [List.length_map] at this
    have app : ∀ (F : List Str) (c : Str), F.map V.str ++ [V.str c] = (F ++ [c]).map V.str := fun F c => by rw [List.map_append]; rfl
    have snd : ∀ {F : List Str} {c : Str}, F.Nodup → c ∉ F → (F ++ [c]).Nodup := fun {F c} n h => List.nodup_append.mpr ⟨n, List.nodup_cons.mpr ⟨List.not_mem_nil, List.nodup_nil⟩, fun x hx y hy e => h (by rw [← List.mem_singleton.mp hy, ← e]; exact hx)⟩
    have hwa0 : H wa = none := none_of_same s1 hwa
    refine ⟨fun m σ Hc => ∃ (F W : List Str) (x4 x5 : Option V), σ = [some (.ref x), some (.str z), some (.ref fo), some (.ref wa), x4, x5] ∧ Same H Hc ∧ Hc fo = some (.lst (F.map V.str)) ∧ Hc wa = some (.lst (W.map V.str)) ∧ (F.Nodup ∧ (∀ y ∈ F, Reach p z y) ∧ z ∈ F) ∧ (W.Nodup ∧ ∀ y ∈ W, y ∈ F) ∧ (∀ y ∈ F, y ∉ W → ∀ c ∈ callsOf (bodyOf p y), c ∈ F) ∧ m + 2 * F.length = 2 * p.length + W.length,
      ⟨2 * p.length - 1, [z], [z], _, _, rfl, s12, f2, h2, ⟨by simp, fun y hy => by rw [List.mem_singleton.mp hy]; exact .refl, List.mem_singleton.mpr rfl⟩, ⟨by simp, fun y hy => hy⟩, (fun y hy h => absurd hy h), by have := hp.len.1; show 2 * p.length - 1 + 2 = 2 * p.length + 1; omega⟩, ?_⟩
    rintro m σ Hc ⟨F, W, x4, x5, rfl, sc, hf, hw, ⟨fn, fr, fz⟩, ⟨wn, wf⟩, cl, hm⟩
    have lF := mle fn fr
    have lW := nodup_le wn wf
    refine ⟨_, rfl, wa, _, rfl, .inl (SqL.of hw), _, _, rfl, rfl, _, rfl, ite2 (fun h0 => ?_) (fun h0 => ?_)⟩
    · refine ⟨fun σ' H' => ∃ m', m' < m ∧ ∃ (F W : List Str) (x4 x5 : Option V), σ' = [some (.ref x), some (.str z), some (.ref fo), some (.ref wa), x4, x5] ∧ Same H H' ∧ H' fo = some (.lst (F.map V.str)) ∧ H' wa = some (.lst (W.map V.str)) ∧ (F.Nodup ∧ (∀ y ∈ F, Reach p z y) ∧ z ∈ F) ∧ (W.Nodup ∧ ∀ y ∈ W, y ∈ F) ∧ (∀ y ∈ F, y ∉ W → ∀ c ∈ callsOf (bodyOf p y), c ∈ F) ∧ m' + 2 * F.length = 2 * p.length + W.length, fun σ' H' h => h, ?_⟩
      have w0 : W ≠ [] := fun e => by
        rw [e] at h0
        exact absurd h0 (by decide)
      obtain ⟨W0, y, rfl⟩ : ∃ W0 y, W = W0 ++ [y] := ⟨W.dropLast, W.getLast w0, (List.dropLast_concat_getLast w0).symm⟩
      have em : (W0 ++ [y]).map V.str = W0.map V.str ++ [V.str y] := (app W0 y).symm
      rw [em] at hw
      refine ⟨_, rfl, .inl ⟨rfl, _, SqL.of hw⟩, wa, _, .str y, rfl, rfl, hw, by simp, ?_⟩
      have edl : (W0.map V.str ++ [V.str y]).dropLast = W0.map V.str := by simp
      rw [edl]
      have s4 : Same H (upd Hc wa (.lst (W0.map V.str))) := same_upd hwa0 sc
      have hw4 : upd Hc wa (.lst (W0.map V.str)) wa = some (.lst (W0.map V.str)) := upd_same
      have hf4 : upd Hc wa (.lst (W0.map V.str)) fo = some (.lst (F.map V.str)) := by rw [upd_ne (Ne.symm nwf)]; exact hf
      generalize upd Hc wa (.lst (W0.map V.str)) = H4 at s4 hw4 hf4 ⊢
      have yF : y ∈ F := wf y (List.mem_append_right _ List.mem_cons_self)
      have yr := fr y yF
      have yn := yr.names hp hn hz
      refine ⟨_, rfl, _, rfl, x, y, p, rfl, hi.same s4, hp, hn, yn, fun t es H5 nt s5 ht asc => ⟨t, rfl, ⟨_, SqT.of ht⟩, ?_⟩⟩
      have s05 := s4.trans s5
      have ntf : t ≠ fo := fun e => by rw [e, hf4] at nt; cases nt
      have ntw : t ≠ wa := fun e => by rw [e, hw4] at nt; cases nt
      have wn0 : W0.Nodup := (List.nodup_append.mp wn).1
      have yW0 : y ∉ W0 := fun h => (List.nodup_append.mp wn).2.2 y h y List.mem_cons_self rfl
      rw [List.length_append] at hm
      have hm : m + 2 * F.length = 2 * p.length + (W0.length + 1) := hm
      refine for_it (walk_tup (xs := es.map V.str)) (fun i σ Hx => Same H Hx ∧ Hx t = some (.tup (es.map V.str)) ∧ ∃ (F' W' : List Str) (x5 : Option V), σ = [some (.ref x), some (.str z), some (.ref fo), some (.ref wa), some (.str y), x5] ∧ Hx fo = some (.lst (F'.map V.str)) ∧ Hx wa = some (.lst (W'.map V.str)) ∧ (F'.Nodup ∧ (∀ y ∈ F', Reach p z y) ∧ (∀ c ∈ F, c ∈ F')) ∧ (W'.Nodup ∧ (∀ y ∈ W', y ∈ F') ∧ ∀ c ∈ F', c ∈ F ∨ c ∈ W') ∧ ((∀ c ∈ W', c ∈ W0 ∨ c ∉ F) ∧ ∀ c ∈ W0, c ∈ W') ∧ (∀ c ∈ es.take i, c ∈ F') ∧ F'.length + W0.length = F.length + W'.length)
        ⟨s05, ht, F, W0, _, rfl, s5 _ _ hf4, s5 _ _ hw4, ⟨fn, fr, fun _ h => h⟩, ⟨wn0, fun c h => wf c (List.mem_append_left _ h), fun c h => .inl h⟩, ⟨fun c h => .inl h, fun c h => h⟩, (fun c h => absurd h List.not_mem_nil), rfl⟩ (fun i σ Hx _ p' => SqT.of p'.2.1) ?_ ?_
      · rintro i v0 σ Hx H'' hii ⟨sx, htx, F', W', x5, rfl, hfx, hwx, ⟨fn', fr', ff'⟩, ⟨wn', wf', fw'⟩, ⟨wc', w0'⟩, tk, le⟩ ⟨rfl, hv0⟩
        obtain ⟨c, hc, rfl⟩ : ∃ c, es[i]? = some c ∧ v0 = .str c := by
          rw [List.getElem?_map] at hv0
          cases e : es[i]? with
          | none => rw [e] at hv0; cases hv0
          | some c => rw [e] at hv0; cases hv0; exact ⟨c, rfl, rfl⟩
        have mc : c ∈ callsOf (bodyOf p y) := (asc.2.2 c).mp (List.mem_of_getElem? hc)
        have lF' := mle fn' fr'
        have lW' := nodup_le wn' wf'
        have ein : inV (.str c) (F'.map V.str) = decide (c ∈ F') := inV_strs
        refine ⟨_, rfl, _, rfl, fo, _, rfl, .inl (SqL.of hfx), rfl, flat_strs, _, rfl, ite2 (fun e2 => ?_) (fun e2 => ?_)⟩
        · have e2 : (!decide (c ∈ F')) = true := by rw [← ein]; exact e2
          rw [Bool.not_eq_true', decide_eq_false_iff_not] at e2
          refine ⟨_, rfl, .inl ⟨rfl, _, SqL.of hfx⟩, _, rfl, fo, _, _, rfl, rfl, hfx, small1000 (by rw [List.length_map]; omega), ?_⟩
          rw [app]
          have s6 : Same H (upd H'' fo (.lst ((F' ++ [c]).map V.str))) := same_upd hfo sx
          have hf6 : upd H'' fo (.lst ((F' ++ [c]).map V.str)) fo = some (.lst ((F' ++ [c]).map V.str)) := upd_same
          have hw6 : upd H'' fo (.lst ((F' ++ [c]).map V.str)) wa = some (.lst (W'.map V.str)) := by rw [upd_ne nwf]; exact hwx
          have ht6 : upd H'' fo (.lst ((F' ++ [c]).map V.str)) t = some (.tup (es.map V.str)) := by rw [upd_ne ntf]; exact htx
          generalize upd H'' fo (.lst ((F' ++ [c]).map V.str)) = H6 at s6 hf6 hw6 ht6 ⊢
          refine ⟨_, rfl, .inl ⟨rfl, _, SqL.of hw6⟩, _, rfl, wa, _, _, rfl, rfl, hw6, small1000 (by rw [List.length_map]; omega), ?_⟩
          rw [app]
          refine ⟨same_upd hwa0 s6, by rw [upd_ne ntw]; exact ht6, F' ++ [c], W' ++ [c], _, rfl, by rw [upd_ne (Ne.symm nwf)]; exact hf6, upd_same, ⟨snd fn' e2, fun d hd => ?_, fun d hd => List.mem_append_left _ (ff' d hd)⟩, ⟨snd wn' (fun h => e2 (wf' c h)), fun d hd => ?_, fun d hd => ?_⟩, ⟨fun d hd => ?_, fun d hd => List.mem_append_left _ (w0' d hd)⟩, fun d hd => ?_, by rw [List.length_append, List.length_append]; show _ + 1 + _ = _ + (_ + 1); omega⟩
          · rcases List.mem_append.mp hd with h | h
            · exact fr' d h
            · rw [List.mem_singleton.mp h]; exact yr.step mc
          · rcases List.mem_append.mp hd with h | h
            · exact List.mem_append_left _ (wf' d h)
            · exact List.mem_append_right _ h
          · rcases List.mem_append.mp hd with h | h
            · exact (fw' d h).imp id (List.mem_append_left _)
            · exact .inr (List.mem_append_right _ h)
          · rcases List.mem_append.mp hd with h | h
            · exact wc' d h
            · rw [List.mem_singleton.mp h]; exact .inr fun h' => e2 (ff' c h')
          · rw [take_snoc hc] at hd
            rcases List.mem_append.mp hd with h | h
            · exact List.mem_append_left _ (tk d h)
            · exact List.mem_append_right _ h
        · have e2 : c ∈ F' := by
            by_cases h : c ∈ F'
            · exact h
            · exact absurd (show (!inV (.str c) (F'.map V.str)) = true by rw [ein, decide_eq_false h]; rfl) e2
          refine ⟨sx, htx, F', W', _, rfl, hfx, hwx, ⟨fn', fr', ff'⟩, ⟨wn', wf', fw'⟩, ⟨wc', w0'⟩, fun d hd => ?_, le⟩
          rw [take_snoc hc] at hd
          rcases List.mem_append.mp hd with h | h
          · exact tk d h
          · rw [List.mem_singleton.mp h]; exact e2
      · rintro σ Hx ⟨sx, htx, F', W', x5, rfl, hfx, hwx, ⟨fn', fr', ff'⟩, ⟨wn', wf', fw'⟩, ⟨wc', w0'⟩, tk, le⟩
        rw [List.take_of_length_le (by rw [List.length_map]; exact Nat.le_refl _)] at tk
        have lF' := mle fn' fr'
        have lW' := nodup_le wn' wf'
        have lFF := nodup_le fn ff'
        refine ⟨2 * p.length + W'.length - 2 * F'.length, by omega, F', W', _, _, rfl, sx, hfx, hwx, ⟨fn', fr', ff' z fz⟩, ⟨wn', wf'⟩, fun d hd hw' c hc => ?_, by omega⟩
        rcases fw' d hd with h | h
        · by_cases e : d = y
          · subst e
            exact tk c ((asc.2.2 c).mpr hc)
          · refine ff' c (cl d h (fun h' => ?_) c hc)
            rcases List.mem_append.mp h' with h' | h'
            · exact hw' (w0' d h')
            · exact e (List.mem_singleton.mp h')
        · exact absurd h hw'
    · have W0 : W = [] := by
        cases W with
        | nil => rfl
        | cons a l =>
          refine absurd (decide_eq_true ?_) h0
          show (0 : Int) < (((a :: l).map V.str).length : Nat)
          rw [List.length_map, List.length_cons]
          omega
      subst W0
      have all := reach_all fz fr fun y hy c hc => cl y hy List.not_mem_nil c hc
      refine ⟨_, rfl, fo, F, rfl, SqL.of hf, by omega, fun es l pe se hl => ?_⟩
      refine ⟨l, _, rfl, .inl ⟨SqL.of upd_same, fun t ht => ?_⟩⟩
      have s3 := sc.trans (same_new (o := .lst (es.map V.str)) hl)
      exact q t es _ (none_of_same s3 ht) (s3.trans (same_new ht)) upd_same ⟨se, pe.symm.nodup fn, fun y => (pe.mem_iff).trans (all y)⟩
end
end FR
set_option Elab.async false
set_option linter.all false
set_option maxRecDepth 100000
set_option maxHeartbeats 1000000
/-! _law_reached -/
namespace FR
open PySem PySem.Spec PyProof.Rows L2
abbrev sRe : Stmt := FR.top 57
abbrev NRe : List Str := ["_law_bodies_here", "_law_start", "_law_found", "_law_waits", "_law_name_here"]
theorem scRe : FnScope NRe ["_law_bodies_here", "_law_start"] (defScope sRe) := ⟨rfl, rfl, rfl, by decide +kernel, rfl, by decide +kernel, by decide +kernel⟩
theorem rd_same {H H' : Hp} {a : Addr} {u : HO} (s : Same H H') (h : Rd H a u) : Rd H' a u := h.imp (fun e => s _ _ e) fun ⟨o, e⟩ => ⟨o, s _ _ e⟩
section
variable {P : Program} {w : World} {K : PySem.W.Frag} {mg : Str → Option Value} {base : Heap}
def spRe : Sp := fun vs H Q _ => ∃ t z kvs p, vs = [.ref t, .str z] ∧ Rd H t (.dK kvs) ∧ PrgK H kvs p ∧ Prg p ∧ (names p).Nodup ∧ z ∈ names p ∧ ∀ l es H', H l = none → Same H H' → H' l = some (.lst (es.map V.str)) → Rch p z es → Q (.ref l) H'
theorem ok_re {f : Addr} {fd : FuncData} (F : Fun K "_law_reached" "_law_reached" sRe f fd) (ms : mg "sorted" = none) (gQ : Glo P w K mg base "_law_called" 7 ["_law_body_here"] spQc) : FnOk P w K mg base CX0 8 f fd ["_law_bodies_here", "_law_start"] spRe := by
  refine F.ok scRe (fun vs H Q E h => ?_) (fun cdv A outer s H vs Q E hr h => ?_)
  · obtain ⟨t, z, kvs, p, rfl, _⟩ := h
    rfl
  · obtain ⟨t, z, kvs, p, rfl, ht, hk, hp, hn, hz, q⟩ := h
    refine ⟨_, (pss_cons (ps_par (i := 2) (j := 3) (by rfl) scRe.nd rfl rfl (by decide) rfl rfl (pa_cons (pe_lst pa_nil) (pa_cons (pe_lst (pa_cons (pv 1) pa_nil)) pa_nil)) (by rfl))
      (pss_cons (ps_while PassesOwn.never (pt_cmpR (op_neP (K := K) rfl hr.units) (pv 3) (pe_lst pa_nil) (nomark _)) (pss_cons (ps_set (i := 4) scRe.nd rfl (Or.inl rfl) (pe_bm0 PySem.F.plainAttrs_list PySem.F.slot_list_pop PySem.F.type_list_pop mt_pop (pv 3)))
      (pss_one (ps_if (pt_cmpR op_notIn_seq (pv 4) (pv 2) rfl) (pss_cons (ps_expr (pe_bm PySem.F.plainAttrs_list PySem.F.slot_list_append PySem.F.type_list_append mt_append (pv 2) (pa_cons (pv 4) pa_nil)))
      (pss_one (ps_expr (pe_bm PySem.F.plainAttrs_list PySem.F.slot_list_extend PySem.F.type_list_extend mt_extend (pv 3) (pa_cons (pe_call gQ.G (hr.mono (by decide)) (by rfl) gQ.m gQ.k gQ.b .nil pass0 (pa_cons (pe_dget (lt1_of hr.units) (pv 0) (pv 4) (fun _ _ => rfl)) pa_nil)) pa_nil))))) pss_nil))))
      (pss_one (ps_ret (pe_callB cr_sortedS (by rfl) ms (by decide +kernel) (pa_cons (pv 2) pa_nil)))))), ?_⟩
    have l8 := hp.len.2
    refine ⟨Nat.zero_le _, fun fo hfo => ?_⟩
    have s1 := same_new (o := .lst []) hfo
    have h1 : upd H fo (.lst []) fo = some (.lst (([] : List Str).map V.str)) := upd_same
    generalize upd H fo (.lst []) = H1 at s1 h1 ⊢
    refine ⟨_, rfl, small1000 (Nat.le_of_ble_eq_true rfl), fun wa hwa => ?_⟩
    have s2 := same_new (o := .lst [.str z]) hwa
    have h2 : upd H1 wa (.lst [.str z]) wa = some (.lst (([z] : List Str).map V.str)) := upd_same
    generalize upd H1 wa (.lst [.str z]) = H2 at s2 h2 ⊢
    have nwf : wa ≠ fo := fun e => by rw [e, h1] at hwa; cases hwa
    have s123 := s1.trans s2
    have f3 := s2 _ _ h1
    have w3 := h2
    have mle : ∀ {F : List Str}, F.Nodup → (∀ y ∈ F, Reach p z y) → F.length ≤ p.length := fun {F} n r => by
      have := nodup_le n fun y hy => (r y hy).names hp hn hz
      rwa [List.length_map] at this
    have app : ∀ (F : List Str) (c : Str), F.map V.str ++ [V.str c] = (F ++ [c]).map V.str := fun F c => by rw [List.map_append]; rfl
    have snd : ∀ {F : List Str} {c : Str}, F.Nodup → c ∉ F → (F ++ [c]).Nodup := fun {F c} n h => List.nodup_append.mpr ⟨n, List.nodup_cons.mpr ⟨List.not_mem_nil, List.nodup_nil⟩, fun x hx y hy e => h (by rw [← List.mem_singleton.mp hy, ← e]; exact hx)⟩
    have hwa0 : H wa = none := none_of_same s1 hwa
    refine ⟨_, _, rfl, ?_⟩
    refine ⟨fun m σ Hc => ∃ (F W : List Str) (x4 : Option V), σ = [some (.ref t), some (.str z), some (.ref fo), some (.ref wa), x4] ∧ Same H Hc ∧ Hc fo = some (.lst (F.map V.str)) ∧ Hc wa = some (.lst (W.map V.str)) ∧ (F.Nodup ∧ (∀ y ∈ F, Reach p z y)) ∧ (W.length ≤ 1 + 8 * F.length ∧ ∀ y ∈ W, Reach p z y) ∧ (∀ y ∈ F, ∀ c ∈ callsOf (bodyOf p y), c ∈ F ∨ c ∈ W) ∧ (z ∈ F ∨ z ∈ W) ∧ m + 9 * F.length = 9 * p.length + W.length,
      ⟨9 * p.length + 1, [], [z], _, rfl, s123, f3, w3, ⟨List.nodup_nil, fun y hy => absurd hy List.not_mem_nil⟩, ⟨Nat.le_refl 1, fun y hy => by rw [List.mem_singleton.mp hy]; exact .refl⟩, (fun y hy => absurd hy List.not_mem_nil), .inr (List.mem_singleton.mpr rfl), rfl⟩, ?_⟩
    rintro m σ Hc ⟨F, W, x4, rfl, sc, hf, hw, ⟨fn, fr⟩, ⟨wl, wr⟩, cl, hzz, hm⟩
    have lF := mle fn fr
    refine ⟨_, rfl, Nat.zero_le _, fun e0 he0 => ?_⟩
    have s4 := same_new (o := .lst []) he0
    have h4 : upd Hc e0 (.lst []) e0 = some (.lst []) := upd_same
    have sc4 := sc.trans s4
    have hf4 := s4 _ _ hf
    have hw4 := s4 _ _ hw
    generalize upd Hc e0 (.lst []) = H4 at s4 h4 sc4 hf4 hw4 ⊢
    have pW : PlainD (.list (W.map PyData.str)) := (PlN.lst (strPl W)).pl (by decide)
    have pN : PlainD (.list []) := (PlN.lst (n := 0) all0).pl (by decide)
    refine ⟨.list (W.map PyData.str), .list [], .lst (SqL.of hw4) (dpStrs W), .lst (SqL.of h4) .nil, pW, pN, _, rfl, ite2 (fun h0 => ?_) (fun h0 => ?_)⟩
    · have h0 : (!decide (W.length = 0)) = true := by rw [← eqv_nil PyData.str]; exact h0
      refine ⟨fun σ' H' => ∃ m', m' < m ∧ ∃ (F W : List Str) (x4 : Option V), σ' = [some (.ref t), some (.str z), some (.ref fo), some (.ref wa), x4] ∧ Same H H' ∧ H' fo = some (.lst (F.map V.str)) ∧ H' wa = some (.lst (W.map V.str)) ∧ (F.Nodup ∧ (∀ y ∈ F, Reach p z y)) ∧ (W.length ≤ 1 + 8 * F.length ∧ ∀ y ∈ W, Reach p z y) ∧ (∀ y ∈ F, ∀ c ∈ callsOf (bodyOf p y), c ∈ F ∨ c ∈ W) ∧ (z ∈ F ∨ z ∈ W) ∧ m' + 9 * F.length = 9 * p.length + W.length, fun σ' H' h => h, ?_⟩
      have w0 : W ≠ [] := fun e => by
        rw [e] at h0
        exact absurd h0 (by decide)
      obtain ⟨W0, y, rfl⟩ : ∃ W0 y, W = W0 ++ [y] := ⟨W.dropLast, W.getLast w0, (List.dropLast_concat_getLast w0).symm⟩
      rw [← app W0 y] at hw4
      refine ⟨_, rfl, .inl ⟨rfl, _, SqL.of hw4⟩, wa, _, .str y, rfl, rfl, hw4, by simp, ?_⟩
      have edl : (W0.map V.str ++ [V.str y]).dropLast = W0.map V.str := by simp
      rw [edl]
      have s5 : Same H (upd H4 wa (.lst (W0.map V.str))) := same_upd hwa0 sc4
      have hw5 : upd H4 wa (.lst (W0.map V.str)) wa = some (.lst (W0.map V.str)) := upd_same
      have hf5 : upd H4 wa (.lst (W0.map V.str)) fo = some (.lst (F.map V.str)) := by rw [upd_ne (Ne.symm nwf)]; exact hf4
      generalize upd H4 wa (.lst (W0.map V.str)) = H5 at s5 hw5 hf5 ⊢
      have yr := wr y (List.mem_append_right _ List.mem_cons_self)
      have yn := yr.names hp hn hz
      have wr0 : ∀ d ∈ W0, Reach p z d := fun d hd => wr d (List.mem_append_left _ hd)
      rw [List.length_append] at hm wl
      have hm : m + 9 * F.length = 9 * p.length + (W0.length + 1) := hm
      have wl : W0.length + 1 ≤ 1 + 8 * F.length := wl
      have ein : inV (.str y) (F.map V.str) = decide (y ∈ F) := inV_strs
      refine ⟨_, rfl, _, rfl, fo, _, rfl, .inl (SqL.of hf5), rfl, flat_strs, _, rfl, ite2 (fun e2 => ?_) (fun e2 => ?_)⟩
      · have e2 : (!decide (y ∈ F)) = true := by rw [← ein]; exact e2
        rw [Bool.not_eq_true', decide_eq_false_iff_not] at e2
        refine ⟨_, rfl, .inl ⟨rfl, _, SqL.of hf5⟩, _, rfl, fo, _, _, rfl, rfl, hf5, small1000 (by rw [List.length_map]; omega), ?_⟩
        rw [app]
        have s6 : Same H (upd H5 fo (.lst ((F ++ [y]).map V.str))) := same_upd hfo s5
        have hf6 : upd H5 fo (.lst ((F ++ [y]).map V.str)) fo = some (.lst ((F ++ [y]).map V.str)) := upd_same
        have hw6 : upd H5 fo (.lst ((F ++ [y]).map V.str)) wa = some (.lst (W0.map V.str)) := by rw [upd_ne nwf]; exact hw5
        generalize upd H5 fo (.lst ((F ++ [y]).map V.str)) = H6 at s6 hf6 hw6 ⊢
        obtain ⟨bx, hbx, ebx⟩ := List.mem_map.mp yn
        have eb : bodyOf p y = bx.2 := by rw [← ebx]; exact bodyOf_mem hn hbx
        obtain ⟨_, _, c60, fb⟩ := hp.ok _ hbx
        obtain ⟨v, ev, hv⟩ := ((Tk.same s6).pg hk).val hn yn
        have dg : DGet _ t (kV (.inr y)) (valV kvs (.inr y)) := .inl ⟨kvs, .inr y, rd_same s6 ht, rfl, rfl⟩
        rw [ev] at dg
        have fn2 := snd fn e2
        have fr2 : ∀ d ∈ F ++ [y], Reach p z d := fun d hd => by
          rcases List.mem_append.mp hd with h | h
          · exact fr d h
          · rw [List.mem_singleton.mp h]; exact yr
        have lF2 := mle fn2 fr2
        rw [List.length_append] at lF2
        have lF2 : F.length + 1 ≤ p.length := lF2
        refine ⟨_, rfl, .inl ⟨rfl, _, SqL.of hw6⟩, _, rfl, _, rfl, t, v, rfl, dg, v, bodyOf p y, rfl, hv, by rw [eb]; exact fb, by rw [eb]; exact c60, fun l es H7 nl s7 hl asc => ?_⟩
        have er : ∀ d ∈ es, Reach p z d := fun d hd => yr.step ((asc.2.2 d).mp hd)
        have le := mle asc.2.1 er
        refine ⟨wa, l, _, _, rfl, rfl, s7 _ _ hw6, hl, Nat.le_of_lt (small1000 (by rw [List.length_map, List.length_map]; omega)), ?_⟩
        rw [← List.map_append]
        refine ⟨9 * p.length + (W0 ++ es).length - 9 * (F ++ [y]).length, by rw [List.length_append, List.length_append]; show _ - 9 * (F.length + 1) < m; omega, F ++ [y], W0 ++ es, _, rfl, same_upd hwa0 (s6.trans s7), by rw [upd_ne (Ne.symm nwf)]; exact s7 _ _ hf6, upd_same, ⟨fn2, fr2⟩, ⟨by rw [List.length_append, List.length_append]; show _ ≤ 1 + 8 * (F.length + 1); omega, fun d hd => ?_⟩, fun d hd c hc => ?_, ?_, by rw [List.length_append, List.length_append]; show _ - 9 * (F.length + 1) + 9 * (F.length + 1) = _; omega⟩
        · rcases List.mem_append.mp hd with h | h
          · exact wr0 d h
          · exact er d h
        · rcases List.mem_append.mp hd with h | h
          · rcases cl d h c hc with h' | h'
            · exact .inl (List.mem_append_left _ h')
            · rcases List.mem_append.mp h' with h' | h'
              · exact .inr (List.mem_append_left _ h')
              · exact .inl (List.mem_append_right _ h')
          · rw [List.mem_singleton.mp h] at hc
            exact .inr (List.mem_append_right _ ((asc.2.2 c).mpr hc))
        · rcases hzz with h | h
          · exact .inl (List.mem_append_left _ h)
          · rcases List.mem_append.mp h with h | h
            · exact .inr (List.mem_append_left _ h)
            · exact .inl (List.mem_append_right _ h)
      · have e2 : y ∈ F := by
          by_cases h : y ∈ F
          · exact h
          · exact absurd (show (!inV (.str y) (F.map V.str)) = true by rw [ein, decide_eq_false h]; rfl) e2
        refine ⟨m - 1, by omega, F, W0, _, rfl, s5, hf5, hw5, ⟨fn, fr⟩, ⟨by omega, wr0⟩, fun d hd c hc => ?_, ?_, by omega⟩
        · rcases cl d hd c hc with h' | h'
          · exact .inl h'
          · rcases List.mem_append.mp h' with h' | h'
            · exact .inr h'
            · rw [List.mem_singleton.mp h']; exact .inl e2
        · rcases hzz with h | h
          · exact .inl h
          · rcases List.mem_append.mp h with h | h
            · exact .inr h
            · rw [List.mem_singleton.mp h]; exact .inl e2
    · have W0 : W = [] := by
        cases W with
        | nil => rfl
        | cons a l => exact absurd (show (!PyData.eqv (.list ((a :: l).map PyData.str)) (.list [])) = true by rw [eqv_nil]; rfl) h0
      subst W0
      have fz : z ∈ F := hzz.elim id fun h => absurd h List.not_mem_nil
      have all := reach_all fz fr fun y hy c hc => (cl y hy c hc).elim id fun h => absurd h List.not_mem_nil
      refine ⟨_, rfl, fo, F, rfl, SqL.of hf4, by omega, fun es l pe se hl => ?_⟩
      exact q l es _ (none_of_same sc4 hl) (sc4.trans (same_new hl)) upd_same ⟨se, pe.symm.nodup fn, fun y => (pe.mem_iff).trans (all y)⟩
end
end FR
set_option Elab.async false
set_option linter.all false
set_option maxRecDepth 100000
set_option maxHeartbeats 1000000
/-! the knots -/
namespace FR
open PySem PySem.Spec PyProof.Rows L2
/-- rc tells what each procedure reaches -/
def IsRc (p : Pg) (rc : Str → List Str) : Prop := ∀ z ∈ names p, Rch p z (rc z)
/-- the knot of a procedure -/
def kn (rc : Str → List Str) (z : Str) : List Str := (rc z).filter fun o => decide (z ∈ rc o)
theorem pair_sorted : ∀ {l : List Str}, l.Pairwise leS → sortedS l = true
  | [], _ => rfl
  | x :: l, h => by
    induction l generalizing x with
    | nil => rfl
    | cons y l ih =>
      obtain ⟨h1, h2⟩ := List.pairwise_cons.mp h
      show (!ltCps y.cps.toList x.cps.toList && risingS y l) = true
      have a : ltCps y.cps.toList x.cps.toList = false := h1 y List.mem_cons_self
      rw [a]
      exact ih y h2
section
variable {p : Pg} {rc : Str → List Str}
theorem mem_kn (hp : Prg p) (hn : (names p).Nodup) (h : IsRc p rc) {z y : Str} (hz : z ∈ names p) : y ∈ kn rc z ↔ Reach p z y ∧ Reach p y z := by
  unfold kn
  rw [List.mem_filter, (h z hz).2.2 y]
  constructor
  · rintro ⟨a, b⟩
    exact ⟨a, ((h y (a.names hp hn hz)).2.2 z).mp (of_decide_eq_true b)⟩
  · rintro ⟨a, b⟩
    exact ⟨a, decide_eq_true (((h y (a.names hp hn hz)).2.2 z).mpr b)⟩
theorem filter_sortedS {l : List Str} {f : Str → Bool} (h : sortedS l = true) : sortedS (l.filter f) = true := pair_sorted ((sorted_pair h).sublist List.filter_sublist)
theorem kn_sorted (h : IsRc p rc) {z : Str} (hz : z ∈ names p) : sortedS (kn rc z) = true := filter_sortedS (h z hz).1
theorem kn_nodup (h : IsRc p rc) {z : Str} (hz : z ∈ names p) : (kn rc z).Nodup := (h z hz).2.1.sublist List.filter_sublist
theorem kn_self (hp : Prg p) (hn : (names p).Nodup) (h : IsRc p rc) {z : Str} (hz : z ∈ names p) : z ∈ kn rc z := (mem_kn hp hn h hz).mpr ⟨.refl, .refl⟩
theorem kn_eq (hp : Prg p) (hn : (names p).Nodup) (h : IsRc p rc) {z y : Str} (hz : z ∈ names p) (hy : y ∈ kn rc z) : kn rc y = kn rc z := by
  obtain ⟨a, b⟩ := (mem_kn hp hn h hz).mp hy
  have yn := a.names hp hn hz
  exact sorted_nodup (kn_nodup h yn) (kn_nodup h hz) (fun x => by
    rw [mem_kn hp hn h yn, mem_kn hp hn h hz]
    exact ⟨fun ⟨c, d⟩ => ⟨a.trans c, d.trans b⟩, fun ⟨c, d⟩ => ⟨b.trans c, d.trans a⟩⟩) (kn_sorted h yn) (kn_sorted h hz)
/-- procedures behind which nothing else is reached -/
def Shut (p : Pg) (D : List Str) : Prop := ∀ y ∈ D, ∀ c ∈ callsOf (bodyOf p y), c ∈ D
theorem shut_reach {D : List Str} (s : Shut p D) {y c : Str} (hy : y ∈ D) (r : Reach p y c) : c ∈ D := by
  induction r with
  | refl => exact hy
  | step _ h ih => exact s _ ih _ h
/-- calls within the knot and what is done: as much as reaching within them -/
theorem calls_reach (hp : Prg p) (hn : (names p).Nodup) (h : IsRc p rc) {z : Str} (hz : z ∈ names p) {D : List Str} (s : Shut p D) :
    (∀ y ∈ kn rc z, ∀ c ∈ callsOf (bodyOf p y), c ∈ kn rc z ∨ c ∈ D) ↔ ∀ c ∈ rc z, c ∈ kn rc z ∨ c ∈ D := by
  constructor
  · intro a c hc
    have r := ((h z hz).2.2 c).mp hc
    clear hc
    induction r with
    | refl => exact .inl (kn_self hp hn h hz)
    | step _ hc ih =>
      rcases ih with i | i
      · exact a _ i _ hc
      · exact .inr (s _ i _ hc)
  · intro a y hy c hc
    exact a c (((h z hz).2.2 c).mpr (((mem_kn hp hn h hz).mp hy).1.step hc))
/-- .. then what is done grows by the knot -/
theorem shut_more (hp : Prg p) (hn : (names p).Nodup) (h : IsRc p rc) {z : Str} (hz : z ∈ names p) {D : List Str} (s : Shut p D) (a : ∀ y ∈ kn rc z, ∀ c ∈ callsOf (bodyOf p y), c ∈ kn rc z ∨ c ∈ D) : Shut p (D ++ kn rc z) := fun y hy c hc => by
  rcases List.mem_append.mp hy with i | i
  · exact List.mem_append_left _ (s y i c hc)
  · rcases a y i c hc with j | j
    · exact List.mem_append_right _ j
    · exact List.mem_append_left _ j
/-- a procedure behind another one that it doesn't reach again reaches fewer -/
theorem rc_less (hp : Prg p) (hn : (names p).Nodup) (h : IsRc p rc) {z c : Str} (hz : z ∈ names p) (hc : c ∈ rc z) (nk : c ∉ kn rc z) : (rc c).length < (rc z).length := by
  have r := ((h z hz).2.2 c).mp hc
  have cn := r.names hp hn hz
  have zc : z ∉ rc c := fun i => nk ((mem_kn hp hn h hz).mpr ⟨r, ((h c cn).2.2 z).mp i⟩)
  have z0 : z ∈ rc z := ((h z hz).2.2 z).mpr .refl
  have : (z :: rc c).length ≤ (rc z).length := nodup_le (List.nodup_cons.mpr ⟨zc, (h c cn).2.1⟩) fun y hy => by
    rcases List.mem_cons.mp hy with rfl | i
    · exact z0
    · exact ((h z hz).2.2 y).mpr (r.trans (((h c cn).2.2 y).mp i))
  rw [List.length_cons] at this
  omega
/-- behind all that is left there is a knot that is free -/
theorem some_free (hp : Prg p) (hn : (names p).Nodup) (h : IsRc p rc) {D : List Str} : ∀ (m : Nat) (z : Str), z ∈ names p → z ∉ D → (rc z).length ≤ m → ∃ y, y ∈ names p ∧ y ∉ D ∧ ∀ c ∈ rc y, c ∈ kn rc y ∨ c ∈ D
  | 0, z, hz, _, le => by
    have : z ∈ rc z := ((h z hz).2.2 z).mpr .refl
    have := List.length_pos_of_mem this
    omega
  | m + 1, z, hz, hd, le => by
    by_cases a : ∀ c ∈ rc z, c ∈ kn rc z ∨ c ∈ D
    · exact ⟨z, hz, hd, a⟩
    · obtain ⟨c, hc⟩ := Classical.not_forall.mp a
      obtain ⟨hc, n⟩ := Classical.not_imp.mp hc
      have n1 : c ∉ kn rc z := fun i => n (.inl i)
      have n2 : c ∉ D := fun i => n (.inr i)
      exact some_free hp hn h m c ((((h z hz).2.2 c).mp hc).names hp hn hz) n2 (by have := rc_less hp hn h hz hc n1; omega)
end
end FR
set_option Elab.async false
set_option linter.all false
set_option maxRecDepth 100000
set_option maxHeartbeats 1000000
/-! _unordered_knots -/
namespace FR
open PySem PySem.Spec PyProof.Rows L2
abbrev sUk : Stmt := FR.top 42
abbrev NUk : List Str := ["free", "reached", "name", "found", "knot", "other"]
theorem scUk : FnScope NUk ["free"] (defScope sUk) := ⟨rfl, rfl, rfl, by decide +kernel, rfl, by decide +kernel, by decide +kernel⟩
/-- the knots, ascending by their least names -/
def kns (p : Pg) (rc : Str → List Str) : List (List Str) := (names p).flatMap fun z => if (kn rc z).head? = some z then [kn rc z] else []
section
variable {P : Program} {w : World} {K : PySem.W.Frag} {mg : Str → Option Value} {base : Heap}
def spUk (K : PySem.W.Frag) (C : Addr) : Sp := fun vs H Q _ => ∃ x p rc, vs = [.ref x] ∧ IsPg K C H x p ∧ Prg p ∧ (names p).Nodup ∧ IsRc p rc ∧ ∀ l us H', H l = none → Same H H' → H' l = some (.lst us) → AG (fun v k => ∃ t, v = .ref t ∧ H' t = some (.tup ((k : List Str).map V.str))) us (kns p rc) → Q (.ref l) H'
theorem ok_uk {f C : Addr} {fd : FuncData} (F : Fun K "_unordered_knots" "_unordered_knots" sUk f fd) (R : PgC K C) (mt : mg "tuple" = none) (pN : PMet P w K mg base C "names" 1 ["self"] (spNa K C)) (gRa : Glo P w K mg base "reaches" 10 ["free", "name"] (spRa K C)) : FnOk P w K mg base CX0 11 f fd ["free"] (spUk K C) := by
  refine F.ok scUk (fun vs H Q E h => ?_) (fun cdv A outer s H vs Q E hr h => ?_)
  · obtain ⟨x, p, rc, rfl, _⟩ := h
    rfl
  · obtain ⟨x, p, rc, rfl, hi, hp, hn, hrc, q⟩ := h
    refine ⟨_, (pss_cons (ps_set (i := 1) scUk.nd rfl (Or.inr rfl) (pe_dc (X := (cxOf CX0 P w K mg base NUk "_unordered_knots" (defScope sUk) f cdv A outer s H E).nox) (own := [("name", 2)]) (g := (gName 2)) (tt := tYes) rfl scUk.nd (pi_tup (pe_prop (pv 0) R.cl pN.o pN.G (hr.mono (by decide)) pN.b .nil pass0 rfl)) (blkOk_by (N := NUk) (sc := defScope sUk) (by decide +kernel)) (fun _ _ _ _ _ => (pg_name (i := 2) scUk.nd rfl (.inl rfl))) (fun _ _ _ _ _ => pts_nil) (fun _ _ _ _ _ => (pv 2)) (fun _ _ _ _ _ => (pe_call gRa.G (hr.mono (by decide)) (by rfl) gRa.m gRa.k gRa.b .nil pass0 (pa_cons (pv 0) (pa_cons (pv 2) pa_nil))))))
      (pss_cons (ps_set (i := 3) scUk.nd rfl (Or.inl rfl) (pe_lst pa_nil))
      (pss_cons (ps_for PassesOwn.never rfl (pi_tup (pe_prop (pv 0) R.cl pN.o pN.G (hr.mono (by decide)) pN.b .nil pass0 rfl)) (pg_name (i := 2) scUk.nd rfl (.inr rfl)) (pss_cons (ps_set (i := 4) scUk.nd rfl (Or.inl rfl) (pe_callTy call_tuple_of (by rfl) mt (by decide +kernel) (pa_cons (pe_lc (X := (cxOf CX0 P w K mg base NUk "_unordered_knots" (defScope sUk) f cdv A outer s H E).nox) (own := [("other", 5)]) (g := (gName 5)) rfl scUk.nd (pi_tup (pe_dget (lt1_of hr.units) (pv 1) (pv 2) (fun _ _ => rfl))) (blkOk_by (N := NUk) (sc := defScope sUk) (by decide +kernel)) (fun _ _ _ _ _ => (pg_name (i := 5) scUk.nd rfl (.inl rfl))) (fun _ _ _ _ _ => (pts_one (pt_cmpR (op_in_seqK (K := K) rfl) (pv 2) (pe_dget (lt1_of hr.units) (pv 1) (pv 5) (fun _ _ => rfl)) rfl))) (fun _ _ _ _ _ => (pv 5))) pa_nil)))
      (pss_one (ps_if (pt_cmpR op_eq (pe_ix ix_tup (pv 4) pe_int (fun _ _ => rfl)) (pv 2) (nomark _)) (pss_one (ps_expr (pe_bm PySem.F.plainAttrs_list PySem.F.slot_list_append PySem.F.type_list_append mt_append (pv 3) (pa_cons (pv 4) pa_nil)))) pss_nil))))
      (pss_one (ps_ret (pv 3)))))), ?_⟩
    have l8 := hp.len.2
    have hi0 := hi
    obtain ⟨dx, _, _, _, _, _, _, hx, _⟩ := hi0
    refine ⟨_, rfl, x, dx, _, rfl, hx, x, p, rfl, hi, fun t H1 nt s1 ht => ⟨t, rfl, ⟨_, SqT.of ht⟩, fun D hD => ?_⟩⟩
    refine dc_tup (xs := (names p).map V.str) (fun i Hx => Same H1 Hx ∧ ∃ kvs, Hx D = some (.dK kvs) ∧ kvs.length ≤ i ∧ ∀ y ∈ (names p).take i, ∃ a, valV kvs (.inr y) = some (.ref a) ∧ Hx a = some (.tup ((rc y).map V.str))) ⟨same_new hD, [], upd_same, Nat.le_refl _, fun y hy => absurd hy List.not_mem_nil⟩ (fun j Hx _ p' => SqT.of (p'.1 _ _ ht)) ?_ ?_
    · rintro i v0 Hx hv0 ⟨sx, kvs, hDx, lk, hall⟩
      have ii := (List.getElem?_eq_some_iff.mp hv0).1
      rw [List.length_map, List.length_map] at ii
      obtain ⟨y, hy, rfl⟩ : ∃ y, (names p)[i]? = some y ∧ v0 = .str y := by
        rw [List.getElem?_map] at hv0
        cases e : (names p)[i]? with
        | none => rw [e] at hv0; cases hv0
        | some y => rw [e] at hv0; cases hv0; exact ⟨y, rfl, rfl⟩
      have yn : y ∈ names p := List.mem_of_getElem? hy
      refine ⟨rfl, _, rfl, _, rfl, _, rfl, x, y, p, rfl, hi.same (s1.trans sx), hp, hn, yn, fun tt es H2 ntt s2 htt r => ?_⟩
      have ees := r.eq (hrc y yn)
      subst ees
      have hD2 := s2 _ _ hDx
      refine ⟨kvs, .inr y, rfl, hD2, small1000 (by omega), same_upd hD (sx.trans s2), _, upd_same, Nat.le_trans (DSub.putK_len _ _ _) (Nat.succ_le_succ lk), fun z hz => ?_⟩
      have ntD : ∀ {a : Addr} {xs : List V}, H2 a = some (.tup xs) → a ≠ D := fun {a xs} e z => by rw [z, hD2] at e; cases e
      rw [valV_put]
      by_cases c : z = y
      · subst c
        exact ⟨tt, if_pos rfl, by rw [upd_ne (ntD htt)]; exact htt⟩
      · rw [take_snoc hy] at hz
        have hz : z ∈ (names p).take i := (List.mem_append.mp hz).elim id fun h => absurd (List.mem_singleton.mp h) c
        obtain ⟨a, e1, e2⟩ := hall z hz
        have e2 := s2 _ _ e2
        exact ⟨a, by rw [if_neg (fun e => c (Sum.inr.inj e))]; exact e1, by rw [upd_ne (ntD e2)]; exact e2⟩
    · rintro Hx ⟨sx, kvs, hDx, lk, hall⟩
      rw [List.take_of_length_le (by simp)] at hall
      have s2 := s1.trans sx
      refine ⟨Nat.zero_le _, fun fo hfo => ?_⟩
      have s3 := same_new (o := .lst []) hfo
      have h3 : upd Hx fo (.lst []) fo = some (.lst []) := upd_same
      have hD3 := s3 _ _ hDx
      have hall3 : ∀ y ∈ names p, ∃ a, valV kvs (.inr y) = some (.ref a) ∧ upd Hx fo (.lst []) a = some (.tup ((rc y).map V.str)) := fun y hy => (hall y hy).imp fun a e => ⟨e.1, s3 _ _ e.2⟩
      have s03 := s2.trans s3
      have hfo0 : H fo = none := none_of_same s2 hfo
      generalize upd Hx fo (.lst []) = H3 at s3 h3 hD3 hall3 s03 ⊢
      have hi3 := hi.same s03
      have hi30 := hi3
      obtain ⟨dx3, _, _, _, _, _, _, hx3, _⟩ := hi30
      refine ⟨_, rfl, x, dx3, _, rfl, hx3, x, p, rfl, hi3, fun t4 H4 nt4 s4 ht4 => ⟨t4, rfl, ⟨_, SqT.of ht4⟩, ?_⟩⟩
      let g : Nat → List (List Str) := fun i => ((names p).take i).flatMap fun z => if (kn rc z).head? = some z then [kn rc z] else []
      have gl : ∀ i, (g i).length ≤ i := fun i => by
        have a : ∀ l : List Str, (l.flatMap fun z => if (kn rc z).head? = some z then [kn rc z] else []).length ≤ l.length := fun l => by
          induction l with
          | nil => exact Nat.le_refl _
          | cons z l ih =>
            rw [List.flatMap_cons, List.length_append, List.length_cons]
            split
            · show 1 + _ ≤ _; omega
            · show 0 + _ ≤ _; omega
        exact Nat.le_trans (a _) (by rw [List.length_take]; omega)
      have s04 := s03.trans s4
      refine for_it (walk_tup (xs := (names p).map V.str)) (fun i σ Hx => Same H Hx ∧ (∀ a o, a ≠ fo → H4 a = some o → Hx a = some o) ∧ ∃ (us : List V) (x2 x4 : Option V), σ = [some (.ref x), some (.ref D), x2, some (.ref fo), x4, none] ∧ Hx fo = some (.lst us) ∧ AG (fun v k => ∃ t, v = .ref t ∧ Hx t = some (.tup ((k : List Str).map V.str))) us (g i))
        ⟨s04, (fun _ _ _ e => e), [], _, _, rfl, s4 _ _ h3, AG.nil⟩ (fun i σ Hx _ p' => SqT.of (p'.2.1 _ _ (fun e => by rw [e, h3] at nt4; cases nt4) ht4)) ?_ ?_
      · rintro i v0 σ Hc H'' hii ⟨sc, b4, us, x2, x4, rfl, hfc, hu⟩ ⟨rfl, hv0⟩
        have ii := (List.getElem?_eq_some_iff.mp hv0).1
        rw [List.length_map, List.length_map] at ii
        obtain ⟨z, hz, rfl⟩ : ∃ z, (names p)[i]? = some z ∧ v0 = .str z := by
          rw [List.getElem?_map] at hv0
          cases e : (names p)[i]? with
          | none => rw [e] at hv0; cases hv0
          | some z => rw [e] at hv0; cases hv0; exact ⟨z, rfl, rfl⟩
        have zn : z ∈ names p := List.mem_of_getElem? hz
        have nDf : D ≠ fo := fun e => by rw [e, h3] at hD3; cases hD3
        have hDc := b4 _ _ nDf (s4 _ _ hD3)
        have hallc : ∀ y ∈ names p, ∃ a, valV kvs (.inr y) = some (.ref a) ∧ H'' a = some (.tup ((rc y).map V.str)) := fun y hy => by
          obtain ⟨a, e1, e2⟩ := hall3 y hy
          exact ⟨a, e1, b4 _ _ (fun e => by rw [e, h3] at e2; cases e2) (s4 _ _ e2)⟩
        have dg : ∀ {Hx : Hp} {y : Str} {a : Addr}, Same H'' Hx → valV kvs (.inr y) = some (.ref a) → DGet Hx D (kV (.inr y)) (some (.ref a)) := fun {Hx y a} s e => by
          rw [← e]; exact DGet.k (k := .inr y) (s _ _ hDc)
        obtain ⟨a, e1, ha⟩ := hallc z zn
        have lrc : ∀ y ∈ names p, (rc y).length ≤ 8 := fun y hy => by
          have := nodup_le (hrc y hy).2.1 fun c hc => (((hrc y hy).2.2 c).mp hc).names hp hn hy
          rw [List.length_map] at this
          omega
        have lz := lrc z zn
        refine ⟨_, rfl, _, rfl, D, .ref a, rfl, dg (Same.refl _) e1, a, rfl, ⟨_, SqT.of ha⟩, fun D2 hD2 => ?_⟩
        refine lc_tup (xs := (rc z).map V.str) (fun j Hx => Same H'' Hx ∧ Hx D2 = some (.lst ((((rc z).take j).filter fun o => decide (z ∈ rc o)).map V.str))) ⟨same_new hD2, upd_same⟩ (fun j Hx _ p' => SqT.of (p'.1 _ _ ha)) ?_ ?_
        · rintro j v1 Hx hv1 ⟨sx, hDx⟩
          have jj := (List.getElem?_eq_some_iff.mp hv1).1
          rw [List.length_map] at jj
          obtain ⟨o, ho, rfl⟩ : ∃ o, (rc z)[j]? = some o ∧ v1 = .str o := by
            rw [List.getElem?_map] at hv1
            cases e : (rc z)[j]? with
            | none => rw [e] at hv1; cases hv1
            | some o => rw [e] at hv1; cases hv1; exact ⟨o, rfl, rfl⟩
          have on : o ∈ names p := (((hrc z zn).2.2 o).mp (List.mem_of_getElem? ho)).names hp hn zn
          obtain ⟨a2, e2, ha2⟩ := hallc o on
          have ein : inV (.str z) ((rc o).map V.str) = decide (z ∈ rc o) := inV_strs
          have gs : ((rc z).take (j + 1)).filter (fun o => decide (z ∈ rc o)) = ((rc z).take j).filter (fun o => decide (z ∈ rc o)) ++ (if decide (z ∈ rc o) = true then [o] else []) := by
            rw [take_snoc ho, List.filter_append]
            congr 1
            rw [List.filter_cons]
            split <;> rfl
          refine ⟨rfl, _, rfl, _, rfl, _, rfl, D, .ref a2, rfl, dg sx e2, a2, _, rfl, .inr (SqT.of (sx _ _ ha2)), rfl, flat_strs, _, rfl, ite2 (fun h0 => ?_) (fun h0 => ?_)⟩
          · have h0 : decide (z ∈ rc o) = true := by rw [← ein]; exact h0
            rw [if_pos h0] at gs
            refine ⟨_, rfl, _, hDx, small1000 (by have lf := List.length_filter_le (fun o => decide (z ∈ rc o)) ((rc z).take j); rw [List.length_take] at lf; rw [List.length_map]; omega), same_upd hD2 sx, ?_⟩
            rw [gs, List.map_append]
            exact upd_same
          · have h0 : ¬ decide (z ∈ rc o) = true := fun c => h0 (by rw [← ein] at c; exact c)
            rw [if_neg h0, List.append_nil] at gs
            exact ⟨sx, by rw [gs]; exact hDx⟩
        rintro Hx ⟨sx, hDx⟩
        rw [List.take_of_length_le (by simp)] at hDx
        have hDx : Hx D2 = some (.lst ((kn rc z).map V.str)) := hDx
        refine ⟨D2, _, rfl, .inl ⟨SqL.of hDx, fun tk htk => ?_⟩⟩
        have s6 := sx.trans (same_new (o := .tup ((kn rc z).map V.str)) htk)
        have htk6 : upd Hx tk (.tup ((kn rc z).map V.str)) tk = some (.tup ((kn rc z).map V.str)) := upd_same
        generalize upd Hx tk (.tup ((kn rc z).map V.str)) = H6 at s6 htk6 ⊢
        have gs : g (i + 1) = g i ++ (if (kn rc z).head? = some z then [kn rc z] else []) := flat_take hz
        have b6 : ∀ a o, a ≠ fo → H4 a = some o → H6 a = some o := fun a o n e => s6 _ _ (b4 a o n e)
        have hf6 := s6 _ _ hfc
        have hu6 : AG (fun v k => ∃ t, v = .ref t ∧ H6 t = some (.tup ((k : List Str).map V.str))) us (g i) := hu.imp fun v k ⟨t, e, h⟩ => ⟨t, e, s6 _ _ h⟩
        have k0 := kn_self hp hn hrc zn
        obtain ⟨y, ys, ek⟩ : ∃ y ys, kn rc z = y :: ys := by
          cases e : kn rc z with
          | nil => rw [e] at k0; exact absurd k0 List.not_mem_nil
          | cons y ys => exact ⟨y, ys, rfl⟩
        refine ⟨_, rfl, tk, _, 0, .str y, rfl, rfl, SqT.of htk6, atI_nat (j := 0) (by rw [ek]; rfl), _, rfl, rfl, _, rfl, ?_⟩
        show if decide (V.str y = V.str z) = true then _ else _
        rw [dec_str]
        have eh : (kn rc z).head? = some y := by rw [ek]; rfl
        refine ite2 (fun h0 => ?_) (fun h0 => ?_)
        · have h0 : y = z := of_decide_eq_true h0
          rw [if_pos (by rw [eh, h0])] at gs
          have lu : us.length = (g i).length := hu.1
          have lg := gl i
          have htf : tk ≠ fo := fun e => by rw [e, hf6] at htk6; cases htk6
          refine ⟨_, rfl, .inl ⟨rfl, _, SqL.of hf6⟩, _, rfl, fo, _, _, rfl, rfl, hf6, small1000 (by omega), ?_⟩
          refine ⟨same_upd hfo0 (sc.trans s6), (fun a o n e => by rw [upd_ne n]; exact b6 a o n e), us ++ [.ref tk], _, _, rfl, upd_same, ?_⟩
          rw [gs]
          exact AG.snoc (hu6.imp fun v k ⟨t, e, h⟩ => ⟨t, e, by rw [upd_ne (fun c => by rw [c, hf6] at h; cases h)]; exact h⟩) ⟨tk, rfl, by rw [upd_ne htf]; exact htk6⟩
        · have h0 : ¬ y = z := fun c => h0 (decide_eq_true c)
          rw [if_neg (fun c => h0 (Option.some.inj (eh.symm.trans c))), List.append_nil] at gs
          exact ⟨sc.trans s6, b6, us, _, _, rfl, hf6, by rw [gs]; exact hu6⟩
      · rintro σ Hc ⟨sc, b4, us, x2, x4, rfl, hfc, hu⟩
        have e : g ((names p).map V.str).length = kns p rc := by
          show ((names p).take _).flatMap _ = _
          rw [List.take_of_length_le (by simp)]
          rfl
        rw [e] at hu
        exact ⟨_, rfl, q fo us _ hfo0 sc hfc hu⟩
end
end FR
set_option Elab.async false
set_option linter.all false
set_option maxRecDepth 100000
set_option maxHeartbeats 1000000
/-! _calls_only -/
namespace FR
open PySem PySem.Spec PyProof.Rows L2
abbrev sCs : Stmt := FR.top 43
abbrev NCs : List Str := ["free", "knot", "ahead", "name", "other"]
theorem scCs : FnScope NCs ["free", "knot", "ahead"] (defScope sCs) := ⟨rfl, rfl, rfl, by decide +kernel, rfl, by decide +kernel, by decide +kernel⟩
section
variable {P : Program} {w : World} {K : PySem.W.Frag} {mg : Str → Option Value} {base : Heap}
def spCs (K : PySem.W.Frag) (C : Addr) : Sp := fun vs H Q _ => ∃ x t l p Kn Dn, vs = [.ref x, .ref t, .ref l] ∧ IsPg K C H x p ∧ Prg p ∧ (names p).Nodup ∧ H t = some (.tup ((Kn : List Str).map V.str)) ∧ (∀ y ∈ Kn, y ∈ names p) ∧ Kn.length ≤ 8 ∧ H l = some (.lst ((Dn : List Str).map V.str)) ∧
  ∀ (r : Bool) H', (r = true ↔ ∀ y ∈ Kn, ∀ c ∈ callsOf (bodyOf p y), c ∈ Kn ∨ c ∈ Dn) → Same H H' → Q (.bl r) H'
theorem ok_cs {f C : Addr} {fd : FuncData} (F : Fun K "_calls_only" "_calls_only" sCs f fd) (ma : mg "all" = none) (gCo : Glo P w K mg base "calls_of" 9 ["free", "name"] (spCo K C)) : FnOk P w K mg base CX0 10 f fd ["free", "knot", "ahead"] (spCs K C) := by
  refine F.ok scCs (fun vs H Q E h => ?_) (fun cdv A outer s H vs Q E hr h => ?_)
  · obtain ⟨x, t, l, p, Kn, Dn, rfl, _⟩ := h
    rfl
  · obtain ⟨x, t, l, p, Kn, Dn, rfl, hi, hp, hn, ht, hk, l8, hl, q⟩ := h
    refine ⟨_, (pss_one (ps_ret (pe_callB (cr_all rfl) (by rfl) ma (by decide +kernel) (pa_cons (pe_lc2 (X := (cxOf CX0 P w K mg base NCs "_calls_only" (defScope sCs) f cdv A outer s H E).nox) (own := [("name", 3), ("other", 4)]) (vs1 := [4]) (g := (gName 3)) (tt := tYes) (g1 := (gName 4)) (tt1 := tYes) rfl scCs.nd (pi_tup (pv 1)) (blkOk_by (N := NCs) (sc := defScope sCs) (by decide +kernel)) (by decide) (fun _ _ _ _ _ => (pg_name (i := 3) scCs.nd rfl (.inl rfl))) (fun _ _ _ _ _ => pts_nil) (fun _ _ _ _ _ => (pi_tupK (K := K) rfl (pe_call gCo.G (hr.mono (by decide)) (by rfl) gCo.m gCo.k gCo.b .nil pass0 (pa_cons (pv 0) (pa_cons (pv 3) pa_nil))))) (fun _ _ _ _ _ => (pg_name (i := 4) scCs.nd rfl (.inl rfl))) (fun _ _ _ _ _ => pts_nil) (fun _ _ _ _ _ => (pe_or (pe_cmpR (op_in_seqK (K := K) rfl) (pv 4) (pv 1) rfl) (pe_one (pe_cmpR (op_in_seqK (K := K) rfl) (pv 4) (pv 2) rfl))))) pa_nil)))), ?_⟩
    refine ⟨_, rfl, t, rfl, ⟨_, SqT.of ht⟩, fun D hD => ?_⟩
    have p8 := hp.len.2
    have all_snoc : ∀ (bs : List Bool) (b : Bool), ((bs ++ [b]).all id = true ↔ bs.all id = true ∧ b = true) := fun bs b => by
      rw [List.all_append, Bool.and_eq_true]
      simp
    refine walk_core (walk_tup (xs := Kn.map V.str)) (fun i Hx => Same H Hx ∧ ∃ bs : List Bool, Hx D = some (.lst (bs.map V.bl)) ∧ bs.length ≤ 8 * i ∧ (bs.all id = true ↔ ∀ y ∈ Kn.take i, ∀ c ∈ callsOf (bodyOf p y), c ∈ Kn ∨ c ∈ Dn)) ⟨same_new hD, [], upd_same, Nat.le_refl _, by simp⟩ (fun i Hx _ p' => SqT.of (p'.1 _ _ ht)) ?_ ?_
    · rintro i v0 Hx H'' hii ⟨sx, bs, hDx, lb, hb⟩ ⟨rfl, hv0⟩
      rw [List.length_map] at hii
      obtain ⟨y, hy, rfl⟩ : ∃ y, Kn[i]? = some y ∧ v0 = .str y := by
        rw [List.getElem?_map] at hv0
        cases e : Kn[i]? with
        | none => rw [e] at hv0; cases hv0
        | some y => rw [e] at hv0; cases hv0; exact ⟨y, rfl, rfl⟩
      have yn := hk y (List.mem_of_getElem? hy)
      refine ⟨rfl, _, rfl, _, rfl, x, y, p, rfl, hi.same sx, hp, hn, yn, fun t2 es H2 nt2 s2 ht2 asc => ⟨t2, rfl, ⟨_, SqT.of ht2⟩, ?_⟩⟩
      have hD2 := s2 _ _ hDx
      have ntD : t2 ≠ D := fun e => by rw [e, hDx] at nt2; cases nt2
      have les : es.length ≤ 8 := by
        have := nodup_le (m := names p) asc.2.1 fun c hc => by
          obtain ⟨b, hb', e⟩ := List.mem_map.mp yn
          have hc := (asc.2.2 c).mp hc
          rw [← e, bodyOf_mem hn hb'] at hc
          exact hp.cl b hb' _ hc
        rw [List.length_map] at this
        omega
      refine walk_core (walk_tup (xs := es.map V.str)) (fun j Hx => Same H Hx ∧ Hx t2 = some (.tup (es.map V.str)) ∧ ∃ bs : List Bool, Hx D = some (.lst (bs.map V.bl)) ∧ bs.length ≤ 8 * i + j ∧ (bs.all id = true ↔ (∀ y ∈ Kn.take i, ∀ c ∈ callsOf (bodyOf p y), c ∈ Kn ∨ c ∈ Dn) ∧ ∀ c ∈ es.take j, c ∈ Kn ∨ c ∈ Dn)) ⟨sx.trans s2, ht2, bs, hD2, lb, by rw [hb]; simp⟩ (fun j Hx _ p' => SqT.of p'.2.1) ?_ ?_
      · rintro j v1 Hy H3 hjj ⟨sy, hty, bs', hDy, lb', hb'⟩ ⟨rfl, hv1⟩
        rw [List.length_map] at hjj
        obtain ⟨c, hc, rfl⟩ : ∃ c, es[j]? = some c ∧ v1 = .str c := by
          rw [List.getElem?_map] at hv1
          cases e : es[j]? with
          | none => rw [e] at hv1; cases hv1
          | some c => rw [e] at hv1; cases hv1; exact ⟨c, rfl, rfl⟩
        have e1 : inV (.str c) (Kn.map V.str) = decide (c ∈ Kn) := inV_strs
        have e2 : inV (.str c) (Dn.map V.str) = decide (c ∈ Dn) := inV_strs
        have fin : ∀ b : Bool, (b = true ↔ c ∈ Kn ∨ c ∈ Dn) → ∃ acc, H3 D = some (.lst acc) ∧ acc.length < sizeLine ∧ (Same H (upd H3 D (.lst (acc ++ [.bl b]))) ∧ upd H3 D (.lst (acc ++ [.bl b])) t2 = some (.tup (es.map V.str)) ∧ ∃ bs : List Bool, upd H3 D (.lst (acc ++ [.bl b])) D = some (.lst (bs.map V.bl)) ∧ bs.length ≤ 8 * i + (j + 1) ∧ (bs.all id = true ↔ (∀ y ∈ Kn.take i, ∀ c ∈ callsOf (bodyOf p y), c ∈ Kn ∨ c ∈ Dn) ∧ ∀ c ∈ es.take (j + 1), c ∈ Kn ∨ c ∈ Dn)) := fun b hbb => by
          refine ⟨_, hDy, small1000 (by rw [List.length_map]; omega), same_upd hD sy, by rw [upd_ne ntD]; exact hty, bs' ++ [b], by rw [upd_same, List.map_append]; rfl, by rw [List.length_append]; show bs'.length + 1 ≤ _; omega, ?_⟩
          rw [all_snoc, hb', take_snoc hc, hbb]
          constructor
          · rintro ⟨⟨a1, a2⟩, a3⟩
            exact ⟨a1, fun d hd => (List.mem_append.mp hd).elim (a2 d) fun h => by rw [List.mem_singleton.mp h]; exact a3⟩
          · rintro ⟨a1, a2⟩
            exact ⟨⟨a1, fun d hd => a2 d (List.mem_append_left _ hd)⟩, a2 c (List.mem_append_right _ (List.mem_singleton.mpr rfl))⟩
        refine ⟨rfl, _, rfl, _, rfl, t, _, rfl, .inr (SqT.of (sy _ _ ht)), rfl, flat_strs, _, rfl, ite2 (fun h0 => ?_) (fun h0 => ?_)⟩
        · have h0 : decide (c ∈ Kn) = true := by rw [← e1]; exact h0
          exact fin true ⟨fun _ => .inl (of_decide_eq_true h0), fun _ => rfl⟩
        · have h0 : ¬ c ∈ Kn := fun z => h0 (show inV (.str c) (Kn.map V.str) = true by rw [e1, decide_eq_true z])
          refine ⟨_, rfl, _, rfl, l, _, rfl, .inl (SqL.of (sy _ _ hl)), rfl, flat_strs, ?_⟩
          show ∃ acc, _ ∧ _
          rw [show inV (.str c) (Dn.map V.str) = decide (c ∈ Dn) from e2]
          exact fin (decide (c ∈ Dn)) ⟨fun z => .inr (of_decide_eq_true z), fun z => decide_eq_true (z.elim (fun k => absurd k h0) id)⟩
      · rintro Hy ⟨sy, hty, bs', hDy, lb', hb'⟩
        rw [show es.take (es.map V.str).length = es from List.take_of_length_le (by simp)] at hb'
        rw [List.length_map] at lb'
        refine ⟨sy, bs', hDy, by omega, ?_⟩
        rw [hb', take_snoc hy]
        constructor
        · rintro ⟨a1, a2⟩ d hd
          rcases List.mem_append.mp hd with h | h
          · exact a1 d h
          · rw [List.mem_singleton.mp h]
            exact fun c hc => a2 c ((asc.2.2 c).mpr hc)
        · intro a
          exact ⟨fun d hd => a d (List.mem_append_left _ hd), fun c hc => a y (List.mem_append_right _ (List.mem_singleton.mpr rfl)) c ((asc.2.2 c).mp hc)⟩
    · rintro Hx ⟨sx, bs, hDx, lb, hb⟩
      rw [List.take_of_length_le (by simp)] at hb
      exact ⟨D, _, rfl, SqL.of hDx, q _ _ hb sx⟩
end
end FR
set_option Elab.async false
set_option linter.all false
set_option maxRecDepth 100000
set_option maxHeartbeats 1000000
/-! the order of the knots -/
namespace FR
open PySem PySem.Spec PyProof.Rows L2
/-- whether a knot reaches nothing but itself and what is done -/
def freeB (rc : Str → List Str) (D K : List Str) : Bool := (rc (K.headD "")).all fun c => decide (c ∈ K) || decide (c ∈ D)
/-- the knots, each behind those that it calls -/
def ord (rc : Str → List Str) : Nat → List (List Str) → List Str → List (List Str)
  | 0, _, _ => []
  | n + 1, left, D => match left.filter (freeB rc D) with
    | [] => []
    | K :: _ => K :: ord rc n (left.filter fun k => !decide (k = K)) (D ++ K)
section
variable {p : Pg} {rc : Str → List Str}
/-- what is left and what is done -/
structure Left (p : Pg) (rc : Str → List Str) (left : List (List Str)) (D : List Str) : Prop where
  knot : ∀ K ∈ left, ∃ z ∈ names p, K = kn rc z ∧ K.head? = some z
  all : ∀ z ∈ names p, z ∈ D ∨ kn rc z ∈ left
  not : ∀ K ∈ left, ∀ y ∈ K, y ∉ D
  shut : Shut p D
theorem free_iff (hp : Prg p) (hn : (names p).Nodup) (h : IsRc p rc) {left : List (List Str)} {D K : List Str} (l : Left p rc left D) (hK : K ∈ left) : freeB rc D K = true ↔ ∀ y ∈ K, ∀ c ∈ callsOf (bodyOf p y), c ∈ K ∨ c ∈ D := by
  obtain ⟨z, hz, e, hd⟩ := l.knot K hK
  have e1 : K.headD "" = z := by
    cases K with
    | nil => cases hd
    | cons x k => exact Option.some.inj hd
  unfold freeB
  rw [e1, List.all_eq_true]
  rw [e]
  rw [calls_reach hp hn h hz l.shut]
  constructor
  · intro a c hc
    have := a c hc
    rw [Bool.or_eq_true] at this
    exact this.imp of_decide_eq_true of_decide_eq_true
  · intro a c hc
    rw [Bool.or_eq_true]
    exact (a c hc).imp (fun i => decide_eq_true i) fun i => decide_eq_true i
theorem left_some (hp : Prg p) (hn : (names p).Nodup) (h : IsRc p rc) {left : List (List Str)} {D : List Str} (l : Left p rc left D) (ne : left ≠ []) : left.filter (freeB rc D) ≠ [] := by
  obtain ⟨K, hK⟩ := List.exists_mem_of_ne_nil left ne
  obtain ⟨z, hz, e, hd⟩ := l.knot K hK
  have zK : z ∈ K := by rw [e]; exact kn_self hp hn h hz
  obtain ⟨y, hy, yd, hf⟩ := some_free hp hn h (D := D) (rc z).length z hz (l.not K hK z zK) (Nat.le_refl _)
  have ky : kn rc y ∈ left := (l.all y hy).elim (fun i => absurd i yd) id
  intro c
  have : kn rc y ∈ left.filter (freeB rc D) := List.mem_filter.mpr ⟨ky, (free_iff hp hn h l ky).mpr ((calls_reach hp hn h hy l.shut).mpr hf)⟩
  rw [c] at this
  exact absurd this List.not_mem_nil
theorem left_next (hp : Prg p) (hn : (names p).Nodup) (h : IsRc p rc) {left : List (List Str)} {D K : List Str} (l : Left p rc left D) (hK : K ∈ left) (f : freeB rc D K = true) : Left p rc (left.filter fun k => !decide (k = K)) (D ++ K) := by
  obtain ⟨z, hz, e, hd⟩ := l.knot K hK
  refine ⟨fun k hk => l.knot k (List.mem_filter.mp hk).1, fun y hy => ?_, fun k hk y hy hD => ?_, ?_⟩
  · rcases l.all y hy with i | i
    · exact .inl (List.mem_append_left _ i)
    · by_cases c : kn rc y = K
      · exact .inl (List.mem_append_right _ (by rw [← c]; exact kn_self hp hn h hy))
      · exact .inr (List.mem_filter.mpr ⟨i, by rw [decide_eq_false c]; rfl⟩)
  · obtain ⟨hk1, hk2⟩ := List.mem_filter.mp hk
    rcases List.mem_append.mp hD with i | i
    · exact l.not k hk1 y hy i
    · obtain ⟨z2, hz2, e2, _⟩ := l.knot k hk1
      have a : kn rc y = k := by rw [e2]; rw [e2] at hy; exact kn_eq hp hn h hz2 hy
      have b : kn rc y = K := by rw [e]; rw [e] at i; exact kn_eq hp hn h hz i
      rw [decide_eq_true (a.symm.trans b)] at hk2
      exact absurd hk2 (by decide)
  · have a := (free_iff hp hn h l hK).mp f
    rw [e] at a ⊢
    exact shut_more hp hn h hz l.shut a
theorem left_start (hp : Prg p) (hn : (names p).Nodup) (h : IsRc p rc) : Left p rc (kns p rc) [] := by
  refine ⟨fun K hK => ?_, fun z hz => .inr ?_, fun _ _ _ _ => List.not_mem_nil, fun y hy => absurd hy List.not_mem_nil⟩
  · obtain ⟨z, hz, hm⟩ := List.mem_flatMap.mp hK
    by_cases c : (kn rc z).head? = some z
    · rw [if_pos c] at hm
      rw [List.mem_singleton.mp hm]
      exact ⟨z, hz, rfl, c⟩
    · rw [if_neg c] at hm
      exact absurd hm List.not_mem_nil
  · have k0 := kn_self hp hn h hz
    obtain ⟨y, ys, ek⟩ : ∃ y ys, kn rc z = y :: ys := by
      cases e : kn rc z with
      | nil => rw [e] at k0; exact absurd k0 List.not_mem_nil
      | cons y ys => exact ⟨y, ys, rfl⟩
    have hy : y ∈ kn rc z := by rw [ek]; exact List.mem_cons_self
    have yn := ((mem_kn hp hn h hz).mp hy).1.names hp hn hz
    have e := kn_eq hp hn h hz hy
    refine List.mem_flatMap.mpr ⟨y, yn, ?_⟩
    rw [if_pos (by rw [e, ek]; rfl), e]
    exact List.mem_singleton.mpr rfl
end
end FR
set_option Elab.async false
set_option linter.all false
set_option maxRecDepth 100000
set_option maxHeartbeats 4000000
/-! xs.extend(t) of a tuple -/
namespace FR
open PySem PySem.Spec PyProof.Rows L2 PySem.AutoSeq1
theorem meets_ext (l b : Addr) (xs ys : Array Value) (n m : Nat) (dct : Option Addr) (sl : Array (Option Value)) (door : ¬(!xs.isEmpty && Builtin.List.listTooLong (xs.size + ys.size)) = true) (hx : xs.size ≤ sizeLine) (hxy : xs.size + ys.size ≤ sizeLine + 1) :
    Meets (Builtin.«list.extend» ⟨[.ref l, .ref b], []⟩) (fun _ R s => (s.heap.get? l = some { cls := .type "list", dict := none, data := .seq xs n, slots := #[] } ∧
      s.heap.get? b = some { cls := .type "tuple", dict := dct, data := .seq ys m, slots := sl }) ∧ R (.ok (.ret Value.none)) { s with heap := s.heap.update l (Obj.mapSeq fun x => x ++ ys), toks := s.toks }) := by
  refine .of_wp fun prog w A R s z => ?_
  obtain ⟨hp, g, d, tk, os⟩ := s
  obtain ⟨⟨hl, hb⟩, z⟩ := z
  have i1 := idx_int
  have i2 := AutoSeq1.sub_tuple_tuple
  have i3 := AutoSeq1.sub_list_list
  have i4 := AutoSeq1.sub_tuple_list
  have i5 := AutoSeq1.sub_list_tuple
  have join : (xs ++ ys).size ≤ sizeLine + 1 := by
    rw [Array.size_append]
    exact hxy
  wp_walk using (wpAny_updateSeq hl rfl (hz := hx) (_hz' := join)), wpAny_loadPart' hl, wpAny_loadPart' hb
  exact ⟨_, rfl, z⟩
/-- xs.extend(t): the list grows by what the tuple holds -/
def rExtT (K : PySem.W.Frag) : V → List V → Hp → VK → Prop := fun x vs H Q => ∃ l b xs zs, x = .ref l ∧ vs = [.ref b] ∧ H l = some (.lst xs) ∧ SqT K H b zs ∧ xs.length + zs.length ≤ sizeLine ∧ Q .non (upd H l (.lst (xs ++ zs)))
theorem mt_extT {X : Cx} {K : PySem.W.Frag} (hK : X.K = K) : MtM X "list.extend" (rExtT K) := by
  subst hK
  intro pins s σ H x vs v us Q I rx rv h
  obtain ⟨l, b, xs, zs, e1, e2, hH, hB, hz, q⟩ := h
  subst e1 e2
  cases rx
  obtain ⟨u, eu, ru⟩ := rv.one
  subst eu
  cases ru
  obtain ⟨y, its, n, r, ln, e⟩ := I.lstM hH
  obtain ⟨its2, r2, ⟨o, ho, oc, m, od⟩, ln2⟩ := I.tuple hB
  obtain ⟨cls, dct, dat, sl⟩ := o
  cases oc
  cases od
  have l1 := Paired.length r
  have l2 := Paired.length r2
  have fits : its.toArray.size + its2.toArray.size ≤ sizeLine := by
    rw [List.size_toArray, List.size_toArray]
    omega
  refine call_meets F.slot_list_extend ⟨_, e, rfl⟩ F.entry_list_extend (F.args_list_extend_2 _ _) (meets_ext l b its.toArray its2.toArray n m dct sl ?_ (by omega) (by omega)) ⟨⟨e, ho⟩, ?_⟩
  · rw [notLongL fits, Bool.and_false]
    decide
  · refine ⟨.non, _, I.lset (its' := its ++ its2) hH e (by simp) (r.append r2) ?_, rfl, q⟩
    rw [List.length_append]
    omega
end FR
set_option Elab.async false
set_option linter.all false
set_option maxRecDepth 100000
set_option maxHeartbeats 1000000
/-! knots, knot_of -/
namespace FR
open PySem PySem.Spec PyProof.Rows L2
abbrev sKs : Stmt := FR.top 41
abbrev NKs : List Str := ["free", "left", "ahead", "found", "knot", "one"]
theorem scKs : FnScope NKs ["free"] (defScope sKs) := ⟨rfl, rfl, rfl, by decide +kernel, rfl, by decide +kernel, by decide +kernel⟩
theorem eqvAll_strs : ∀ xs ys : List Str, PyData.eqvAll (xs.map PyData.str) (ys.map PyData.str) = decide (xs = ys)
  | [], [] => by simp [PyData.eqvAll]
  | [], _ :: _ => by simp [PyData.eqvAll]
  | _ :: _, [] => by simp [PyData.eqvAll]
  | x :: xs, y :: ys => by
    have ih := eqvAll_strs xs ys
    rw [List.map_cons, List.map_cons, PyData.eqvAll, ih]
    by_cases a : x = y
    · subst a
      by_cases b : xs = ys
      · simp [PyData.eqv, b]
      · simp [PyData.eqv, b]
    · simp [PyData.eqv, a]
theorem eqv_tupS (xs ys : List Str) : PyData.eqv (.tuple (xs.map PyData.str)) (.tuple (ys.map PyData.str)) = decide (xs = ys) := by
  rw [PyData.eqv]
  exact eqvAll_strs xs ys
theorem plTupS (xs : List Str) : PlainD (.tuple (xs.map PyData.str)) := (PlN.tup (n := 0) (strPl xs)).pl (by decide)
/-- a knot in memory -/
def KnT (H : Hp) (v : V) (k : List Str) : Prop := ∃ t, v = .ref t ∧ H t = some (.tup (k.map V.str))
theorem KnT.same {H H' : Hp} {v : V} {k : List Str} (h : KnT H v k) (s : Same H H') : KnT H' v k := by
  obtain ⟨t, e, h⟩ := h
  exact ⟨t, e, s _ _ h⟩
theorem KnT.list {H : Hp} {l : Addr} {ws : List V} {o : HO} {v : V} {k : List Str} (h : KnT H v k) (hl : H l = some (.lst ws)) : KnT (upd H l o) v k := by
  obtain ⟨t, e, h⟩ := h
  exact ⟨t, e, by rw [upd_ne (fun c => by rw [c, hl] at h; cases h)]; exact h⟩
section
variable {P : Program} {w : World} {K : PySem.W.Frag} {mg : Str → Option Value} {base : Heap}
def total (p : Pg) (rc : Str → List Str) : List (List Str) := ord rc (kns p rc).length (kns p rc) []
def spKs (K : PySem.W.Frag) (C : Addr) : Sp := fun vs H Q _ => ∃ x p rc, vs = [.ref x] ∧ IsPg K C H x p ∧ Prg p ∧ (names p).Nodup ∧ IsRc p rc ∧ ∀ t us H', H t = none → Same H H' → H' t = some (.tup us) → AG (KnT H') us (total p rc) → Q (.ref t) H'
theorem ok_ks {f C : Addr} {fd : FuncData} (F : Fun K "knots" "knots" sKs f fd) (ml : mg "len" = none) (mt : mg "tuple" = none) (gCf : Glo P w K mg base "check_free" 1 ["free"] (spCf K C)) (gUk : Glo P w K mg base "_unordered_knots" 11 ["free"] (spUk K C)) (gCs : Glo P w K mg base "_calls_only" 10 ["free", "knot", "ahead"] (spCs K C)) : FnOk P w K mg base CX0 12 f fd ["free"] (spKs K C) := by
  refine F.ok scKs (fun vs H Q E h => ?_) (fun cdv A outer s H vs Q E hr h => ?_)
  · obtain ⟨x, p, rc, rfl, _⟩ := h
    rfl
  · obtain ⟨x, p, rc, rfl, hi, hp, hn, hrc, q⟩ := h
    refine ⟨_, (pss_cons (ps_expr (pe_call gCf.G (hr.mono (by decide)) (by rfl) gCf.m gCf.k gCf.b .nil pass0 (pa_cons (pv 0) pa_nil)))
      (pss_cons (ps_set (i := 1) scKs.nd rfl (Or.inl rfl) (pe_call gUk.G (hr.mono (by decide)) (by rfl) gUk.m gUk.k gUk.b .nil pass0 (pa_cons (pv 0) pa_nil)))
      (pss_cons (ps_set (i := 2) scKs.nd rfl (Or.inr rfl) (pe_lst pa_nil))
      (pss_cons (ps_set (i := 3) scKs.nd rfl (Or.inl rfl) (pe_lst pa_nil))
      (pss_cons (ps_while PassesOwn.never (pt_cmpR op_gt (pe_callB call_len_seq (by rfl) ml PySem.boot_len (pa_cons (pv 1) pa_nil)) pe_int (nomark _)) (pss_cons (ps_set (i := 4) scKs.nd rfl (Or.inr rfl) (pe_ix ix_list (pe_lc (X := (cxOf CX0 P w K mg base NKs "knots" (defScope sKs) f cdv A outer s H E).nox) (own := [("one", 5)]) (g := (gName 5)) rfl scKs.nd (pi_list (pv 1)) (blkOk_by (N := NKs) (sc := defScope sKs) (by decide +kernel)) (fun _ _ _ _ _ => (pg_name (i := 5) scKs.nd rfl (.inl rfl))) (fun _ _ _ _ _ => (pts_one (pt_val (pe_call gCs.G (hr.mono (by decide)) (by rfl) gCs.m gCs.k gCs.b .nil pass0 (pa_cons (pv 0) (pa_cons (pv 5) (pa_cons (pv 2) pa_nil))))))) (fun _ _ _ _ _ => (pv 5))) pe_int (fun _ _ => rfl)))
      (pss_cons (ps_expr (pe_bm PySem.F.plainAttrs_list PySem.F.slot_list_append PySem.F.type_list_append mt_append (pv 3) (pa_cons (pv 4) pa_nil)))
      (pss_cons (ps_expr (pe_bm PySem.F.plainAttrs_list PySem.F.slot_list_extend PySem.F.type_list_extend (mt_extT (K := K) rfl) (pv 2) (pa_cons (pv 4) pa_nil)))
      (pss_one (ps_setLc (i := 1) (X := (cxOf CX0 P w K mg base NKs "knots" (defScope sKs) f cdv A outer s H E).nox) (own := [("one", 5)]) (g := (gName 5)) rfl scKs.nd rfl rfl (sw_true rfl rfl rfl (by decide +kernel)) (pi_list (pv 1)) (blkOk_by (N := NKs) (sc := defScope sKs) (by decide +kernel)) (fun _ _ _ _ _ => (pg_name (i := 5) scKs.nd rfl (.inl rfl))) (fun _ _ _ _ _ => (pts_one (pt_cmpR (op_neP (K := K) rfl hr.units) (pv 5) (pv 4) (nomark _)))) (fun _ _ _ _ _ => (pv 5))))))))
      (pss_one (ps_ret (pe_callTy call_tuple_of (by rfl) mt (by decide +kernel) (pa_cons (pv 3) pa_nil))))))))), ?_⟩
    have l8 := hp.len.2
    refine ⟨_, rfl, x, p, rfl, hi, ?_⟩
    refine ⟨_, rfl, x, p, rc, rfl, hi, hp, hn, hrc, fun l us H1 nl s1 hl hus => ?_⟩
    refine ⟨Nat.zero_le _, fun ao hao => ?_⟩
    have s2 := same_new (o := .lst []) hao
    have ha2 : upd H1 ao (.lst []) ao = some (.lst []) := upd_same
    have hl2 := s2 _ _ hl
    have hus2 := hus.imp (R' := KnT (upd H1 ao (.lst []))) fun _ _ h => KnT.same h s2
    have s02 := s1.trans s2
    have nao : H ao = none := none_of_same s1 hao
    have nal : ao ≠ l := fun c => by rw [c, hl] at hao; cases hao
    generalize upd H1 ao (.lst []) = H2 at s2 ha2 hl2 hus2 s02 ⊢
    refine ⟨Nat.zero_le _, fun fo hfo => ?_⟩
    have s3 := same_new (o := .lst []) hfo
    have hf3 : upd H2 fo (.lst []) fo = some (.lst []) := upd_same
    have ha3 := s3 _ _ ha2
    have hl3 := s3 _ _ hl2
    have hus3 := hus2.imp (R' := KnT (upd H2 fo (.lst []))) fun _ _ h => KnT.same h s3
    have s03 := s02.trans s3
    have nfo : H fo = none := none_of_same s02 hfo
    have nfl : fo ≠ l := fun c => by rw [c, hl2] at hfo; cases hfo
    have nfa : fo ≠ ao := fun c => by rw [c, ha2] at hfo; cases hfo
    generalize upd H2 fo (.lst []) = H3 at s3 hf3 ha3 hl3 hus3 s03 ⊢
    clear hus hus2 hl hl2 ha2 s2 s3 s1 s02 hao hfo
    have kl : (kns p rc).length ≤ 8 := by
      have a : ∀ l : List Str, (l.flatMap fun z => if (kn rc z).head? = some z then [kn rc z] else []).length ≤ l.length := fun l => by
        induction l with
        | nil => exact Nat.le_refl _
        | cons z l ih =>
          rw [List.flatMap_cons, List.length_append, List.length_cons]
          split
          · show 1 + _ ≤ _
            omega
          · show 0 + _ ≤ _
            omega
      have b : (names p).length = p.length := List.length_map _
      exact Nat.le_trans (a (names p)) (by omega)
    refine ⟨fun m σ Hc => ∃ (l : Addr) (x4 : Option V) (left done : List (List Str)) (D : List Str) (us vs : List V), σ = [some (.ref x), some (.ref l), some (.ref ao), some (.ref fo), x4, none] ∧ Same H Hc ∧ (H l = none ∧ ao ≠ l ∧ fo ≠ l) ∧ Hc l = some (.lst us) ∧ AG (KnT Hc) us left ∧ Hc ao = some (.lst (D.map V.str)) ∧ Hc fo = some (.lst vs) ∧ AG (KnT Hc) vs done ∧ Left p rc left D ∧ (D.Nodup ∧ ∀ y ∈ D, y ∈ names p) ∧ left.length ≤ m ∧ done.length + m ≤ 8 ∧ done ++ ord rc m left D = total p rc, ⟨(kns p rc).length, l, _, kns p rc, [], [], us, [], rfl, s03, ⟨nl, nal, nfl⟩, hl3, hus3, ha3, hf3, AG.nil, left_start hp hn hrc, ⟨List.nodup_nil, fun y hy => absurd hy List.not_mem_nil⟩, Nat.le_refl _, by show 0 + _ ≤ 8; omega, rfl⟩, ?_⟩
    clear hl3 hus3 ha3 hf3 s03 nl nal nfl
    rintro m σ Hc ⟨l, x4, left, done, D, us, vs, rfl, sc, ⟨nl, nal, nfl⟩, hl, hus, ha, hf, hvs, lft, ⟨dn, dd⟩, lm, dm, tot⟩
    refine ⟨_, rfl, l, _, rfl, .inl (SqL.of hl), _, _, rfl, rfl, _, rfl, ite2 (fun h0 => ?_) (fun h0 => ?_)⟩
    · refine ⟨_, fun σ' H' h => h, ?_⟩
      have ne : left ≠ [] := fun e => by
        have := hus.1
        rw [e] at this
        have h1 := of_decide_eq_true h0
        rw [this] at h1
        exact absurd h1 (by decide)
      have fne := left_some hp hn hrc lft ne
      refine ⟨_, rfl, l, rfl, ⟨_, SqL.of hl⟩, fun D1 hD1 => ?_⟩
      refine lc_it (walk_list (xs := us)) (fun j Hx => Same Hc Hx ∧ ∃ ws, Hx D1 = some (.lst ws) ∧ AG (KnT Hx) ws ((left.take j).filter (freeB rc D))) ⟨same_new hD1, [], upd_same, AG.nil⟩ (fun j Hx _ z => SqL.of (z.1 _ _ hl)) ?_ ?_
      · rintro j v Hx H' hj ⟨sx, ws, hDx, hws⟩ ⟨rfl, hv⟩
        obtain ⟨Kn, hK, t, rfl, ht⟩ := hus.2 j v hv
        have mK := List.mem_of_getElem? hK
        obtain ⟨z, hz, eK, hd⟩ := lft.knot Kn mK
        have Ks : ∀ y ∈ Kn, y ∈ names p := fun y hy => by
          rw [eK] at hy
          exact (((mem_kn hp hn hrc hz).mp hy).1).names hp hn hz
        have k8 : Kn.length ≤ 8 := by
          have := nodup_le (hrc z hz).2.1 fun c hc => (((hrc z hz).2.2 c).mp hc).names hp hn hz
          rw [List.length_map] at this
          have h2 : Kn.length ≤ (rc z).length := by rw [eK]; exact List.length_filter_le _ _
          omega
        refine ⟨rfl, _, rfl, _, rfl, _, rfl, x, t, ao, p, Kn, D, rfl, hi.same (sc.trans sx), hp, hn, sx _ _ ht, Ks, k8, sx _ _ ha, fun r H2 hr2 s2 => ?_⟩
        have er : r = freeB rc D Kn := by
          rw [Bool.eq_iff_iff]
          exact hr2.trans (free_iff hp hn hrc lft mK).symm
        have gs : (left.take (j + 1)).filter (freeB rc D) = (left.take j).filter (freeB rc D) ++ (if freeB rc D Kn = true then [Kn] else []) := by
          rw [take_snoc hK, List.filter_append]
          congr 1
          rw [List.filter_cons]
          split <;> rfl
        have hD2 := s2 _ _ hDx
        have hw2 := hws.imp (R' := KnT H2) fun _ _ h => KnT.same h s2
        have ht2 := s2 _ _ (sx _ _ ht)
        refine ⟨_, rfl, ite2 (fun h0 => ?_) (fun h0 => ?_)⟩
        · rw [← er, if_pos h0] at gs
          have lw : ws.length ≤ left.length := by
            rw [hws.1]
            exact Nat.le_trans (List.length_filter_le _ _) (by rw [List.length_take]; omega)
          refine ⟨_, rfl, _, hD2, small1000 (by omega), same_upd hD1 (sx.trans s2), ws ++ [.ref t], upd_same, ?_⟩
          rw [gs]
          exact AG.snoc (hw2.imp fun _ _ h => KnT.list h hD2) (KnT.list ⟨t, rfl, ht2⟩ hD2)
        · rw [← er, if_neg h0, List.append_nil] at gs
          exact ⟨sx.trans s2, ws, hD2, by rw [gs]; exact hw2⟩
      · rintro Hx ⟨sx, ws, hDx, hws⟩
        rw [List.take_of_length_le (by rw [hus.1]; exact Nat.le_refl _)] at hws
        obtain ⟨Kn, more, ef⟩ : ∃ Kn more, left.filter (freeB rc D) = Kn :: more := by
          cases e : left.filter (freeB rc D) with
          | nil => exact absurd e fne
          | cons a l => exact ⟨a, l, rfl⟩
        rw [ef] at hws
        obtain ⟨v0, ws', rfl⟩ : ∃ v0 ws', ws = v0 :: ws' := by
          cases ws with
          | nil => exact absurd hws.1 (by simp)
          | cons a l => exact ⟨a, l, rfl⟩
        obtain ⟨t, rfl, ht⟩ := hws.uncons.1
        obtain ⟨mK, fK⟩ := List.mem_filter.mp (show Kn ∈ left.filter (freeB rc D) by rw [ef]; exact List.mem_cons_self)
        obtain ⟨z, hz, eK, hd⟩ := lft.knot Kn mK
        have Ks : ∀ y ∈ Kn, y ∈ names p := fun y hy => by
          rw [eK] at hy
          exact (((mem_kn hp hn hrc hz).mp hy).1).names hp hn hz
        have Kd : Kn.Nodup := by rw [eK]; exact (hrc z hz).2.1.filter _
        have lD : D.length ≤ 8 := by
          have := nodup_le dn dd
          rw [List.length_map] at this
          omega
        have lK : Kn.length ≤ 8 := by
          have := nodup_le Kd Ks
          rw [List.length_map] at this
          omega
        have lv : vs.length = done.length := hvs.1
        have lu : us.length = left.length := hus.1
        refine ⟨D1, _, 0, .ref t, rfl, rfl, SqL.of hDx, atI_nat (j := 0) rfl, ?_⟩
        have hf2 := sx _ _ hf
        have ha2 := sx _ _ ha
        have hl2 := sx _ _ hl
        have hus2 := hus.imp (R' := KnT Hx) fun _ _ h => KnT.same h sx
        have hvs2 := hvs.imp (R' := KnT Hx) fun _ _ h => KnT.same h sx
        have scx := sc.trans sx
        refine ⟨_, rfl, .inl ⟨rfl, _, SqL.of hf2⟩, _, rfl, fo, vs, _, rfl, rfl, hf2, small1000 (by omega), ?_⟩
        have naf : ao ≠ fo := fun c => nfa c.symm
        have s3 : Same H (upd Hx fo (.lst (vs ++ [.ref t]))) := same_upd nfo scx
        have hf3 : upd Hx fo (.lst (vs ++ [.ref t])) fo = some (.lst (vs ++ [.ref t])) := upd_same
        have ha3 : upd Hx fo (.lst (vs ++ [.ref t])) ao = _ := (upd_ne naf).trans ha2
        have hl3 : upd Hx fo (.lst (vs ++ [.ref t])) l = _ := (upd_ne (Ne.symm nfl)).trans hl2
        have hus3 := hus2.imp (R' := KnT (upd Hx fo (.lst (vs ++ [.ref t])))) fun _ _ h => KnT.list h hf2
        have hvs3 := AG.snoc (hvs2.imp (R' := KnT (upd Hx fo (.lst (vs ++ [.ref t])))) fun _ _ h => KnT.list h hf2) (KnT.list ⟨t, rfl, ht⟩ hf2)
        have ht3 : KnT (upd Hx fo (.lst (vs ++ [.ref t]))) (.ref t) Kn := KnT.list ⟨t, rfl, ht⟩ hf2
        generalize upd Hx fo (.lst (vs ++ [.ref t])) = H3 at s3 hf3 ha3 hl3 hus3 hvs3 ht3 ⊢
        clear hf2 ha2 hl2 hus2 hvs2 hws hDx ht
        obtain ⟨t', et, ht3⟩ := ht3
        cases et
        refine ⟨_, rfl, .inl ⟨rfl, _, SqL.of ha3⟩, _, rfl, ao, t, _, _, rfl, rfl, ha3, SqT.of ht3, Nat.le_of_lt (small1000 (by rw [List.length_map, List.length_map]; omega)), ?_⟩
        have e4 : D.map V.str ++ Kn.map V.str = (D ++ Kn).map V.str := (List.map_append ..).symm
        have s4 : Same H (upd H3 ao (.lst (D.map V.str ++ Kn.map V.str))) := same_upd nao s3
        have ha4 : upd H3 ao (.lst (D.map V.str ++ Kn.map V.str)) ao = some (.lst ((D ++ Kn).map V.str)) := by rw [upd_same, e4]
        have hf4 : upd H3 ao (.lst (D.map V.str ++ Kn.map V.str)) fo = _ := (upd_ne nfa).trans hf3
        have hl4 : upd H3 ao (.lst (D.map V.str ++ Kn.map V.str)) l = _ := (upd_ne (Ne.symm nal)).trans hl3
        have hus4 := hus3.imp (R' := KnT (upd H3 ao (.lst (D.map V.str ++ Kn.map V.str)))) fun _ _ h => KnT.list h ha3
        have hvs4 := hvs3.imp (R' := KnT (upd H3 ao (.lst (D.map V.str ++ Kn.map V.str)))) fun _ _ h => KnT.list h ha3
        have ht4 : KnT (upd H3 ao (.lst (D.map V.str ++ Kn.map V.str))) (.ref t) Kn := KnT.list ⟨t, rfl, ht3⟩ ha3
        generalize upd H3 ao (.lst (D.map V.str ++ Kn.map V.str)) = H4 at s4 hf4 ha4 hl4 hus4 hvs4 ht4 ⊢
        clear hf3 ha3 hl3 hus3 hvs3 ht3
        obtain ⟨t', et, ht4⟩ := ht4
        cases et
        refine ⟨_, rfl, l, rfl, ⟨_, SqL.of hl4⟩, fun D2 hD2 => ?_⟩
        refine lc_it (walk_list (xs := us)) (fun j Hy => Same H4 Hy ∧ ∃ ws, Hy D2 = some (.lst ws) ∧ AG (KnT Hy) ws ((left.take j).filter fun k => !decide (k = Kn))) ⟨same_new hD2, [], upd_same, AG.nil⟩ (fun j Hy _ z => SqL.of (z.1 _ _ hl4)) ?_ ?_
        · rintro j v Hy H' hj ⟨sy, ws2, hDy, hw2⟩ ⟨rfl, hv⟩
          obtain ⟨k, hk, t2, rfl, ht2⟩ := hus4.2 j v hv
          have gs : (left.take (j + 1)).filter (fun k => !decide (k = Kn)) = (left.take j).filter (fun k => !decide (k = Kn)) ++ (if (!decide (k = Kn)) = true then [k] else []) := by
            rw [take_snoc hk, List.filter_append]
            congr 1
            rw [List.filter_cons]
            split <;> rfl
          have ht2y := sy _ _ ht2
          refine ⟨rfl, _, rfl, _, rfl, .tuple (k.map PyData.str), .tuple (Kn.map PyData.str), .tup (SqT.of ht2y) (dpStrs k), .tup (SqT.of (sy _ _ ht4)) (dpStrs Kn), plTupS k, plTupS Kn, ?_⟩
          rw [eqv_tupS]
          refine ⟨_, rfl, ite2 (fun h0 => ?_) (fun h0 => ?_)⟩
          · rw [if_pos h0] at gs
            have lw : ws2.length ≤ left.length := by
              rw [hw2.1]
              exact Nat.le_trans (List.length_filter_le _ _) (by rw [List.length_take]; omega)
            refine ⟨_, rfl, _, hDy, small1000 (by omega), same_upd hD2 sy, ws2 ++ [.ref t2], upd_same, ?_⟩
            rw [gs]
            exact AG.snoc (hw2.imp fun _ _ h => KnT.list h hDy) (KnT.list ⟨t2, rfl, ht2y⟩ hDy)
          · rw [if_neg h0, List.append_nil] at gs
            exact ⟨sy, ws2, hDy, by rw [gs]; exact hw2⟩
        · rintro Hy ⟨sy, ws2, hDy, hw2⟩
          rw [List.take_of_length_le (by rw [hus.1]; exact Nat.le_refl _)] at hw2
          have lf : (left.filter fun k => !decide (k = Kn)).length < left.length :=
            List.length_filter_lt_length_iff_exists.mpr ⟨Kn, mK, by rw [decide_eq_true rfl]; decide⟩
          refine ⟨m - 1, by omega, D2, _, _, _, _, ws2, _, rfl, s4.trans sy, ⟨none_of_same s4 hD2, (fun c => by rw [c, hD2] at ha4; cases ha4), (fun c => by rw [c, hD2] at hf4; cases hf4)⟩, hDy, hw2, sy _ _ ha4, sy _ _ hf4, hvs4.imp fun _ _ h => KnT.same h sy, left_next hp hn hrc lft mK fK, ⟨?_, ?_⟩, by omega, by rw [List.length_append]; show _ + 1 + _ ≤ 8; omega, ?_⟩
          · exact List.nodup_append.mpr ⟨dn, Kd, fun a ha b hb e => lft.not Kn mK b hb (by rw [← e]; exact ha)⟩
          · exact fun y hy => (List.mem_append.mp hy).elim (dd y) (Ks y)
          · rw [← tot]
            cases m with
            | zero => omega
            | succ n =>
              have eo : ord rc (n + 1) left D = Kn :: ord rc n (left.filter fun k => !decide (k = Kn)) (D ++ Kn) := by
                show (match left.filter (freeB rc D) with | [] => [] | K :: _ => K :: ord rc n (left.filter fun k => !decide (k = K)) (D ++ K)) = _
                rw [ef]
              rw [eo, List.append_assoc]
              rfl
    · have e0 : left = [] := by
        have := hus.1
        cases left with
        | nil => rfl
        | cons a l => exact absurd (decide_eq_true (show (us.length : Int) > 0 by rw [this, List.length_cons]; omega)) h0
      subst e0
      have eo : ord rc m [] D = [] := by cases m <;> rfl
      rw [eo, List.append_nil] at tot
      subst tot
      refine ⟨_, rfl, fo, vs, rfl, .inl ⟨SqL.of hf, fun tk htk => ?_⟩⟩
      exact q tk vs _ (none_of_same sc htk) (sc.trans (same_new htk)) upd_same (hvs.imp fun _ _ h => KnT.same h (same_new htk))
end
end FR
set_option Elab.async false
set_option linter.all false
set_option maxRecDepth 100000
set_option maxHeartbeats 1000000
/-! each name is in one knot of the order; the knots by their heads -/
namespace FR
open PySem PySem.Spec PyProof.Rows L2
section
variable {p : Pg} {rc : Str → List Str}
theorem ord_one (hp : Prg p) (hn : (names p).Nodup) (h : IsRc p rc) {z : Str} (hz : z ∈ names p) : ∀ (n : Nat) (left : List (List Str)) (D : List Str), Left p rc left D → left.length ≤ n → (ord rc n left D).filter (fun k => decide (z ∈ k)) = if z ∈ D then [] else [kn rc z] := by
  intro n
  induction n with
  | zero =>
    intro left D l e
    have e0 : left = [] := List.length_eq_zero_iff.mp (Nat.le_zero.mp e)
    subst e0
    have hD : z ∈ D := (l.all z hz).elim id fun i => absurd i List.not_mem_nil
    rw [if_pos hD]
    rfl
  | succ n ih =>
    intro left D l e
    show (match left.filter (freeB rc D) with | [] => [] | K :: _ => K :: ord rc n (left.filter fun k => !decide (k = K)) (D ++ K)).filter _ = _
    cases ef : left.filter (freeB rc D) with
    | nil =>
      have e0 : left = [] := by
        by_cases c : left = []
        · exact c
        · exact absurd ef (left_some hp hn h l c)
      subst e0
      have hD : z ∈ D := (l.all z hz).elim id fun i => absurd i List.not_mem_nil
      rw [if_pos hD]
      rfl
    | cons K more =>
      obtain ⟨mK, fK⟩ := List.mem_filter.mp (show K ∈ left.filter (freeB rc D) by rw [ef]; exact List.mem_cons_self)
      obtain ⟨y, hy, eK, _⟩ := l.knot K mK
      have lf : (left.filter fun k => !decide (k = K)).length < left.length := List.length_filter_lt_length_iff_exists.mpr ⟨K, mK, by rw [decide_eq_true rfl]; decide⟩
      have nx := ih _ _ (left_next hp hn h l mK fK) (by omega)
      show (K :: ord rc n (left.filter fun k => !decide (k = K)) (D ++ K)).filter _ = _
      rw [List.filter_cons, nx]
      by_cases c : z ∈ K
      · rw [if_pos (decide_eq_true c), if_pos (List.mem_append_right _ c), if_neg (l.not K mK z c), eK]
        rw [eK] at c
        rw [kn_eq hp hn h hy c]
      · rw [if_neg (fun q => c (of_decide_eq_true q))]
        by_cases d : z ∈ D
        · rw [if_pos d, if_pos (List.mem_append_left _ d)]
        · rw [if_neg d, if_neg (fun q => (List.mem_append.mp q).elim d c)]
theorem total_one (hp : Prg p) (hn : (names p).Nodup) (h : IsRc p rc) {z : Str} (hz : z ∈ names p) : (total p rc).filter (fun k => decide (z ∈ k)) = [kn rc z] := by
  unfold total
  rw [ord_one hp hn h hz _ _ _ (left_start hp hn h) (Nat.le_refl _), if_neg List.not_mem_nil]
theorem ord_sub : ∀ (n : Nat) (left : List (List Str)) (D : List Str), ∀ k ∈ ord rc n left D, k ∈ left
  | 0, _, _, k, hk => absurd hk List.not_mem_nil
  | n + 1, left, D, k, hk => by
    have hk : k ∈ (match left.filter (freeB rc D) with | [] => [] | K :: _ => K :: ord rc n (left.filter fun k => !decide (k = K)) (D ++ K)) := hk
    cases ef : left.filter (freeB rc D) with
    | nil => rw [ef] at hk; exact absurd hk List.not_mem_nil
    | cons K more =>
      rw [ef] at hk
      rcases List.mem_cons.mp hk with e | e
      · rw [e]
        exact (List.mem_filter.mp (show K ∈ left.filter (freeB rc D) by rw [ef]; exact List.mem_cons_self)).1
      · exact (List.mem_filter.mp (ord_sub n _ _ k e)).1
theorem ord_len : ∀ (n : Nat) (left : List (List Str)) (D : List Str), (ord rc n left D).length ≤ n
  | 0, _, _ => Nat.le_refl _
  | n + 1, left, D => by
    show (match left.filter (freeB rc D) with | [] => [] | K :: _ => K :: ord rc n (left.filter fun k => !decide (k = K)) (D ++ K)).length ≤ _
    cases left.filter (freeB rc D) with
    | nil => exact Nat.zero_le _
    | cons K more => exact Nat.succ_le_succ (ord_len n _ _)
theorem kns_len (hp : Prg p) : (kns p rc).length ≤ 8 := by
  have a : ∀ l : List Str, (l.flatMap fun z => if (kn rc z).head? = some z then [kn rc z] else []).length ≤ l.length := fun l => by
    induction l with
    | nil => exact Nat.le_refl _
    | cons z l ih =>
      rw [List.flatMap_cons, List.length_append, List.length_cons]
      split
      · show 1 + _ ≤ _; omega
      · show 0 + _ ≤ _; omega
  have b : (names p).length = p.length := List.length_map _
  exact Nat.le_trans (a (names p)) (by have := hp.len.2; omega)
theorem total_len (hp : Prg p) : (total p rc).length ≤ 8 := Nat.le_trans (ord_len _ _ _) (kns_len hp)
theorem total_kn (hp : Prg p) (hn : (names p).Nodup) (h : IsRc p rc) : ∀ k ∈ total p rc, ∃ z ∈ names p, k = kn rc z ∧ k.head? = some z := fun k hk => (left_start hp hn h).knot k (ord_sub _ _ _ k hk)
/-- the heads of the knots -/
theorem kns_heads (hp : Prg p) : kns p rc = ((names p).filter fun z => decide ((kn rc z).head? = some z)).map (kn rc) := by
  unfold kns
  induction names p with
  | nil => rfl
  | cons z l ih =>
    rw [List.flatMap_cons, List.filter_cons, ih]
    by_cases c : (kn rc z).head? = some z
    · rw [if_pos c, if_pos (decide_eq_true c)]; rfl
    · rw [if_neg c, if_neg (fun q => c (of_decide_eq_true q))]; rfl
theorem kns_is (hp : Prg p) (hn : (names p).Nodup) (hs : sortedS (names p) = true) (h : IsRc p rc) {N : List (List Str)} (nd : N.Nodup) (ms : ∀ k, k ∈ N ↔ ∃ z ∈ names p, k = kn rc z) (pw : N.Pairwise fun a b => leS (a.headD Str.empty) (b.headD Str.empty)) : N = kns p rc := by
  have hd : ∀ k ∈ N, ∃ z ∈ names p, k = kn rc z ∧ k.head? = some z ∧ k.headD Str.empty = z := fun k hk => by
    obtain ⟨y, hy, e⟩ := (ms k).mp hk
    have k0 := kn_self hp hn h hy
    obtain ⟨x, xs, ek⟩ : ∃ x xs, kn rc y = x :: xs := by
      cases q : kn rc y with
      | nil => rw [q] at k0; exact absurd k0 List.not_mem_nil
      | cons x xs => exact ⟨x, xs, rfl⟩
    have hx : x ∈ kn rc y := by rw [ek]; exact List.mem_cons_self
    have xn := ((mem_kn hp hn h hy).mp hx).1.names hp hn hy
    exact ⟨x, xn, by rw [e, kn_eq hp hn h hy hx], by rw [e, ek]; rfl, by rw [e, ek]; rfl⟩
  have e1 : N = (N.map fun k => k.headD Str.empty).map (kn rc) := by
    rw [List.map_map]
    refine (List.map_id N).symm.trans (List.map_congr_left fun k hk => ?_)
    obtain ⟨z, _, e, _, e3⟩ := hd k hk
    show k = kn rc (k.headD Str.empty)
    rw [e3, ← e]
  rw [kns_heads hp, e1]
  congr 1
  have sub : ((names p).filter fun z => decide ((kn rc z).head? = some z)).Sublist (names p) := List.filter_sublist
  have pw1 : (N.map fun k => k.headD Str.empty).Pairwise leS := List.pairwise_map.mpr pw
  have nd1 : (N.map fun k => k.headD Str.empty).Nodup := List.pairwise_map.mpr (List.Pairwise.imp_of_mem (fun {a b} ha hb hne e => by
    obtain ⟨y, _, ea, _, fa⟩ := hd a ha
    obtain ⟨z, _, eb, _, fb⟩ := hd b hb
    have e : a.headD Str.empty = b.headD Str.empty := e
    exact hne (by rw [ea, eb, ← fa, ← fb, e])) nd)
  have nd2 := sub.nodup hn
  have pw2 : ((names p).filter fun z => decide ((kn rc z).head? = some z)).Pairwise leS := (sorted_pair hs).sublist sub
  have same : ∀ z, z ∈ (N.map fun k => k.headD Str.empty) ↔ z ∈ ((names p).filter fun z => decide ((kn rc z).head? = some z)) := fun z => by
    constructor
    · intro m
      obtain ⟨k, hk, rfl⟩ := List.mem_map.mp m
      obtain ⟨y, hy, e, e2, e3⟩ := hd k hk
      rw [e3]
      exact List.mem_filter.mpr ⟨hy, decide_eq_true (by rw [← e]; exact e2)⟩
    · intro m
      obtain ⟨hy, c⟩ := List.mem_filter.mp m
      have c := of_decide_eq_true c
      refine List.mem_map.mpr ⟨kn rc z, (ms _).mpr ⟨z, hy, rfl⟩, ?_⟩
      cases q : kn rc z with
      | nil => rw [q] at c; cases c
      | cons x xs => rw [q] at c; exact Option.some.inj c
  exact (nodup_perm nd1 nd2 same).eq_of_pairwise (le := leS) (fun a b _ _ x y => leS_antisymm x y) pw1 pw2
end
end FR
set_option Elab.async false
set_option linter.all false
set_option maxRecDepth 100000
set_option maxHeartbeats 1000000
/-! knot_of -/
namespace FR
open PySem PySem.Spec PyProof.Rows L2
abbrev sKo : Stmt := FR.top 44
abbrev NKo : List Str := ["free", "name", "knot"]
theorem scKo : FnScope NKo ["free", "name"] (defScope sKo) := ⟨rfl, rfl, rfl, by decide +kernel, rfl, by decide +kernel, by decide +kernel⟩
section
variable {P : Program} {w : World} {K : PySem.W.Frag} {mg : Str → Option Value} {base : Heap}
def spKo (K : PySem.W.Frag) (C : Addr) : Sp := fun vs H Q _ => ∃ x z p rc, vs = [.ref x, .str z] ∧ IsPg K C H x p ∧ Prg p ∧ (names p).Nodup ∧ IsRc p rc ∧ z ∈ names p ∧ ∀ t H', Same H H' → KnT H' (.ref t) (kn rc z) → Q (.ref t) H'
theorem ok_ko {f C : Addr} {fd : FuncData} (F : Fun K "knot_of" "knot_of" sKo f fd) (gCf : Glo P w K mg base "check_free" 1 ["free"] (spCf K C)) (gCn : Glo P w K mg base "check_name" 2 ["free", "name"] (spCn K C)) (gKs : Glo P w K mg base "knots" 12 ["free"] (spKs K C)) : FnOk P w K mg base CX0 13 f fd ["free", "name"] (spKo K C) := by
  refine F.ok scKo (fun vs H Q E h => ?_) (fun cdv A outer s H vs Q E hr h => ?_)
  · obtain ⟨x, z, p, rc, rfl, _⟩ := h
    rfl
  · obtain ⟨x, z, p, rc, rfl, hi, hp, hn, hrc, hz, q⟩ := h
    refine ⟨_, (pss_cons (ps_expr (pe_call gCf.G (hr.mono (by decide)) (by rfl) gCf.m gCf.k gCf.b .nil pass0 (pa_cons (pv 0) pa_nil)))
      (pss_cons (ps_expr (pe_call gCn.G (hr.mono (by decide)) (by rfl) gCn.m gCn.k gCn.b .nil pass0 (pa_cons (pv 0) (pa_cons (pv 1) pa_nil))))
      (pss_one (ps_ret (pe_ix ix_list (pe_lc (X := (cxOf CX0 P w K mg base NKo "knot_of" (defScope sKo) f cdv A outer s H E).nox) (own := [("knot", 2)]) (g := (gName 2)) rfl scKo.nd (pi_tupK (K := K) rfl (pe_call gKs.G (hr.mono (by decide)) (by rfl) gKs.m gKs.k gKs.b .nil pass0 (pa_cons (pv 0) pa_nil))) (blkOk_by (N := NKo) (sc := defScope sKo) (by decide +kernel)) (fun _ _ _ _ _ => (pg_name (i := 2) scKo.nd rfl (.inl rfl))) (fun _ _ _ _ _ => (pts_one (pt_cmpR (op_in_seqK (K := K) rfl) (pv 1) (pv 2) rfl))) (fun _ _ _ _ _ => (pv 2))) pe_int (fun _ _ => rfl)))))), ?_⟩
    refine ⟨_, rfl, x, p, rfl, hi, ?_⟩
    refine ⟨_, rfl, _, rfl, x, z, p, rfl, hi, hz, ?_⟩
    refine ⟨_, rfl, x, p, rc, rfl, hi, hp, hn, hrc, fun t us H1 nt s1 ht hus => ⟨t, rfl, ⟨_, SqT.of ht⟩, fun D hD => ?_⟩⟩
    have tl := total_len (rc := rc) hp
    refine lc_it (walk_tup (xs := us)) (fun j Hx => Same H1 Hx ∧ ∃ ws, Hx D = some (.lst ws) ∧ AG (KnT Hx) ws (((total p rc).take j).filter fun k => decide (z ∈ k))) ⟨same_new hD, [], upd_same, AG.nil⟩ (fun j Hx _ y => SqT.of (y.1 _ _ ht)) ?_ ?_
    · rintro j v Hx H' hj ⟨sx, ws, hDx, hws⟩ ⟨rfl, hv⟩
      obtain ⟨k, hk, t2, rfl, ht2⟩ := hus.2 j v hv
      have ht2 := sx _ _ ht2
      have gs : ((total p rc).take (j + 1)).filter (fun k => decide (z ∈ k)) = ((total p rc).take j).filter (fun k => decide (z ∈ k)) ++ (if decide (z ∈ k) = true then [k] else []) := by
        rw [take_snoc hk, List.filter_append]
        congr 1
        rw [List.filter_cons]
        split <;> rfl
      have ei : inV (.str z) (k.map V.str) = decide (z ∈ k) := inV_strs
      refine ⟨rfl, _, rfl, _, rfl, t2, _, rfl, .inr (SqT.of ht2), rfl, flat_strs, _, rfl, ite2 (fun h0 => ?_) (fun h0 => ?_)⟩
      · have h0 : decide (z ∈ k) = true := by rw [← ei]; exact h0
        rw [if_pos h0] at gs
        have lw : ws.length ≤ 8 := by
          rw [hws.1]
          exact Nat.le_trans (List.length_filter_le _ _) (by rw [List.length_take]; omega)
        refine ⟨_, rfl, _, hDx, small1000 (by omega), same_upd hD sx, ws ++ [.ref t2], upd_same, ?_⟩
        rw [gs]
        exact AG.snoc (hws.imp fun _ _ h => KnT.list h hDx) (KnT.list ⟨t2, rfl, ht2⟩ hDx)
      · have h0 : ¬ decide (z ∈ k) = true := fun c => h0 (by rw [← ei] at c; exact c)
        rw [if_neg h0, List.append_nil] at gs
        exact ⟨sx, ws, hDx, by rw [gs]; exact hws⟩
    · rintro Hx ⟨sx, ws, hDx, hws⟩
      rw [List.take_of_length_le (by rw [hus.1]; exact Nat.le_refl _), total_one hp hn hrc hz] at hws
      obtain ⟨v0, rfl⟩ : ∃ v0, ws = [v0] := by
        have := hws.1
        match ws, this with
        | [v], _ => exact ⟨v, rfl⟩
      obtain ⟨t2, rfl, ht2⟩ := hws.uncons.1
      exact ⟨D, _, 0, .ref t2, rfl, rfl, SqL.of hDx, atI_nat (j := 0) rfl, q t2 Hx (s1.trans sx) ⟨t2, rfl, ht2⟩⟩
end
end FR
set_option Elab.async false
set_option linter.all false
set_option maxRecDepth 100000
set_option maxHeartbeats 2000000
/-! sets of tuples of texts: the search, an add -/
namespace SQ
open PySem PySem.Spec PyProof.Rows L2
section
variable {P : Program} {w : World} {A : Around} {E : Value → Shared → Prop} {s : Shared}
abbrev Tq (P : Program) (w : World) (h : Heap) (k : List Str) (b : Addr) : Prop := IsTupleKey (strKind P w) h k b
abbrev hq (P : Program) (w : World) (k : List Str) : Int := tupleKeyHash (strKind P w) k
def rq (P : Program) (w : World) (p : Addr × List Str) : Int × Value := (hq P w p.2, .ref p.1)
/-! ### small questions -/
theorem txs {k : List Str} {vs : List Value} (h : ItemsAre (strKind P w) k vs) : ∀ v ∈ vs, ∃ x t, v = Value.str x t := by
  induction h with
  | nil => exact fun v hv => absurd hv List.not_mem_nil
  | cons hk _ ih => exact fun v hv => (List.mem_cons.mp hv).elim (fun e => let ⟨t, z⟩ := Value.isStrOf_shape hk; ⟨_, t, e.trans z⟩) (ih v)
/-- a question asked of each item, which no text answers otherwise -/
theorem ask {vs : Array Value} {α : Type} {f : Value → Option α × PUnit → Sem (ForInStep (Option α × PUnit))} {Q : Option α × PUnit → Shared → Prop} (hv : ∀ v ∈ vs.toList, ∃ x t, v = Value.str x t)
    (hf : ∀ x t (r : Option α × PUnit) (s' : Shared) (Q' : ForInStep (Option α × PUnit) → Shared → Prop), Q' (.yield (none, PUnit.unit)) s' → wpAny (model P w) A (f (.str x t) r) Q' E s') (hQ : Q (none, PUnit.unit) s) :
    wpAny (model P w) A (forIn vs (none, PUnit.unit) f) Q E s := by
  rw [← Array.forIn_toList]
  refine wpAny_forIn_list _ (fun left r z => r = (none, PUnit.unit) ∧ z = s ∧ ∀ v ∈ left, ∃ x t, v = Value.str x t) _ ?_ ?_ _ _ ⟨rfl, rfl, hv⟩
  · rintro v left r z ⟨rfl, rfl, all⟩
    obtain ⟨x, t, rfl⟩ := all v List.mem_cons_self
    exact hf x t _ _ _ ⟨rfl, rfl, fun u hu => all u (List.mem_cons_of_mem _ hu)⟩
  · rintro r z ⟨rfl, rfl, _⟩
    exact hQ
theorem cls_no {k : List Str} {b : Addr} {Q : Bool → Shared → Prop} (hk : Tq P w s.heap k b) (h : Q false s) : wpAny (model P w) A (ofAClassStatement 8 (.ref b)) Q E s := by
  have ty := hk.typeIs
  obtain ⟨o, its, n, ho, _, hd, hi⟩ := hk
  unfold ofAClassStatement
  refine wpAny_bind (wpAny_typeOf ty ?_)
  have e : (("tuple" : String) == "tuple") = true := by decide
  simp only [e, if_true, Bool.not_true, Bool.false_eq_true, if_false]
  try refine wpAny_bind (wpAny_pure ?_)
  try simp only [Bool.not_true, Bool.false_eq_true, if_false]
  show wpAny _ _ (seqItems? (.ref b) >>= _) _ _ s
  refine wpAny_bind (wpAny_seqItems ho hd (wpAny_bind ?_))
  refine ask (txs hi) (fun x t r s' Q' q => ?_) (wpAny_pure h)
  exact wpAny_pure q
theorem hash_any {k : List Str} {b : Addr} {Q : Bool → Shared → Prop} (hk : Tq P w s.heap k b) (h : ∀ c, Q c s) : wpAny (model P w) A (hashByValue 8 (.ref b)) Q E s := by
  have ty := hk.typeIs
  obtain ⟨o, its, n, ho, _, hd, hi⟩ := hk
  unfold hashByValue
  refine wpAny_bind (wpAny_specialOf ty PySem.F.slot_tuple_hash.lookup ?_)
  show wpAny _ _ (seqItems? (.ref b) >>= _) _ _ s
  refine wpAny_bind (wpAny_seqItems ho hd (wpAny_bind ?_))
  have all := txs hi
  show wpAny _ _ (forIn its _ _) _ _ s
  rw [← Array.forIn_toList]
  cases e : its.toList with
  | nil => exact wpAny_pure (wpAny_pure (h true))
  | cons v r =>
    obtain ⟨x, t, rfl⟩ := all v (by rw [e]; exact List.mem_cons_self)
    rw [List.forIn_cons]
    refine wpAny_bind (wpAny_bind (wpAny_pure ?_))
    simp only [Bool.not_false, if_true]
    exact wpAny_pure (wpAny_pure (wpAny_pure (h false)))
/-- a search among such tuples shows nothing -/
theorem quiet {k : List Str} {b : Addr} {Q : Bool → Shared → Prop} (hk : Tq P w s.heap k b) {ys : List Value} (hy : ∀ y ∈ ys, ∃ j c, y = Value.ref c ∧ Tq P w s.heap j c) (h : Q false s) : wpAny (model P w) A (searchCouldBeSeen (.ref b) ys) Q E s := by
  unfold searchCouldBeSeen
  refine wpAny_bind (wpAny_forIn_list _ (fun left r z => r = (none, PUnit.unit) ∧ z = s ∧ ∀ y ∈ left, ∃ j c, y = Value.ref c ∧ Tq P w s.heap j c) _ ?_ ?_ _ _ ⟨rfl, rfl, hy⟩)
  · rintro v left r z ⟨rfl, rfl, all⟩
    obtain ⟨j, c, rfl, hc⟩ := all v List.mem_cons_self
    have more : ∀ y ∈ left, ∃ j c, y = Value.ref c ∧ Tq P w z.heap j c := fun u hu => all u (List.mem_cons_of_mem _ hu)
    by_cases hv : (b == c || (carriedByValue (.ref b) && carriedByValue (.ref c))) = true
    · exact wp_if_pos hv (wpAny_pure ⟨rfl, rfl, more⟩)
    · refine wp_if_neg hv (wpAny_bind (wpAny_eqIsQuiet_tuple hk ?_))
      simp only [Bool.not_true, Bool.false_eq_true, if_false]
      refine wpAny_bind (wpAny_eqIsQuiet_tuple hc ?_)
      simp only [Bool.not_true, Bool.false_eq_true, if_false]
      refine wpAny_bind (cls_no hk ?_)
      simp only [Bool.false_eq_true, if_false]
      refine wpAny_bind (cls_no hc ?_)
      simp only [Bool.false_eq_true, if_false]
      exact wpAny_pure ⟨rfl, rfl, more⟩
  · rintro r z ⟨rfl, rfl, _⟩
    exact wpAny_pure h
/-! ### the set in memory -/
structure Sq (P : Program) (w : World) (h : Heap) (a : Addr) (L : List (Addr × List Str)) (es : Array (Int × Value)) (ep : Nat) (t : SetTable) : Prop where
  obj : ∃ o, h.get? a = some o ∧ o.ExactSet ∧ o.data = .set es ep t
  els : es.toList = L.map (rq P w)
  tbl : TabOk t (L.map fun p => hq P w p.2)
  dif : (L.map Prod.snd).Nodup
  tps : ∀ p ∈ L, Tq P w h p.2 p.1
  ord : w.params.followText "set-order" = true ∨ t.led = true
  rm : L.length * 5 < t.mask * 3
  few : L.length ≤ 16
variable {a : Addr} {L : List (Addr × List Str)} {es : Array (Int × Value)} {ep : Nat} {t : SetTable}
theorem Sq.sz (R : Sq P w s.heap a L es ep t) : es.size = L.length := by
  rw [← Array.length_toList, R.els, List.length_map]
theorem Sq.psz (R : Sq P w s.heap a L es ep t) : t.place.size = L.length := by rw [R.tbl.sz, List.length_map]
theorem Sq.fit (R : Sq P w s.heap a L es ep t) : t.fits es.size = true := by
  have h1 := R.psz
  have h2 := R.sz
  have h3 := R.rm
  unfold SetTable.fits SetTable.fill
  rw [R.tbl.dm, h2]
  simp only [Bool.and_eq_true, beq_iff_eq, decide_eq_true_eq]
  exact ⟨h1, by show t.place.size + 0 ≤ t.mask; omega⟩
theorem Sq.at_ (R : Sq P w s.heap a L es ep t) {i : Nat} {p : Addr × List Str} (h : L[i]? = some p) : es[i]? = some (rq P w p) := by
  rw [← Array.getElem?_toList, R.els, List.getElem?_map, h]
  rfl
theorem Sq.hash (R : Sq P w s.heap a L es ep t) {i : Nat} {p : Addr × List Str} (h : L[i]? = some p) : (es[i]?.map Prod.fst).getD 0 = hq P w p.2 := by
  rw [R.at_ h]
  rfl
/-- the c-th stop of the way of a hash -/
abbrev stop (m : Nat) (h : Int) (c : Nat) : SetTable.Probe := nth m (runAt m (SetTable.bits h % (m + 1)) (SetTable.bits h)) c
theorem stop_add (m : Nat) (h : Int) (c q : Nat) : nth m (stop m h c) q = stop m h (c + q) := (nth_add m c _ q).symm
theorem no_dummy (m : Nat) : ∀ (n : Nat) (p : SetTable.Probe), p.dummy = none → (nth m p n).dummy = none
  | 0, _, h => h
  | n + 1, p, h => no_dummy m n (adv m p) (by unfold adv; split <;> exact h)
end
end SQ
set_option Elab.async false
set_option linter.all false
set_option maxRecDepth 100000
set_option maxHeartbeats 2000000
/-! sets of tuples of texts: the search -/
namespace SQ
open PySem PySem.Spec PyProof.Rows L2
section
variable {P : Program} {w : World} {A : Around} {E : Value → Shared → Prop} {s : Shared} {a : Addr} {L : List (Addr × List Str)} {es : Array (Int × Value)} {ep : Nat} {t : SetTable}
/-- the search goes on from the c-th stop; K is the first free one -/
theorem seek (R : Sq P w s.heap a L es ep t) {x : Addr} {k : List Str} (hx : Tq P w s.heap k x) (hu : A.units < cLine) {K : Nat} (lK : K < 10 * SetTable.turns t.mask) (free : (stop t.mask (hq P w k) K).j ∉ t.place.toList)
    (full : ∀ c, c < K → (stop t.mask (hq P w k) c).j ∈ t.place.toList) {Q : SetFound → Shared → Prop} (yes : k ∈ L.map Prod.snd → Q (.there none) s) (no : k ∉ L.map Prod.snd → Q (.free (stop t.mask (hq P w k) K).j false) s) :
    ∀ (f c : Nat) (st : Option SetTable.Probe), st.getD (t.probeStart (hq P w k)) = stop t.mask (hq P w k) c → c ≤ K → K - c < f →
      (∀ (i : Nat) p, L[i]? = some p → p.2 = k → ∃ d, c ≤ d ∧ d < K ∧ t.place.toList[i]? = some (stop t.mask (hq P w k) d).j) → wpAny (model P w) A (setSearchFrom a (.ref x) (hq P w k) true f st) Q E s := by
  obtain ⟨o, ho, hex, hd⟩ := R.obj
  have gw : ¬ t.gaveWay = true := by
    unfold SetTable.gaveWay
    rw [mask_odd R.tbl.mok]
    decide
  have gt : ∀ (i : Nat) p, L[i]? = some p → (fun i => (es[i]?.map (·.1)).getD 0) i = hq P w p.2 := fun i p e => R.hash e
  intro f
  induction f with
  | zero => exact fun c st _ _ h => absurd h (Nat.not_lt_zero _)
  | succ f ih =>
    intro c st est hc hf ahead
    rw [setSearchFrom_succ]
    refine wpAny_bind (wpAny_setState_of ho hd R.fit ?_)
    dsimp only
    refine wp_if_neg gw ?_
    try refine wpAny_bind (wpAny_pure ?_)
    rw [est]
    have go := go_spec t R.tbl.ris R.tbl.dm (fun i => (es[i]?.map (·.1)).getD 0) (hq P w k) (10 * SetTable.turns t.mask) (K - c) (stop t.mask (hq P w k) c) (no_dummy t.mask c _ rfl) (by omega)
      (fun q hq' => by rw [stop_add]; exact full (c + q) (by omega)) (by rw [stop_add, show c + (K - c) = K by omega]; exact free)
    simp only [stop_add] at go
    rcases go with ⟨q, i, lq, hi, hh, first, pr⟩ | ⟨none_, pr⟩
    · have pr' : t.probe (fun i => (es[i]?.map (·.1)).getD 0) (hq P w k) (stop t.mask (hq P w k) c) = some (.candidate (stop t.mask (hq P w k) (c + q)).j i (stop t.mask (hq P w k) (c + (q + 1)))) := pr
      rw [pr']
      dsimp only
      have li : i < L.length := by
        have z := (List.getElem?_eq_some_iff.mp hi).1
        rw [Array.length_toList, R.psz] at z
        exact z
      obtain ⟨p, hp⟩ : ∃ p, L[i]? = some p := ⟨L[i], List.getElem?_eq_getElem li⟩
      have mp := List.mem_of_getElem? hp
      have sl := slot_live R.tbl.ris hi
      have rest : wpAny (model P w) A (searchRest a (.ref x) (hq P w k) true f es t (stop t.mask (hq P w k) (c + q)).j i (stop t.mask (hq P w k) (c + (q + 1)))) Q E s := by
        unfold searchRest
        rw [R.at_ hp]
        show wpAny _ _ (holding [Value.ref p.1] (eqBool (Value.ref p.1) (.ref x)) >>= _) _ _ s
        refine wpAny_bind (wpAny_holding (wpAny_eqBool_tuple hu (R.tps p mp) hx (wpAny_bind (wpAny_setState_of ho hd R.fit ?_))))
        dsimp only
        by_cases ek : p.2 = k
        · refine wp_if_pos (by simp [ek]) (wpAny_pure (yes ?_))
          exact List.mem_map.mpr ⟨p, mp, ek⟩
        · refine wp_if_neg (by simp [ek]) ?_
          try refine wpAny_bind (wpAny_pure ?_)
          rw [sameMem]
          dsimp only
          simp only [if_true, sl, R.at_ hp]
          refine wpAny_bind (wpAny_isSame_ref_self (wpAny_bind (wpAny_pure ?_)))
          simp only [if_true]
          refine wp_if_neg (by simp [ek]) (ih (c + (q + 1)) _ rfl (by omega) (by omega) fun j r hj er => ?_)
          obtain ⟨d, d1, d2, d3⟩ := ahead j r hj er
          refine ⟨d, ?_, d2, d3⟩
          rcases Nat.lt_trichotomy d (c + q) with z | z | z
          · refine absurd ?_ (first (d - c) j (by omega) (by rw [show c + (d - c) = d by omega]; exact d3))
            exact (gt j r hj).trans (by rw [er])
          · rw [z] at d3
            have e2 := (slot_live R.tbl.ris d3).symm.trans sl
            injection e2 with e2
            rw [e2, hp] at hj
            exact absurd ((congrArg Prod.snd (Option.some.inj hj)).trans er) ek
          · omega
      by_cases hl : t.led = true
      · refine wp_if_neg (by simp [hl]) ?_
        try refine wpAny_bind (wpAny_pure ?_)
        exact rest
      · refine wp_if_pos (by simp [hl]) (wpAny_bind (quiet hx (fun y hy => ?_) ?_))
        · obtain ⟨e, he, rfl⟩ := List.mem_map.mp hy
          have me : e ∈ es.toList := by
            have z : e ∈ es ∧ e.1 = hq P w k := by simpa using he
            simpa using z.1
          rw [R.els] at me
          obtain ⟨r, hr, rfl⟩ := List.mem_map.mp me
          exact ⟨r.2, r.1, rfl, R.tps r hr⟩
        · refine wp_if_neg (by decide) ?_
          try refine wpAny_bind (wpAny_pure ?_)
          exact rest
    · rw [show c + (K - c) = K by omega] at pr
      have pr' : t.probe (fun i => (es[i]?.map (·.1)).getD 0) (hq P w k) (stop t.mask (hq P w k) c) = some (.empty (stop t.mask (hq P w k) K).j none) := pr
      rw [pr']
      refine wpAny_pure (no fun hm => ?_)
      obtain ⟨r, hr, er⟩ := List.mem_map.mp hm
      obtain ⟨j, hj⟩ := List.mem_iff_getElem?.mp hr
      obtain ⟨d, d1, d2, d3⟩ := ahead j r hj er
      refine none_ (d - c) j (by omega) (by rw [show c + (d - c) = d by omega]; exact d3) ?_
      exact (gt j r hj).trans (by rw [er])
/-- the search that an add asks for -/
theorem sought (R : Sq P w s.heap a L es ep t) {x : Addr} {k : List Str} (hx : Tq P w s.heap k x) (hu : A.units < cLine) {Q : SetFound → Shared → Prop} (yes : k ∈ L.map Prod.snd → Q (.there none) s)
    (no : ∀ K, k ∉ L.map Prod.snd → way t.mask (hq P w k) K ∉ t.place.toList → (∀ c, c < K → way t.mask (hq P w k) c ∈ t.place.toList) → Q (.free (way t.mask (hq P w k) K) false) s) :
    wpAny (model P w) A (setSearch a (.ref x) (hq P w k) true) Q E s := by
  have rm := R.rm
  obtain ⟨K, lK, free, full⟩ := R.tbl.first (by rw [List.length_map]; omega) (hq P w k)
  have small : 10 * SetTable.turns t.mask ≤ 1420 := by
    unfold SetTable.turns
    rcases R.tbl.mok with e | e | e <;> omega
  refine seek R hx hu lK free full yes (fun n => no K n free full) 100000 0 none rfl (Nat.zero_le _) (by omega) fun i p hp ek => ?_
  have li : i < t.place.toList.length := by
    have z := (List.getElem?_eq_some_iff.mp hp).1
    rw [Array.length_toList, R.psz]
    exact z
  have hj := List.getElem?_eq_getElem li
  obtain ⟨c, hc, e⟩ := R.tbl.before free (i := i) (by rw [List.getElem?_map, hp, ← ek]; rfl) hj
  exact ⟨c, Nat.zero_le _, hc, by rw [hj, ← e]⟩
end
end SQ
set_option Elab.async false
set_option linter.all false
set_option maxRecDepth 100000
set_option maxHeartbeats 4000000
/-! sets of tuples of texts: an add, the table's growth -/
namespace SQ
open PySem PySem.Spec PyProof.Rows L2
theorem range_all {α : Type} : ∀ (l pre : List α), (List.range' pre.length l.length).filterMap (fun i => (pre ++ l)[i]?) = l
  | [], _ => rfl
  | x :: l, pre => by
    have z := range_all l (pre ++ [x])
    rw [List.length_append, List.append_assoc] at z
    show (List.range' pre.length (l.length + 1)).filterMap _ = _
    rw [List.range'_succ, List.filterMap_cons_some (b := x) (by simp)]
    exact congrArg (x :: ·) z
theorem range_self {α : Type} (l : List α) : (List.range l.length).filterMap (fun i => l[i]?) = l := by
  rw [List.range_eq_range']
  exact range_all l []
section
variable {P : Program} {w : World} {A : Around} {E : Value → Shared → Prop} {s : Shared} {a : Addr} {L : List (Addr × List Str)} {es : Array (Int × Value)} {ep : Nat} {t : SetTable}
theorem el_at (hel : es.toList = L.map (rq P w)) (i : Nat) : es[i]? = L[i]?.map (rq P w) := by rw [← Array.getElem?_toList, hel, List.getElem?_map]
theorem order_of (hel : es.toList = L.map (rq P w)) (od : Array Nat) (pm : od.toList.Perm (List.range L.length)) : ∃ N : List (Addr × List Str), (od.filterMap (es[·]?)).toList = N.map (rq P w) ∧ N.Perm L ∧ (N.map fun p => hq P w p.2) = od.toList.map fun i => (es.map (·.1)).getD i 0 := by
  refine ⟨od.toList.filterMap fun i => L[i]?, ?_, ?_, ?_⟩
  · rw [List.map_filterMap]
    simp only [Array.toList_filterMap]
    congr 1
    funext i
    exact el_at hel i
  · have z := pm.filterMap fun i => L[i]?
    rw [range_self] at z
    exact z
  · have go : ∀ l : List Nat, (∀ i ∈ l, i < L.length) → ((l.filterMap fun i => L[i]?).map fun p => hq P w p.2) = l.map fun i => (es.map (·.1)).getD i 0 := fun l => by
      induction l with
      | nil => exact fun _ => rfl
      | cons i l ih =>
        intro h
        have e := List.getElem?_eq_getElem (h i List.mem_cons_self)
        rw [List.filterMap_cons_some e, List.map_cons, List.map_cons, ih fun j hj => h j (List.mem_cons_of_mem _ hj)]
        congr 1
        rw [Array.getD_eq_getD_getElem?, Array.getElem?_map, el_at hel, e]
        rfl
    exact go _ fun i hi => List.mem_range.mp (pm.mem_iff.mp hi)
/-- the tuples stay where the set alone is written -/
theorem tq_but {h h' : Heap} {k : List Str} {b : Addr} {o : Obj} (z : Tq P w h k b) (ho : h.get? a = some o) (hd : o.data = .set es ep t) (sb : Heap.SameBut a h h') : Tq P w h' k b := by
  obtain ⟨u, its, n, hu, c, d, i⟩ := z
  refine ⟨u, its, n, (sb.2 b fun e => ?_).trans hu, c, d, i⟩
  rw [e, ho] at hu
  rw [← Option.some.inj hu, hd] at d
  cases d
theorem laid_anew {o : Obj} (ho : s.heap.get? a = some o) (hex : o.ExactSet) (hd : o.data = .set es ep t) (hel : es.toList = L.map (rq P w)) (ps : t.place.size = L.length) (dm : t.dummies = #[]) (le : L.length ≤ t.mask) (dif : (L.map Prod.snd).Nodup)
    (tps : ∀ p ∈ L, Tq P w s.heap p.2 p.1) (ord : w.params.followText "set-order" = true ∨ t.led = true) (few : L.length ≤ 16) {wanted : Nat} (w1 : SetTable.sizeAbove wanted = 32) {Q : Unit → Shared → Prop}
    (hQ : ∀ h' L' es' ep' t', Heap.SameBut a s.heap h' → Sq P w h' a L' es' ep' t' → L'.Perm L → Q () { s with heap := h' }) : wpAny (model P w) A (setRelay a wanted) Q E s := by
  have sz : es.size = L.length := by rw [← Array.length_toList, hel, List.length_map]
  have fit : t.fits es.size = true := by
    unfold SetTable.fits SetTable.fill
    rw [dm, sz]
    simp only [Bool.and_eq_true, beq_iff_eq, decide_eq_true_eq]
    exact ⟨ps, by show t.place.size + 0 ≤ t.mask; omega⟩
  obtain ⟨t', od, e, pm, T, em, el, _, _⟩ := relaid_ok t (hs := es.map (·.1)) (wanted := wanted) (M := 31) (by rw [w1]) (.inr (.inl rfl)) (by rw [Array.size_map, sz]; omega)
  rw [Array.size_map, sz] at pm
  obtain ⟨N, n1, n2, n3⟩ := order_of hel od pm
  rw [← n3] at T
  have nsz : (od.filterMap (es[·]?)).size = es.size := by rw [← Array.length_toList, n1, List.length_map, n2.length_eq, sz]
  rw [setRelay_eq]
  refine wpAny_bind (wpAny_setState_of ho hd fit ?_)
  dsimp only
  refine wp_if_neg (by rw [w1]; decide) ?_
  try refine wpAny_bind (wpAny_pure ?_)
  rw [e]
  dsimp only
  refine wpAny_bind (wp_if_neg (by rw [nsz]; simp) ?_)
  try refine wpAny_bind (wpAny_pure ?_)
  refine wpAny_pure ?_
  dsimp only
  refine wpAny_storeSet_of ho hd ?_ (by rw [nsz, sz, sizeLine_eq]; omega)
  have sb : Heap.SameBut a s.heap (s.heap.update a (Obj.putSet (od.filterMap (es[·]?)) t')) := Heap.SameBut.update ..
  refine hQ _ N (od.filterMap (es[·]?)) (ep + 1) t' sb ⟨⟨_, store_at ho hd, ⟨hex.1, hex.2.1, hex.2.2⟩, rfl⟩, n1, T, (n2.map _).nodup_iff.mpr dif, fun p hp => tq_but (tps p (n2.mem_iff.mp hp)) ho hd sb, ?_, ?_, ?_⟩ n2
  · rw [el]; exact ord
  · rw [n2.length_eq, em]; omega
  · rw [n2.length_eq]; exact few
/-- one more, if it isn't there -/
theorem put (R : Sq P w s.heap a L es ep t) {x : Addr} {k : List Str} (hx : Tq P w s.heap k x) (hu : A.units < cLine) (room : L.length + 1 ≤ 16) {Q : Bool → Shared → Prop}
    (hQ : ∀ b h' L' es' ep' t', Heap.SameBut a s.heap h' → Sq P w h' a L' es' ep' t' → (k ∈ L.map Prod.snd → L' = L) → (k ∉ L.map Prod.snd → L'.Perm ((x, k) :: L)) → Q b { s with heap := h' }) : wpAny (model P w) A (setAddHashed a (.ref x) (hq P w k)) Q E s := by
  obtain ⟨o, ho, hex, hd⟩ := R.obj
  have sz := R.sz
  have rm := R.rm
  have psz := R.psz
  unfold setAddHashed
  refine wpAny_holding ?_
  rw [show (100000 : Nat) = 99999 + 1 from rfl, setAddHashedIn_succ]
  refine wpAny_bind (wpAny_setState_of ho hd R.fit ?_)
  dsimp only
  refine wp_if_neg (by simp [byScan, Value.scannable]) ?_
  try refine wpAny_bind (wpAny_pure ?_)
  refine wpAny_bind (sought R hx hu (fun hm => wpAny_pure (hQ false s.heap L es ep t (Heap.SameBut.refl a s.heap) R (fun _ => rfl) fun z => absurd hm z)) fun J hm free full => ?_)
  dsimp only
  refine wpAny_bind (wpAny_setState_of ho hd R.fit ?_)
  dsimp only
  obtain ⟨q1, q2, q3, q4, q5, q6, q7, q8, q9⟩ := R.tbl.put free full
  generalize hpt : t.put (way t.mask (hq P w k) J) = pt at q1 q3 q4 q5 q6 q7 q8 q9 ⊢
  obtain ⟨t1, p⟩ := pt
  dsimp only at q1 q3 q4 q5 q6 q7 q8 q9 ⊢
  subst q1
  have eH : (L.map fun p => hq P w p.2).length = L.length := List.length_map _
  rw [eH] at q2 q9
  generalize hJ : way t.mask (hq P w k) J = slot at q2 q3 ⊢
  generalize hpp : SetTable.below t.place slot = p at q2 q3 ⊢
  have pm : (L.take p ++ (x, k) :: L.drop p).Perm ((x, k) :: L) := by
    have z : (L.take p ++ (x, k) :: L.drop p).Perm ((x, k) :: (L.take p ++ L.drop p)) := List.perm_middle
    rw [List.take_append_drop] at z
    exact z
  have hin : (SetTable.insertAt es p (hq P w k, Value.ref x)).toList = (L.take p ++ (x, k) :: L.drop p).map (rq P w) := by
    rw [SetTable.toList_insertAt, R.els, List.map_append, List.map_cons, List.map_take, List.map_drop]
    rfl
  have hhs : (L.map fun p => hq P w p.2).take p ++ hq P w k :: (L.map fun p => hq P w p.2).drop p = (L.take p ++ (x, k) :: L.drop p).map fun p => hq P w p.2 := by
    rw [List.map_append, List.map_cons, List.map_take, List.map_drop]
  rw [hhs] at q3
  have hlen := pm.length_eq
  rw [List.length_cons] at hlen
  have dif1 : ((L.take p ++ (x, k) :: L.drop p).map Prod.snd).Nodup := (pm.map _).nodup_iff.mpr (by rw [List.map_cons]; exact List.nodup_cons.mpr ⟨hm, R.dif⟩)
  generalize SetTable.insertAt es p (hq P w k, Value.ref x) = es1 at hin ⊢
  generalize L.take p ++ (x, k) :: L.drop p = L1 at pm hlen q3 dif1 hin
  have hes : es1.size = L.length + 1 := by rw [← Array.length_toList, hin, List.length_map, hlen]
  have main : ∀ t2 : SetTable, TabOk t2 (L1.map fun p => hq P w p.2) → t2.mask = t.mask → t2.led = t.led → (t2.tooFull = decide ((L.length + 1) * 5 ≥ t2.mask * 3)) →
      wpAny (model P w) A (storeSet a es1 t2 >>= fun _ => if (!false && t2.tooFull) = true then (setRelay a (SetTable.grown (es.size + 1)) >>= fun _ => pure true) else pure true) Q E s := fun t2 T2 m2 l2 tf => by
    refine wpAny_bind (wpAny_storeSet_of ho hd ?_ (by rw [hes, sizeLine_eq]; omega))
    have sb : Heap.SameBut a s.heap (s.heap.update a (Obj.putSet es1 t2)) := Heap.SameBut.update ..
    have ho1 := store_at (es' := es1) (t' := t2) ho hd
    generalize s.heap.update a (Obj.putSet es1 t2) = h1 at sb ho1 ⊢
    have tps1 : ∀ p ∈ L1, Tq P w h1 p.2 p.1 := fun p hp => by
      rcases List.mem_cons.mp (pm.mem_iff.mp hp) with e | e
      · rw [e]; exact tq_but hx ho hd sb
      · exact tq_but (R.tps p e) ho hd sb
    have ord1 : w.params.followText "set-order" = true ∨ t2.led = true := by rw [l2]; exact R.ord
    by_cases hf : t2.tooFull = true
    · refine wp_if_pos (by simp [hf]) (wpAny_bind ?_)
      rw [tf, m2] at hf
      have hf := of_decide_eq_true hf
      have c7 : t.mask = 7 ∧ L.length = 4 := by
        rcases R.tbl.mok with e | e | e <;> rw [e] at hf rm <;> first | exact ⟨e, by omega⟩ | omega
      rw [sz, c7.2]
      refine laid_anew (s := { s with heap := h1 }) ho1 ⟨hex.1, hex.2.1, hex.2.2⟩ rfl hin (by rw [T2.sz, List.length_map]) T2.dm (by rw [hlen, m2]; omega) dif1 tps1 ord1 (by rw [hlen]; exact room) size_20 fun h2 L2 es2 ep2 t3 sb2 R2 pm2 => ?_
      exact wpAny_pure (hQ true h2 L2 es2 ep2 t3 (sb.trans sb2) R2 (fun z => absurd z hm) fun _ => pm2.trans pm)
    · refine wp_if_neg (by simp [hf]) (wpAny_pure (hQ true h1 L1 es1 (ep + 1) t2 sb ⟨⟨_, ho1, ⟨hex.1, hex.2.1, hex.2.2⟩, rfl⟩, hin, T2, dif1, tps1, ord1, ?_, by rw [hlen]; exact room⟩ (fun z => absurd z hm) fun _ => pm))
      rw [tf] at hf
      have hf2 : ¬ ((L.length + 1) * 5 ≥ t2.mask * 3) := fun z => hf (decide_eq_true z)
      rw [hlen]
      omega
  have tf1 : t1.tooFull = decide ((L.length + 1) * 5 ≥ t1.mask * 3) := by
    unfold SetTable.tooFull
    rw [q9]
  have two : ∀ b : Bool, wpAny (model P w) A (storeSet a es1 (if b = true then t1 else { t1 with plain := false }) >>= fun _ => if (!false && (if b = true then t1 else { t1 with plain := false }).tooFull) = true then (setRelay a (SetTable.grown (es.size + 1)) >>= fun _ => pure true) else pure true) Q E s := fun b => by
    cases b with
    | true => exact main t1 q3 q4 q5 tf1
    | false => exact main { t1 with plain := false } ⟨q3.ris, q3.dm, q3.sz, q3.mok, q3.bd, q3.reach⟩ q4 q5 tf1
  by_cases hp : t1.plain = true
  · exact wp_if_pos hp (wpAny_bind (hash_any hx two))
  · exact wp_if_neg hp (wpAny_bind (wpAny_pure (two true)))
end
end SQ
set_option Elab.async false
set_option linter.all false
set_option maxRecDepth 100000
set_option maxHeartbeats 4000000
/-! tuples of texts in their order: those whose first texts differ -/
namespace SQ
open PySem PySem.Spec PyProof.Rows L2
/-! ### a rank for texts -/
def lt (x y : Str) : Bool := decide (x.cps.toList < y.cps.toList)
theorem lt_irr (x : Str) : lt x x = false := decide_eq_false (List.lt_irrefl _)
theorem lt_tr {x y z : Str} (a : lt x y = true) (b : lt y z = true) : lt x z = true := decide_eq_true (List.lt_trans (of_decide_eq_true a) (of_decide_eq_true b))
theorem lt_tri {x y : Str} (a : lt x y = false) (b : lt y x = false) : x = y := by
  have a := of_decide_eq_false a
  have b := of_decide_eq_false b
  exact FR.leS_antisymm (FR.leS_iff.mpr (List.not_lt.mp b)) (FR.leS_iff.mpr (List.not_lt.mp a))
def rk (hs : List Str) (x : Str) : Nat := (hs.filter fun y => lt y x).length
theorem rk_le {hs : List Str} {x y : Str} (h : ∀ z, lt z x = true → lt z y = true) : rk hs x ≤ rk hs y := by
  unfold rk
  induction hs with
  | nil => exact Nat.le_refl _
  | cons z hs ih =>
    rw [List.filter_cons, List.filter_cons]
    by_cases c : lt z x = true
    · rw [if_pos c, if_pos (h z c)]
      exact Nat.succ_le_succ ih
    · rw [if_neg c]
      split
      · exact Nat.le_succ_of_le ih
      · exact ih
theorem rk_lt {hs : List Str} {x y : Str} (hx : x ∈ hs) (h : lt x y = true) : rk hs x < rk hs y := by
  have le : ∀ z, lt z x = true → lt z y = true := fun z c => lt_tr c h
  have go : ∀ l : List Str, x ∈ l → rk l x < rk l y := fun l => by
    induction l with
    | nil => exact fun m => absurd m List.not_mem_nil
    | cons z l ih =>
      intro m
      unfold rk
      rw [List.filter_cons, List.filter_cons]
      by_cases e : x = z
      · subst e
        rw [if_neg (by rw [lt_irr]; decide), if_pos h]
        exact Nat.lt_succ_of_le (rk_le le)
      · have i := ih ((List.mem_cons.mp m).resolve_left e)
        unfold rk at i
        by_cases c : lt z x = true
        · rw [if_pos c, if_pos (le z c)]
          exact Nat.succ_lt_succ i
        · rw [if_neg c]
          split
          · exact Nat.lt_succ_of_lt i
          · exact i
  exact go hs hx
theorem rk_is {hs : List Str} {x y : Str} (hx : x ∈ hs) (hy : y ∈ hs) : decide ((rk hs x : Int) < (rk hs y : Int)) = lt x y := by
  by_cases c : lt x y = true
  · rw [c]
    exact decide_eq_true (by have := rk_lt hx c; omega)
  · have c := Bool.eq_false_iff.mpr c
    rw [c]
    refine decide_eq_false fun z => ?_
    by_cases d : lt y x = true
    · have := rk_lt hy d
      omega
    · rw [lt_tri c (Bool.eq_false_iff.mpr d)] at z
      omega
section
variable {P : Program} {w : World} {A : Around} {E : Value → Shared → Prop} {s : Shared}
/-! ### what a sort asks -/
def txt1 (h : Heap) (v : Value) : Str := match v with
  | .ref a => (match h.get? a with
    | some o => (match o.data with
      | .seq xs _ => SX.txOf (xs.toList.headD .none)
      | _ => Str.empty)
    | none => Str.empty)
  | _ => Str.empty
theorem txt1_of {h : Heap} {a : Addr} {y : Str} {k : List Str} (z : Tq P w h (y :: k) a) : txt1 h (.ref a) = y := by
  obtain ⟨o, its, n, ho, _, hd, hi⟩ := z
  show (match h.get? a with | some o => _ | none => _) = _
  rw [ho]
  show (match o.data with | .seq xs _ => _ | _ => _) = _
  rw [hd]
  show SX.txOf (its.toList.headD .none) = y
  generalize its.toList = l at hi
  cases hi with
  | cons hk _ =>
    obtain ⟨t, e⟩ := Value.isStrOf_shape hk
    rw [e]
    rfl
/-- tuples that aren't empty, each of its own first text -/
def Hd (h : Heap) (P : Program) (w : World) (L : List (Addr × List Str)) : Prop := ∀ p ∈ L, Tq P w h p.2 p.1 ∧ ∃ y k, p.2 = y :: k
theorem lex_same {k : List Str} {b : Bool} {Q : Bool → Shared → Prop} : ∀ {xs ys : List Value} (i : Nat), ItemsAre (strKind P w) k xs → ItemsAre (strKind P w) k ys → Q false s → PySem.W.KatLex P w A b false Q (xs.zip ys) i s := by
  induction k with
  | nil =>
    intro xs ys i hx hy q
    cases hx
    exact PySem.W.kat_nil q
  | cons z k ih =>
    intro xs ys i hx hy q
    cases hx with
    | cons h1 r1 =>
      cases hy with
      | cons h2 r2 =>
        obtain ⟨t, rfl⟩ := Value.isStrOf_shape h1
        obtain ⟨u, rfl⟩ := Value.isStrOf_shape h2
        refine PySem.W.kat_cons (wpAny_eqBool_str ?_)
        rw [decide_eq_true rfl]
        exact PySem.W.kat_yes (ih (i + 1) r1 r2 q)
theorem firsts {h : Heap} : ∀ {L : List (Addr × List Str)}, Hd h P w L → ∃ fs, PySem.W.KatTups h (L.map fun p => Value.ref p.1) fs ∧ fs.length = L.length ∧ ∀ f ∈ fs, ∃ x t, f = Value.str x t
  | [], _ => ⟨[], PySem.W.KatTups.nil, rfl, fun f hf => absurd hf List.not_mem_nil⟩
  | p :: L, H => by
    obtain ⟨fs, k, hl, hi⟩ := firsts fun q hq => H q (List.mem_cons_of_mem _ hq)
    obtain ⟨⟨o, its, n, ho, hc, hd, it⟩, y, r, e⟩ := H p List.mem_cons_self
    rw [e] at it
    generalize el : its.toList = l at it
    cases it with
    | @cons _ v _ vs hk _ =>
      obtain ⟨t, rfl⟩ := Value.isStrOf_shape hk
      refine ⟨.str y t :: fs, PySem.W.KatTups.cons ho hc hd ?_ k, by rw [List.length_cons, List.length_cons, hl], fun f hf => (List.mem_cons.mp hf).elim (fun z => ⟨y, t, z⟩) (hi f)⟩
      rw [← Array.getElem?_toList, el]
      rfl
theorem kind_q {L : List (Addr × List Str)} {hs : List Str} (h2 : 2 ≤ L.length) (H : Hd s.heap P w L) (one : ∀ p ∈ L, ∀ q ∈ L, p.2.head? = q.2.head? → p.2 = q.2) (hh : ∀ p ∈ L, ∀ y k, p.2 = y :: k → y ∈ hs)
    (Q : SortKind → Shared → Prop) (h : ∀ κ, TS.Cmp P w A s κ (pairsOf (L.map fun p => Value.ref p.1)) (fun v => (rk hs (txt1 s.heap v) : Int)) → Q κ s) : wpAny (model P w) A (keyKind' (L.map fun p => Value.ref p.1).toArray) Q E s := by
  obtain ⟨fs, k, hl, hi⟩ := firsts H
  refine PySem.W.kat_kind (T := Value.type "str") k (by omega) (fun f hf => ?_) rfl (h _ ?_)
  · obtain ⟨x, t, rfl⟩ := hi f hf
    exact PySem.W.Looks.of_pure rfl
  · intro p q hp hq Q' E' hQ
    rw [pairsOf_toList] at hp hq
    obtain ⟨a, ma, ea⟩ := List.mem_map.mp (mem_zip_self hp).2
    obtain ⟨b, mb, eb⟩ := List.mem_map.mp (mem_zip_self hq).2
    obtain ⟨ta, ya, ka, e1⟩ := H a ma
    obtain ⟨tb, yb, kb, e2⟩ := H b mb
    have hQ : Q' (decide ((rk hs (txt1 s.heap p.1) : Int) < (rk hs (txt1 s.heap q.1) : Int))) s := hQ
    rw [← ea, ← eb] at hQ ⊢
    rw [e1] at ta
    rw [e2] at tb
    rw [txt1_of ta, txt1_of tb, rk_is (hh a ma ya ka e1) (hh b mb yb kb e2)] at hQ
    obtain ⟨o, its, n, ho, hc, hd, i1⟩ := ta
    obtain ⟨o', its', n', ho', hc', hd', i2⟩ := tb
    refine PySem.W.kat_lt ho hd ho' hd' ?_
    by_cases e : ya = yb
    · have ek := one a ma b mb (by rw [e1, e2, e]; rfl)
      rw [e1, e2] at ek
      rw [← ek] at i2
      rw [← e, lt_irr] at hQ
      have sz : ∀ {k : List Str} {xs ys : List Value}, ItemsAre (strKind P w) k xs → ItemsAre (strKind P w) k ys → xs.length = ys.length := fun {k xs ys} a b => by
        induction a generalizing ys with
        | nil => cases b; rfl
        | cons _ _ ih => cases b with | cons _ r => exact congrArg (· + 1) (ih r)
      have z := sz i1 i2
      rw [Array.length_toList, Array.length_toList] at z
      rw [show decide (its.size < its'.size) = false from decide_eq_false (by omega)]
      exact lex_same 0 i1 i2 hQ
    · generalize its.toList = l1 at i1
      generalize its'.toList = l2 at i2
      cases i1 with
      | cons h1 r1 =>
        cases i2 with
        | cons h2 r2 =>
          obtain ⟨t, rfl⟩ := Value.isStrOf_shape h1
          obtain ⟨u, rfl⟩ := Value.isStrOf_shape h2
          refine PySem.W.kat_cons (wpAny_eqBool_str ?_)
          rw [decide_eq_false e]
          exact PySem.W.kat_no (PyProof.Rows.oneLt_str hQ)
end
end SQ
set_option Elab.async false
set_option linter.all false
set_option maxRecDepth 100000
set_option maxHeartbeats 4000000
/-! set(a list of tuples of texts), sorted of such a set -/
namespace SQ
open PySem PySem.Spec PyProof.Rows L2
section
variable {P : Program} {w : World} {A : Around} {E : Value → Shared → Prop} {s : Shared} {a : Addr} {L : List (Addr × List Str)} {es : Array (Int × Value)} {ep : Nat} {t : SetTable}
theorem tq_keep {h h' : Heap} {k : List Str} {b : Addr} (z : Tq P w h k b) (kp : ∀ c o, h.get? c = some o → h'.get? c = some o) : Tq P w h' k b := by
  obtain ⟨o, its, n, ho, r⟩ := z
  exact ⟨o, its, n, kp _ _ ho, r⟩
theorem Sq.keep {h h' : Heap} (R : Sq P w h a L es ep t) (ha : ∀ o, h.get? a = some o → h'.get? a = some o) (ht : ∀ p ∈ L, Tq P w h' p.2 p.1) : Sq P w h' a L es ep t := by
  obtain ⟨⟨o, ho, r⟩, b, c, d, _, f, g, i⟩ := R
  exact ⟨⟨o, ha o ho, r⟩, b, c, d, ht, f, g, i⟩
theorem Sq.new {h : Heap} (ho : h.get? a = some (SX.sNew w)) : Sq P w h a [] #[] 0 (.fresh 0 0 (!w.params.followText "set-order")) where
  obj := ⟨_, ho, ⟨rfl, rfl, rfl⟩, rfl⟩
  els := rfl
  tbl := ⟨List.Pairwise.nil, rfl, rfl, .inl rfl, fun x hx => absurd hx (by simp [SetTable.fresh]), fun i h j e => by simp at e⟩
  dif := List.nodup_nil
  tps := fun p hp => absurd hp List.not_mem_nil
  ord := by
    show _ ∨ (!w.params.followText "set-order") = true
    cases w.params.followText "set-order"
    · exact .inr rfl
    · exact .inl rfl
  rm := by show 0 * 5 < 7 * 3; decide
  few := by decide
/-- what the first i of the tuples leave -/
structure Met (ks : List (Addr × List Str)) (i : Nat) (L : List (Addr × List Str)) : Prop where
  sub : ∀ p ∈ L, p ∈ ks
  all : ∀ p ∈ ks.take i, p.2 ∈ L.map Prod.snd
  len : L.length ≤ i
theorem upd_loop {I S : Addr} {fp wr : List Addr} {G : Array GenState → Array GenState → Prop} {n : Nat} {Pv : Nat → Value → Prop} {St : Nat → Shared → Prop} {R : Result → Shared → Prop} (W : WalksS P w A.in1 I fp wr G n Pv St) (hG : ∀ x y, G x y → y = x) (hS : S ∉ fp)
    {ks : List (Addr × List Str)} (hn : n = ks.length) (hb : n ≤ 15) (hv : ∀ i v, Pv i v → ∃ p, ks[i]? = some p ∧ v = .ref p.1) {s0 : Shared} (tk : ∀ p ∈ ks, Tq P w s0.heap p.2 p.1) (hu : A.in1.units < cLine)
    (f1 : s0.heap.get? S = none) (f2 : ∀ b ∈ wr, s0.heap.get? b = none) (hR : ∀ s' L es ep t, SX.Old s0 s' → Sq P w s'.heap S L es ep t → Met ks n L → R (.ok (.ret .none)) s') :
    ∀ (m i : Nat) (s : Shared), n - i = m → i ≤ n → St i s → SX.Old s0 s → (∃ L es ep t, Sq P w s.heap S L es ep t ∧ Met ks i L) → codeAny (model P w) A (.builtin "set.update.loop" ⟨[.ref S, .ref I], []⟩) R s := by
  have old : ∀ {s s' : Shared}, Moved wr G s s' → SX.Old s0 s → SX.Old s0 s' := fun m o => ⟨fun b u e => m.heap b u (fun z => by rw [f2 b z] at e; cases e) (o.heap b u e), (hG _ _ m.gens).trans o.gens, m.drawn.trans o.drawn, m.os.trans o.os⟩
  have stays : ∀ {s s' : Shared} {L es ep t}, Moved wr G s s' → SX.Old s0 s' → (∀ p ∈ L, p ∈ ks) → Sq P w s.heap S L es ep t → Sq P w s'.heap S L es ep t := fun m o sub r => r.keep (fun u e => m.heap S u (fun z => hS (W.sub _ z)) e) fun p hp => tq_keep (tk p (sub p hp)) o.heap
  intro m
  induction m with
  | zero =>
    rintro i s hm hi st o ⟨L, es, ep, t, r, g⟩
    have e : i = n := by omega
    rw [e] at st g
    refine codeAny_builtin PyProof.Rows.F.entry_set_update_loop ?_
    rw [Around.under_plainId PyProof.Rows.F.plain_set_update_loop _]
    show wpAny _ A.in1 (pyNext (.ref I) >>= _) _ _ s
    exact wpAny_bind (W.done s _ _ st fun s' mv => wpAny_pure (hR s' L es ep t (old mv o) (stays mv (old mv o) g.sub r) g))
  | succ m ih =>
    rintro i s hm hi st o ⟨L, es, ep, t, r, g⟩
    have li : i < n := by omega
    refine codeAny_builtin PyProof.Rows.F.entry_set_update_loop ?_
    rw [Around.under_plainId PyProof.Rows.F.plain_set_update_loop _]
    show wpAny _ A.in1 (pyNext (.ref I) >>= _) _ _ s
    refine wpAny_bind (W.item i s _ _ li st fun v s' hP st' mv => ?_)
    obtain ⟨p, hp, rfl⟩ := hv i v hP
    have o' := old mv o
    have r' := stays mv o' g.sub r
    have mp := List.mem_of_getElem? hp
    have tp : Tq P w s'.heap p.2 p.1 := tq_keep (tk p mp) o'.heap
    have gl := g.len
    show wpAny _ A.in1 (holding [Value.ref p.1] (setAdd S (.ref p.1)) >>= _) _ _ s'
    refine wpAny_bind (wpAny_holding ?_)
    unfold setAdd
    refine wpAny_holding (wpAny_bind (wpAny_pyHash_tuple hu tp (put (s := { s' with toks := s'.toks + (p.2.length + 1) }) r' tp hu (by omega) fun b h' L' es' ep' t' sb r2 c1 c2 => ?_)))
    have g' : Met ks (i + 1) L' := by
      have tk1 : ks.take (i + 1) = ks.take i ++ [p] := FR.take_snoc hp
      by_cases c : p.2 ∈ L.map Prod.snd
      · rw [c1 c]
        refine ⟨g.sub, fun q hq => ?_, Nat.le_succ_of_le g.len⟩
        rw [tk1] at hq
        rcases List.mem_append.mp hq with z | z
        · exact g.all q z
        · rw [List.mem_singleton.mp z]; exact c
      · have pm := c2 c
        refine ⟨fun q hq => ?_, fun q hq => ?_, by rw [pm.length_eq]; exact Nat.succ_le_succ g.len⟩
        · rcases List.mem_cons.mp (pm.mem_iff.mp hq) with z | z
          · rw [z]; exact mp
          · exact g.sub q z
        · rw [tk1] at hq
          refine (pm.map Prod.snd).mem_iff.mpr ?_
          rw [List.map_cons]
          rcases List.mem_append.mp hq with z | z
          · exact List.mem_cons_of_mem _ (g.all q z)
          · rw [List.mem_singleton.mp z]; exact List.mem_cons_self
    refine wpAny_pure ⟨plainId_quiet PyProof.Rows.F.plain_set_update_loop _, ih (i + 1) _ (by omega) li (W.frame _ s' _ _ st' (Nat.le_add_right _ _) fun b hb o e => ?_) ⟨fun b u e => ?_, o'.gens, o'.drawn, o'.os⟩ ⟨L', es', ep', t', r2, g'⟩⟩
    · exact (sb.2 b (fun z => hS (z ▸ hb))).trans e
    · exact (sb.2 b (fun z => by rw [z, f1] at e; cases e)).trans (o'.heap b u e)
/-! ### sorted -/
theorem hd_keep {h h' : Heap} (H : Hd h P w L) (kp : ∀ c o, h.get? c = some o → o.cls = .type "tuple" → h'.get? c = some o) : Hd h' P w L := fun p hp => by
  obtain ⟨⟨o, its, n, ho, hc, r⟩, e⟩ := H p hp
  exact ⟨⟨o, its, n, kp _ _ ho hc, hc, r⟩, e⟩
theorem list_of {vs : List Value} (h : ∀ v ∈ vs, ∃ p ∈ L, v = Value.ref p.1) : ∃ N : List (Addr × List Str), vs = N.map (fun p => Value.ref p.1) ∧ ∀ p ∈ N, p ∈ L := by
  induction vs with
  | nil => exact ⟨[], rfl, fun p hp => absurd hp List.not_mem_nil⟩
  | cons v vs ih =>
    obtain ⟨p, hp, e⟩ := h v List.mem_cons_self
    obtain ⟨N, e2, hN⟩ := ih fun u hu => h u (List.mem_cons_of_mem _ hu)
    exact ⟨p :: N, by rw [e, e2]; rfl, fun q hq => (List.mem_cons.mp hq).elim (fun z => z ▸ hp) (hN q)⟩
theorem sort_q {l : Addr} {n : Nat} {F : PySem.Fin → Shared → Prop} {hs : List Str} (ho : s.heap.get? l = some (seqObj "list" (L.map fun p => Value.ref p.1).toArray n)) (few : L.length < 64) (H : Hd s.heap P w L) (one : ∀ p ∈ L, ∀ q ∈ L, p.2.head? = q.2.head? → p.2 = q.2) (hh : ∀ p ∈ L, ∀ y k, p.2 = y :: k → y ∈ hs)
    (h : ∀ out : Array Value, out.toList.Perm (L.map fun p => Value.ref p.1) → out.toList.Pairwise (fun u v => rk hs (txt1 s.heap u) ≤ rk hs (txt1 s.heap v)) → F (.done (.ret .none)) { s with heap := sortedHeap s.heap l (L.map fun p => Value.ref p.1) out }) :
    wpAny (model P w) A (Builtin.«list.sort» ⟨[.ref l], []⟩) F E s := by
  have kp : ∀ c o, s.heap.get? c = some o → o.cls = .type "tuple" → (TS.midHeap s.heap l (L.map fun p => Value.ref p.1)).get? c = some o := fun c o e hc => by
    refine TS.midHeap_old (fun z => ?_) e
    rw [z, ho] at e
    rw [← Option.some.inj e] at hc
    have c2 : Value.type "list" = Value.type "tuple" := hc
    injection c2 with c3
    exact absurd c3 (by decide)
  have H2 := hd_keep H kp
  have same : ∀ v ∈ L.map (fun p => Value.ref p.1), txt1 (TS.midHeap s.heap l (L.map fun p => Value.ref p.1)) v = txt1 s.heap v := fun v hv => by
    obtain ⟨p, hp, rfl⟩ := List.mem_map.mp hv
    obtain ⟨t1, y, k, e⟩ := H p hp
    have t2 := (H2 p hp).1
    rw [e] at t1 t2
    rw [txt1_of t1, txt1_of t2]
  refine SK.plain_sort (r := fun v => (rk hs (txt1 (TS.midHeap s.heap l (L.map fun p => Value.ref p.1)) v) : Int)) ho (by rw [List.length_map]; exact few) (fun h2 Q hQ => ?_) fun ps out h1 h2 h3 => ?_
  · rw [List.length_map] at h2
    exact kind_q (s := { s with heap := TS.midHeap s.heap l (L.map fun p => Value.ref p.1) }) h2 H2 one hh Q hQ
  · have m : ∀ p ∈ ps, p.1 = p.2 ∧ p.2 ∈ L.map (fun p => Value.ref p.1) := fun p hp => by
      obtain ⟨e, z⟩ := mem_zip_self (h2.mem_iff.mp hp)
      exact ⟨e, e ▸ z⟩
    refine h out ?_ ?_
    · rw [h1]
      have z := h2.map Prod.snd
      rw [List.map_snd_zip (Nat.le_refl _)] at z
      exact z
    · rw [h1, List.pairwise_map]
      refine List.Pairwise.imp_of_mem (fun {p q} hp hq z => ?_) h3
      have z : (rk hs (txt1 _ p.1) : Int) ≤ (rk hs (txt1 _ q.1) : Int) := z
      rw [(m p hp).1, (m q hq).1, same _ (m p hp).2, same _ (m q hq).2] at z
      omega
theorem sorted_q {Q : Value → Shared → Prop} {hs : List Str} (R : Sq P w s.heap a L es ep t) (hh0 : A.handled = none) (ne : ∀ p ∈ L, ∃ y k, p.2 = y :: k) (one : ∀ p ∈ L, ∀ q ∈ L, p.2.head? = q.2.head? → p.2 = q.2) (hh : ∀ p ∈ L, ∀ y k, p.2 = y :: k → y ∈ hs)
    (hQ : ∀ s' l (out : Array Value) (c : Nat) (N : List (Addr × List Str)), (∀ b o, s.heap.get? b = some o → s'.heap.get? b = some o) → s'.gens = s.gens → s'.os = s.os → s.heap.objs.size ≤ l → s'.heap.get? l = some (seqObj "list" out c) →
      out.toList = N.map (fun p => Value.ref p.1) → N.Perm L → N.Pairwise (fun p q => FR.leS (p.2.headD Str.empty) (q.2.headD Str.empty)) → Q (.ref l) s') : wpAny (model P w) A (call (.builtin "sorted") [.ref a]) Q E s := by
  obtain ⟨o, ho, hex, hd⟩ := R.obj
  have sz := R.sz
  have few := R.few
  refine Calls.call_function_entry PyProof.Rows.kind_sorted PyProof.Rows.plain_sorted PyProof.Rows.entry_sorted (PyProof.Rows.args_sorted1 _) ?_
  unfold Builtin.«sorted»
  refine wpAny_bind (m := checkCount "sorted" 1 1 _) (wpAny_pure (wpAny_bind (collect_set (A := A.in1) hh0 ⟨o, ho, hex.1, hd⟩ R.fit (by unfold scanBound; omega) R.tbl.ris R.ord fun s1 vs k1 hz g1 o1 pm => ?_)))
  have ev : es.toList.map (·.2) = L.map fun p => Value.ref p.1 := by
    rw [R.els, List.map_map]
    rfl
  rw [ev] at pm
  obtain ⟨M, rfl, sub⟩ := list_of (L := L) (vs := vs) fun v hv => by
    obtain ⟨p, hp, e⟩ := List.mem_map.mp (pm.mem_iff.mp hv)
    exact ⟨p, hp, e.symm⟩
  have adr : ∀ p ∈ L, ∀ q ∈ L, p.1 = q.1 → p = q := fun p hp q hq e => by
    have z := R.tps p hp
    rw [e] at z
    exact Prod.ext e (z.inj (R.tps q hq))
  have nL : L.Nodup := List.Pairwise.of_map Prod.snd (fun _ _ hne e => hne (congrArg _ e)) R.dif
  have nR : (L.map fun p => Value.ref p.1).Nodup := List.pairwise_map.mpr (List.Pairwise.imp_of_mem (fun {p q} hp hq hne e => by injection e with e; exact hne (adr p hp q hq e)) nL)
  have perm : ∀ N : List (Addr × List Str), (∀ p ∈ N, p ∈ L) → (N.map fun p => Value.ref p.1).Perm (L.map fun p => Value.ref p.1) → N.Perm L := fun N hN pN => by
    have nN : N.Nodup := List.Pairwise.of_map (fun p => Value.ref p.1) (fun _ _ hne e => hne (by rw [e])) (pN.nodup_iff.mpr nR)
    refine (List.perm_ext_iff_of_nodup nN nL).mpr fun p => ⟨hN p, fun hp => ?_⟩
    obtain ⟨q, hq, e⟩ := List.mem_map.mp (pN.mem_iff.mpr (List.mem_map.mpr ⟨p, hp, rfl⟩))
    injection e with e
    rw [← adr q (hN q hq) p hp e]
    exact hq
  have pM := perm M sub pm
  have lM : M.length < 64 := by rw [pM.length_eq]; omega
  refine wpAny_bind (wpAny_newList ?_ (by rw [sizeLine_eq, List.length_map]; omega))
  have oL : (s1.heap.push (seqObj "list" (M.map fun p => Value.ref p.1).toArray 0)).get? s1.heap.objs.size = some (seqObj "list" (M.map fun p => Value.ref p.1).toArray 0) := Heap.get?_push_size _ rfl
  have H : Hd (s1.heap.push (seqObj "list" (M.map fun p => Value.ref p.1).toArray 0)) P w M := fun p hp => ⟨tq_keep (R.tps p (sub p hp)) fun b u e => Heap.get?_push_of_some _ (k1 b u e), ne p (sub p hp)⟩
  refine wpAny_bind (wpAny_holding (wpAny_call_entry PyProof.Rows.slot_list_sort ⟨_, oL, rfl⟩ PyProof.Rows.entry_list_sort (sort_q (s := { s1 with heap := s1.heap.push (seqObj "list" (M.map fun p => Value.ref p.1).toArray 0) }) oL lM H
    (fun p hp q hq => one p (sub p hp) q (sub q hq)) (fun p hp => hh p (sub p hp)) fun out a1 a2 => ⟨_, rfl, ?_⟩) (PyProof.Rows.args_list_sort _)))
  obtain ⟨c, hc⟩ := sortedHeap_at (vs := M.map fun p => Value.ref p.1) (out := out) oL
  obtain ⟨N, eN, hN⟩ := list_of (L := M) (vs := out.toList) fun v hv => by
    obtain ⟨p, hp, e⟩ := List.mem_map.mp (a1.mem_iff.mp hv)
    exact ⟨p, hp, e.symm⟩
  have subN : ∀ p ∈ N, p ∈ L := fun p hp => sub p (hN p hp)
  have pN : N.Perm L := perm N subN (by rw [← eN]; exact a1.trans pm)
  refine wpAny_pure ⟨_, rfl, hQ _ s1.heap.objs.size out c N (fun b u e => ?_) g1 o1 hz hc eN pN ?_⟩
  · have q := k1 b u e
    have lb := Heap.lt_size q
    show (sortedHeap (s1.heap.push (seqObj "list" (M.map fun p => Value.ref p.1).toArray 0)) s1.heap.objs.size (M.map fun p => Value.ref p.1) out).get? b = some u
    rw [sortedHeap_old (Nat.ne_of_lt lb) (by rw [size_push']; exact Nat.lt_succ_of_lt lb)]
    exact Heap.get?_push_of_some _ q
  · rw [eN] at a2
    refine List.Pairwise.imp_of_mem (fun {p q} hp hq z => ?_) (List.pairwise_map.mp a2)
    obtain ⟨t1, y1, r1, e1⟩ := H p (hN p hp)
    obtain ⟨t2, y2, r2, e2⟩ := H q (hN q hq)
    rw [e1] at t1
    rw [e2] at t2
    have z : rk hs (txt1 _ (.ref p.1)) ≤ rk hs (txt1 _ (.ref q.1)) := z
    rw [txt1_of t1, txt1_of t2] at z
    rw [e1, e2]
    show FR.leS y1 y2
    refine FR.leS_iff.mpr (List.not_lt.mp fun c => ?_)
    have := rk_lt (hh q (subN q hq) y2 r2 e2) (show lt y2 y1 = true from decide_eq_true c)
    omega
end
end SQ
set_option Elab.async false
set_option linter.all false
set_option maxRecDepth 100000
set_option maxHeartbeats 4000000
/-! the rules: set(a list of tuples of texts), sorted of such a set -/
namespace SQ
open PySem PySem.Spec PyProof.Rows L2 PySem.Froz
noncomputable section
section
variable {P : Program} {w : World} {A : Around} {E : Value → Shared → Prop} {s : Shared}
theorem call_setQ {l : Addr} {items : Array Value} {ks : List (Addr × List Str)} {Q : Value → Shared → Prop} (hh : A.handled = none) (hu : A.units + 3 < cLine) (hl : s.heap.IsList l items) (hx : items.toList = ks.map fun p => Value.ref p.1) (tk : ∀ p ∈ ks, Tq P w s.heap p.2 p.1) (hb : ks.length ≤ 15)
    (hQ : ∀ s' L es ep t, SX.Old s s' → Sq P w s'.heap s.heap.objs.size L es ep t → Met ks ks.length L → Q (.ref s.heap.objs.size) s') : wpAny (model P w) A (call (.type "set") [.ref l]) Q E s := by
  have isz : items.size = ks.length := by rw [← Array.length_toList, hx, List.length_map]
  obtain ⟨c, tl, hmro⟩ := PySem.F.called_set.mro
  have hm := PySem.F.called_set.made
  have hs := PySem.F.called_set.sub
  refine wpAny_call (codeAny_of_tree ?_)
  show wpAny _ _ (callAny (.type "set") _) _ _ _
  refine wpAny_pure ⟨Code.quiet_builtin _ (by decide +kernel), codeAny_builtin PySem.F.entry_type_call ?_⟩
  rw [Around.under_plain (weight_type_call_type "set" [.ref l] []) rfl]
  have t1 := PySem.F.called_set.notType
  have t2 := PySem.F.called_set.canCreate
  have ct := PySem.F.typeCall_set_1 (.ref l)
  repeat (any_goals (first | assumption | wp_step))
  refine codeAny_mono (code_set_led1 (.ref l) (E := E) (Q₁ := fun obj s₁ => obj = .ref s.heap.objs.size ∧ s₁ = { s with heap := s.heap.push (SX.sNew w) }) ⟨rfl, rfl⟩) fun r s₁ hr => ?_
  cases r with
  | error e => exact hr
  | ok fl => cases fl with
    | ret obj =>
      obtain ⟨rfl, rfl⟩ := hr
      have ob : (s.heap.push (SX.sNew w)).get? s.heap.objs.size = some (SX.sNew w) := Heap.get?_push_size _ rfl
      have ty : Shared.TypeIs { s with heap := s.heap.push (SX.sNew w) } (.ref s.heap.objs.size) "set" := ⟨_, ob, rfl⟩
      have li := PySem.F.called_set.init.lookup
      have bi := PySem.F.called_set.init.bind (.ref s.heap.objs.size)
      repeat (any_goals (first | assumption | wp_step))
      refine codeAny_mono (codeAny_call_builtin (R := wants (fun r s₂ => r = .none ∧ ∃ L es ep t, SX.Old s s₂ ∧ Sq P w s₂.heap s.heap.objs.size L es ep t ∧ Met ks ks.length L) E) PySem.F.called_set.init.plain PySem.F.entry_set_init (check_set_init_1 ty ?_)) fun r₂ s₂ hr₂ => ?_
      · obtain ⟨⟨oc, od, odata, osl⟩, hol, hcl, nl, hdl⟩ := hl
        simp only at hcl hdl
        subst hcl hdl
        have hol' : (s.heap.push (SX.sNew w)).get? l = some { cls := .type "list", dict := od, data := .seq items nl, slots := osl } := Heap.get?_push_of_some _ hol
        have s1 := PySem.F.sub_list_set
        have s2 := PySem.F.sub_list_frozenset
        have s3 : (Value.type "list" == Value.type "dict") = false := by decide
        have hl1 : (s.heap.push (SX.sNew w)).IsList l items := ⟨_, hol', rfl, nl, rfl⟩
        unfold Builtin.«set.__init__» noKeywords Builtin.Frozenset.updateFrom
        generalize hPI : pyIter = PI
        wp_walk
        subst hPI
        refine wpAny_pyIter_list hl1 (wpAny_bind (wpAny_runValue ?_))
        have lt : l < s.heap.objs.size := Heap.lt_size hol
        have z1 : (s.heap.push (SX.sNew w)).objs.size = s.heap.objs.size + 1 := Heap.size_push ..
        have ne1 : l ≠ (s.heap.push (SX.sNew w)).objs.size := by rw [z1]; exact Nat.ne_of_lt (Nat.lt_succ_of_lt lt)
        refine upd_loop ((Walks.list (by simp [hh]) _ l ne1 items).toS) (fun _ _ e => e) (S := s.heap.objs.size) ?_ (ks := ks) isz (by omega) (fun i v hv => ?_) (s0 := s) tk (by simpa using (by omega : A.units + 2 + 1 < cLine)) (SX.none_up (Nat.le_refl _)) (fun b hb => SX.none_up ?_) (fun s' L es ep t o r g => ?_) (items.size - 0) 0 _ rfl (Nat.zero_le _) ⟨⟨_, Heap.get?_push_size _ rfl, rfl, rfl⟩, hl1.push _⟩
          ⟨fun b o e => Heap.get?_push_of_some _ (Heap.get?_push_of_some _ e), rfl, rfl, rfl⟩ ⟨[], _, _, _, Sq.new (Heap.get?_push_of_some _ ob), fun p hp => absurd hp List.not_mem_nil, fun p hp => absurd hp (by simp), Nat.le_refl _⟩
        · simp only [List.mem_cons, List.mem_singleton, List.not_mem_nil, or_false, not_or]
          exact ⟨by rw [z1]; exact Nat.ne_of_lt (Nat.lt_succ_self _), Nat.ne_of_gt lt⟩
        · have e : (ks.map fun p => Value.ref p.1)[i]? = some v := by rw [← hx, Array.getElem?_toList]; exact hv
          rw [List.getElem?_map] at e
          cases q : ks[i]? with
          | none => rw [q] at e; cases e
          | some p => rw [q] at e; exact ⟨p, rfl, (Option.some.inj e).symm⟩
        · rw [List.mem_singleton.mp hb]; omega
        · rw [isz] at g
          refine wpAny_pure ?_
          show wpAny _ _ (ret Value.none) _ _ _
          exact wpAny_pure ⟨rfl, L, es, ep, t, o, r, g⟩
      · cases r₂ with
        | error e => exact hr₂
        | ok fl₂ => cases fl₂ with
          | ret r =>
            obtain ⟨rfl, L, es, ep, t, o, hr, g⟩ := hr₂
            repeat (any_goals (first | assumption | wp_step))
            exact hQ _ L es ep t o hr g
          | _ => exact hr₂.elim
    | _ => exact hr.elim
end
/-! ### as a tracked thing -/
/-- a set, its tuples aside -/
def SqA (P : Program) (w : World) (h : Heap) (a : Addr) (L : List (Addr × List Str)) : Prop := ∃ es ep t, (∃ o, h.get? a = some o ∧ o.ExactSet ∧ o.data = .set es ep t) ∧ es.toList = L.map (rq P w) ∧ TabOk t (L.map fun p => hq P w p.2) ∧ (L.map Prod.snd).Nodup ∧ (w.params.followText "set-order" = true ∨ t.led = true) ∧ L.length * 5 < t.mask * 3 ∧ L.length ≤ 16
def SqO (P : Program) (w : World) (a : Addr) (L : List (Addr × List Str)) : HO := .ext fun h => SqA P w h a L
theorem sqO_new {P : Program} {w : World} {H : Hp} {h : Heap} {a : Addr} {L : List (Addr × List Str)} (R : SqA P w h a L) : ObjOk P w H h a (SqO P w a L) := by
  have ⟨es, ep, t, ⟨o, ho, r⟩, q⟩ := R
  refine ⟨R, ⟨o, ho⟩, fun h1 h2 p k => ?_⟩
  obtain ⟨es', ep', t', ⟨o', ho', r'⟩, q'⟩ := (p : SqA P w h1 a L)
  exact ⟨es', ep', t', ⟨o', k o' ho', r'⟩, q'⟩
theorem refs_is : ∀ {ks : List (Addr × List Str)} {us : List Value}, Vals (ks.map fun p => V.ref p.1) us → us = ks.map fun p => Value.ref p.1
  | [], _, .nil => rfl
  | p :: ks, _, .cons r z => by
    cases r
    rw [refs_is z]
    rfl
theorem refs_vals : ∀ ks : List (Addr × List Str), Vals (ks.map fun p => V.ref p.1) (ks.map fun p => Value.ref p.1)
  | [] => .nil
  | _ :: ks => .cons rfl (refs_vals ks)
theorem its_of {P : Program} {w : World} : ∀ {k : List Str} {us : List Value}, Vals (k.map V.str) us → ItemsAre (strKind P w) k us
  | [], _, .nil => .nil
  | x :: k, _, .cons r z => by
    obtain ⟨t, rfl⟩ := r
    exact .cons (is_str x t) (its_of z)
section
variable {X : Cx}
theorem tq_inv {pins : List (Addr × Obj)} {σ : L2.St} {H : Hp} {s : Shared} {b : Addr} {k : List Str} (I : Inv X pins σ H s) (h : SqT X.K H b (k.map V.str)) : Tq X.prog X.w s.heap k b := by
  obtain ⟨its, r, ⟨o, ho, hc, n, hd⟩, _⟩ := I.tuple h
  exact ⟨o, its.toArray, n, ho, hc, hd, by simpa using its_of r⟩
/-- set(xs), xs a list of tuples of texts -/
def rSetQ (K : PySem.W.Frag) (P : Program) (w : World) : List V → Hp → VK → Prop := fun vs H Q => ∃ (l : Addr) (ks : List (Addr × List Str)), vs = [V.ref l] ∧ SqL K H l (ks.map fun p => V.ref p.1) ∧ (∀ p ∈ ks, SqT K H p.1 (p.2.map V.str)) ∧ ks.length ≤ 15 ∧
  ∀ a L, H a = none → (∀ p ∈ L, p ∈ ks) → (∀ p ∈ ks, p.2 ∈ L.map Prod.snd) → (L.map Prod.snd).Nodup → Q (.ref a) (upd H a (SqO P w a L))
theorem cr_setQ (hc : X.calm = true) (hu : X.A.units + 64 < cLine) : CallR X (.type "set") (rSetQ X.K X.prog X.w) := by
  intro pins s σ H vs us Q I r h
  obtain ⟨l, ks, rfl, hl, hk, hf, q⟩ := h
  rw [Vals.ref1 r]
  obtain ⟨its, rv, pl, hz⟩ := I.list hl
  have hn : H s.heap.objs.size = none := I.hok.fresh (Nat.le_refl _)
  refine call_setQ (P := X.prog) (w := X.w) (I.ok.hd hc) (by omega) pl.isList (by simpa using refs_is rv) (fun p hp => tq_inv I (hk p hp)) hf fun s' L es ep t o R g => ?_
  refine ⟨.ref _, _, I.call' (ch := []) o.os (Un.laid o.heap (Nat.le_refl _) hn) (I.hok.laid o.heap (Nat.le_refl _) (sqO_new ⟨es, ep, t, R.obj, R.els, R.tbl, R.dif, R.ord, R.rm, R.few⟩)) (by rw [o.gens]; exact I.bare) (fun _ z => nomatch z), rfl, q _ L hn g.sub (fun p hp => g.all p (by rw [List.take_length]; exact hp)) R.dif⟩
/-- sorted of such a set, the tuples not empty and each of its own first text -/
def rSortQ (K : PySem.W.Frag) (P : Program) (w : World) : List V → Hp → VK → Prop := fun vs H Q => ∃ (a : Addr) (L : List (Addr × List Str)), vs = [V.ref a] ∧ H a = some (SqO P w a L) ∧ (∀ p ∈ L, SqT K H p.1 (p.2.map V.str)) ∧ (∀ p ∈ L, ∃ y k, p.2 = y :: k) ∧ (∀ p ∈ L, ∀ q ∈ L, p.2.head? = q.2.head? → p.2 = q.2) ∧
  ∀ (N : List (Addr × List Str)) (l : Addr), N.Perm L → N.Pairwise (fun p q => FR.leS (p.2.headD Str.empty) (q.2.headD Str.empty)) → H l = none → Q (.ref l) (upd H l (.lst (N.map fun p => V.ref p.1)))
theorem cr_sortQ (hc : X.calm = true) : CallR X (.builtin "sorted") (rSortQ X.K X.prog X.w) := by
  intro pins s σ H vs us Q I r h
  obtain ⟨a, L, rfl, ha, hk, ne, one, q⟩ := h
  rw [Vals.ref1 r]
  obtain ⟨es, ep, t, ob, h2, h3, h4, h5, h6, h7⟩ := ((I.hok a _ ha).1 : SqA X.prog X.w s.heap a L)
  refine sorted_q (hs := L.map fun p => p.2.headD Str.empty) (P := X.prog) (w := X.w) (s := s) ⟨ob, h2, h3, h4, fun p hp => tq_inv I (hk p hp), h5, h6, h7⟩ (I.ok.hd hc) ne one (fun p hp y k e => List.mem_map.mpr ⟨p, hp, by rw [e]; rfl⟩) fun s' l out c N kp g o hz hl hN pN pw => ?_
  have len : (N.map fun p => V.ref p.1).length ≤ sizeLine := by rw [List.length_map, pN.length_eq, sizeLine_eq]; omega
  have hn : H l = none := I.hok.fresh hz
  refine ⟨.ref l, upd H l (.lst (N.map fun p => V.ref p.1)), I.call' (ch := []) o (Un.laid kp hz hn) (I.hok.laid kp hz (show ObjOk X.prog X.w _ _ _ (.lst (N.map fun p => V.ref p.1)) from ⟨len, out.toList, c, by rw [hN]; exact refs_vals N, by rw [Array.toArray_toList]; exact hl⟩)) (by rw [g]; exact I.bare) (fun _ z => nomatch z), rfl, q N l pN pw hn⟩
end
end
end SQ
set_option Elab.async false
set_option linter.all false
set_option maxRecDepth 100000
set_option maxHeartbeats 1000000
/-! _law_due_knots -/
namespace FR
open PySem PySem.Spec PyProof.Rows L2
abbrev sDk : Stmt := FR.top 58
abbrev NDk : List Str := ["_law_bodies_here", "_law_reached_here", "_law_left", "_law_found", "_law_done", "_law_free", "_law_one", "_law_other", "_law_knot"]
theorem scDk : FnScope NDk ["_law_bodies_here"] (defScope sDk) := ⟨rfl, rfl, rfl, by decide +kernel, rfl, by decide +kernel, by decide +kernel⟩
def asgE : Stmt → Expr
  | .Assign _ e _ => e
  | _ => .Constant .none 0 ⟨0, 0, 0, 0⟩
def whB : Stmt → List Stmt
  | .While _ b _ _ => b
  | _ => []
def arg0 : Expr → Expr
  | .Call _ (a :: _) _ _ => a
  | e => e
abbrev lcD2 : Scope := lcSc (arg0 (arg0 (asgE ((defBody sDk).getD 1 (.Pass ⟨0, 0, 0, 0⟩)))))
abbrev lcD5 : Scope := lcSc (asgE ((whB ((defBody sDk).getD 3 (.Pass ⟨0, 0, 0, 0⟩))).getD 0 (.Pass ⟨0, 0, 0, 0⟩)))
theorem cr_setQK {X : Cx} {K : PySem.W.Frag} {P : Program} {w : World} (hK : X.K = K) (hP : X.prog = P) (hw : X.w = w) (hc : X.calm = true) (hu : X.A.units + 64 < cLine) : CallR X (.type "set") (SQ.rSetQ K P w) := by
  subst hK hP hw
  exact SQ.cr_setQ hc hu
theorem cr_sortQK {X : Cx} {K : PySem.W.Frag} {P : Program} {w : World} (hK : X.K = K) (hP : X.prog = P) (hw : X.w = w) (hc : X.calm = true) : CallR X (.builtin "sorted") (SQ.rSortQ K P w) := by
  subst hK hP hw
  exact SQ.cr_sortQ hc
theorem bodyOf_none : ∀ {p : Pg} {z : Str}, z ∉ names p → bodyOf p z = []
  | [], _, _ => rfl
  | x :: p, z, h => by
    unfold bodyOf
    rw [if_neg (fun e => h (by rw [← e]; exact List.mem_cons_self))]
    exact bodyOf_none fun m => h (List.mem_cons_of_mem _ m)
theorem bodyOf_perm {p ps : Pg} (hn : (names p).Nodup) (e : ps.Perm p) : bodyOf ps = bodyOf p := by
  funext z
  have hn2 : (names ps).Nodup := (e.map _).nodup_iff.mpr hn
  by_cases h : z ∈ names p
  · obtain ⟨x, hx, rfl⟩ := List.mem_map.mp h
    rw [bodyOf_mem hn hx, bodyOf_mem hn2 (e.mem_iff.mpr hx)]
  · rw [bodyOf_none h, bodyOf_none fun m => h ((e.map _).mem_iff.mp m)]
theorem reach_perm {p ps : Pg} (e : bodyOf ps = bodyOf p) {z y : Str} (h : Reach p z y) : Reach ps z y := by
  induction h with
  | refl => exact .refl
  | step _ hc ih => exact ih.step (by rw [e]; exact hc)
theorem rch_perm {p ps : Pg} (e : bodyOf ps = bodyOf p) {z : Str} {es : List Str} (h : Rch p z es) : Rch ps z es := ⟨h.1, h.2.1, fun y => (h.2.2 y).trans ⟨reach_perm e, reach_perm e.symm⟩⟩
theorem valV_merge {k : Key} {v : V} : ∀ (kvs acc : List (Key × V)), (kvs.map (·.1)).Nodup → (k, v) ∈ kvs → valV (mergeK acc kvs) k = some v := by
  have skip : ∀ (kvs acc : List (Key × V)), k ∉ kvs.map (·.1) → valV (mergeK acc kvs) k = valV acc k := fun kvs => by
    induction kvs with
    | nil => exact fun _ _ => rfl
    | cons x kvs ih =>
      intro acc h
      show valV (mergeK (putK acc x.1 x.2) kvs) k = _
      rw [ih _ fun m => h (List.mem_cons_of_mem _ m), valV_put, if_neg fun c => h (by rw [c]; exact List.mem_cons_self)]
  intro kvs
  induction kvs with
  | nil => exact fun _ _ h => absurd h List.not_mem_nil
  | cons x kvs ih =>
    intro acc hn h
    obtain ⟨h1, h2⟩ := List.nodup_cons.mp hn
    show valV (mergeK (putK acc x.1 x.2) kvs) k = _
    rcases List.mem_cons.mp h with e | e
    · rw [← e] at h1 ⊢
      rw [skip _ _ h1, valV_put, if_pos rfl]
    · exact ih _ h2 e
section
variable {P : Program} {w : World} {K : PySem.W.Frag} {mg : Str → Option Value} {base : Heap}
def spDk : Sp := fun vs H Q _ => ∃ b kvs p ps rc, vs = [.ref b] ∧ H b = some (.dK kvs) ∧ PrgK H kvs p ∧ Prg p ∧ (names p).Nodup ∧ ps.Perm p ∧ sortedS (names ps) = true ∧ IsRc ps rc ∧ ∀ l us H', H l = none → Same H H' → H' l = some (.lst us) → AG (KnT H') us (total ps rc) → Q (.ref l) H'
theorem ok_dk {f : Addr} {fd : FuncData} (F : Fun K "_law_due_knots" "_law_due_knots" sDk f fd) (md : mg "dict" = none) (ms : mg "sorted" = none) (mst : mg "set" = none) (mt : mg "tuple" = none) (ml : mg "list" = none) (gR : Glo P w K mg base "_law_reached" 8 ["_law_bodies_here", "_law_start"] spRe) : FnOk P w K mg base CX0 9 f fd ["_law_bodies_here"] spDk := by
  refine F.ok scDk (fun vs H Q E h => ?_) (fun cdv A outer s H vs Q E hr h => ?_)
  · obtain ⟨b, kvs, p, ps, rc, rfl, _⟩ := h
    rfl
  · obtain ⟨b, kvs, p, ps, rc, rfl, hb, hk, hp, hn, pm, so, hrc, q⟩ := h
    refine ⟨_, (pss_cons (ps_set (i := 1) scDk.nd rfl (Or.inr rfl) (pe_callTy (call_dictP rfl) (by rfl) md (by decide +kernel) (pa_cons (pe_lock (pe_lc (X := (cxOf CX0 P w K mg base NDk "_law_due_knots" (defScope sDk) f cdv A outer s H E).nox) (own := [("_law_one", 6)]) (g := (gName 6)) (tt := tYes) rfl scDk.nd (pi_keys (pv 0)) (blkOk_by (N := NDk) (sc := defScope sDk) (by decide +kernel)) (fun _ _ _ _ _ => (pg_name (i := 6) scDk.nd rfl (.inl rfl))) (fun _ _ _ _ _ => pts_nil) (fun _ _ _ _ _ => (pe_tup (pa_cons (pv 6) (pa_cons (pe_call gR.G (hr.mono (by decide)) (by rfl) gR.m gR.k gR.b .nil pass0 (pa_cons (pv 0) (pa_cons (pv 6) pa_nil))) pa_nil)))))) pa_nil)))
      (pss_cons (ps_set (i := 2) scDk.nd rfl (Or.inl rfl) (pe_callB (cr_sortQK (K := K) (P := P) (w := w) rfl rfl rfl rfl) (by rfl) ms (by decide +kernel) (pa_cons (pe_callTy (cr_setQK (K := K) (P := P) (w := w) rfl rfl rfl rfl hr.units) (by rfl) mst (by decide +kernel) (pa_cons (pe_lock (pe_lc (X := (cxOf CX0 P w K mg base NDk "_law_due_knots" (defScope sDk) f cdv A outer s H E).nox) (own := [("_law_one", 6)]) (g := (gName 6)) (tt := tYes) rfl scDk.nd (pi_keys (pv 0)) (blkOk_by (N := NDk) (sc := defScope sDk) (by decide +kernel)) (fun _ _ _ _ _ => (pg_name (i := 6) scDk.nd rfl (.inr rfl))) (fun s0 H0 C0 cl0 fp0 => pts_nil) (fun s0 H0 C0 cl0 fp0 => (pe_callTy (call_tuple_ofK (K := K) rfl) (by rfl) mt (by decide +kernel) (pa_cons (pe_lc (X := (((cxOf CX0 P w K mg base NDk "_law_due_knots" (defScope sDk) f cdv A outer s H E).nox).blk s0 H0 lcD2 (compEnvC lcD2 cl0 C0 ((cxOf CX0 P w K mg base NDk "_law_due_knots" (defScope sDk) f cdv A outer s H E).nox).env) fp0)) (own := [("_law_other", 7)]) (g := (gName 7)) rfl scDk.nd (pi_listK (K := K) rfl (pe_dget (lt1_of hr.units) (pv 1) (pv 6) (fun _ _ => rfl))) (blkOk_by (N := NDk) (sc := (relS lcD2 (defScope sDk))) (by decide +kernel)) (fun _ _ _ _ _ => (pg_name (i := 7) scDk.nd rfl (.inl rfl))) (fun _ _ _ _ _ => (pts_one (pt_cmpR (op_in_seqK (K := K) rfl) (pv 6) (pe_dget (lt1_of hr.units) (pv 1) (pv 7) (fun _ _ => rfl)) rfl))) (fun _ _ _ _ _ => (pv 7))) pa_nil))))) pa_nil)) pa_nil)))
      (pss_cons (ps_asg (pe_tup (pa_cons (pe_lst pa_nil) (pa_cons (pe_lst pa_nil) pa_nil))) (pg_tupK (K := K) rfl rfl (pgs_cons (pg_name (i := 3) scDk.nd rfl (.inl rfl)) (pgs_cons (pg_name (i := 4) scDk.nd rfl (.inr rfl)) pgs_nil))))
      (pss_cons (ps_while PassesOwn.never (pt_cmpR (op_neP (K := K) rfl hr.units) (pv 2) (pe_lst pa_nil) (nomark _)) (pss_cons (ps_set (i := 5) scDk.nd rfl (Or.inr rfl) (pe_lc (X := (cxOf CX0 P w K mg base NDk "_law_due_knots" (defScope sDk) f cdv A outer s H E).nox) (own := [("_law_knot", 8)]) (g := (gName 8)) rfl scDk.nd (pi_list (pv 2)) (blkOk_by (N := NDk) (sc := defScope sDk) (by decide +kernel)) (fun _ _ _ _ _ => (pg_name (i := 8) scDk.nd rfl (.inr rfl))) (fun s0 H0 C0 cl0 fp0 => (pts_one (pt_cmpR (op_eqP (K := K) rfl hr.units) (pe_lc (X := (((cxOf CX0 P w K mg base NDk "_law_due_knots" (defScope sDk) f cdv A outer s H E).nox).blk s0 H0 lcD5 (compEnvC lcD5 cl0 C0 ((cxOf CX0 P w K mg base NDk "_law_due_knots" (defScope sDk) f cdv A outer s H E).nox).env) fp0)) (own := [("_law_one", 6)]) (g := (gName 6)) rfl scDk.nd (pi_listK (K := K) rfl (pe_dget (lt1_of hr.units) (pv 1) (pe_ix (ix_tupK (K := K) rfl) (pv 8) pe_int (fun _ _ => rfl)) (fun _ _ => rfl))) (blkOk_by (N := NDk) (sc := (relS lcD5 (defScope sDk))) (by decide +kernel)) (fun _ _ _ _ _ => (pg_name (i := 6) scDk.nd rfl (.inl rfl))) (fun _ _ _ _ _ => (pts_one (PW.pt (pw_and (pt_cmpR (op_notIn_seqK (K := K) rfl) (pv 6) (pv 8) rfl) (pw_and1 (pt_cmpR (op_notIn_seqK (K := K) rfl) (pv 6) (pv 4) rfl)))))) (fun _ _ _ _ _ => pe_int)) (pe_lst pa_nil) (nomark _)))) (fun s0 H0 C0 cl0 fp0 => (pv 8))))
      (pss_cons (ps_expr (pe_bm PySem.F.plainAttrs_list PySem.F.slot_list_append PySem.F.type_list_append mt_append (pv 3) (pa_cons (pe_ix ix_list (pv 5) pe_int (fun _ _ => rfl)) pa_nil)))
      (pss_cons (ps_expr (pe_bm PySem.F.plainAttrs_list PySem.F.slot_list_extend PySem.F.type_list_extend mt_extend (pv 4) (pa_cons (pe_callTy call_list_of (by rfl) ml (by decide +kernel) (pa_cons (pe_ix ix_list (pv 5) pe_int (fun _ _ => rfl)) pa_nil)) pa_nil)))
      (pss_one (ps_setLc (i := 2) (X := (cxOf CX0 P w K mg base NDk "_law_due_knots" (defScope sDk) f cdv A outer s H E).nox) (own := [("_law_knot", 8)]) (g := (gName 8)) rfl scDk.nd rfl rfl (sw_true rfl rfl rfl (by decide +kernel)) (pi_list (pv 2)) (blkOk_by (N := NDk) (sc := defScope sDk) (by decide +kernel)) (fun _ _ _ _ _ => (pg_name (i := 8) scDk.nd rfl (.inl rfl))) (fun _ _ _ _ _ => (pts_one (pt_cmpR (op_neP (K := K) rfl hr.units) (pv 8) (pe_ix (ix_listK (K := K) rfl) (pv 5) pe_int (fun _ _ => rfl)) (nomark _)))) (fun _ _ _ _ _ => (pv 8))))))))
      (pss_one (ps_ret (pv 3))))))), ?_⟩
    have eb := bodyOf_perm hn pm
    have hp' := hp.perm pm
    have hn' : (names ps).Nodup := (pm.map _).nodup_iff.mpr hn
    have l8 := hp.len.2
    have nm : ∀ {z : Str}, z ∈ names p ↔ z ∈ names ps := fun {z} => (pm.map _).mem_iff.symm
    have lk : kvs.length ≤ 8 := by rw [hk.1]; exact l8
    -- what each reaches
    refine ⟨b, _, hb, trivial, fun od => ?_⟩
    have f1 := hk.keep (lock_tup (x := .frz od (.dK kvs)) hb)
    have k1 : upd H b (.frz od (.dK kvs)) b = some (.frz od (.dK kvs)) := upd_same
    have back : ∀ H', Same (upd H b (.frz od (.dK kvs))) H' → Same H (upd H' b (.dK kvs)) := fun H' s => same_lock hb s
    generalize upd H b (.frz od (.dK kvs)) = HL at f1 k1 back ⊢
    refine ⟨_, rfl, b, od, rfl, .inl ⟨kvs, k1, fun D hD => ?_⟩⟩
    refine lc_it walk_keys (fun i Hc => Same HL Hc ∧ ∃ (us : List Addr) (ms : List (Key × V)), Hc D = some (.lst (us.map V.ref)) ∧ Paired (fun u (kv : Key × V) => Hc u = some (.tup [kV kv.1, kv.2])) us ms ∧ ms.map (·.1) = (kvs.take i).map (·.1) ∧ us.length = ms.length ∧ ∀ y ∈ (names p).take i, ∃ a, ((.inr y : Key), V.ref a) ∈ ms ∧ a ≠ D ∧ Hc a = some (.lst ((rc y).map V.str))) ⟨same_new hD, [], [], upd_same, .nil, rfl, rfl, fun y hy => absurd hy List.not_mem_nil⟩ (fun i Hc _ z => z.1 _ _ k1) ?_ ?_
    · rintro i y0 Hq Hc hi' ⟨sm, us, ms, hDc, hpr, hms, hul, hall⟩ ⟨rfl, kk, v0, hkv, rfl⟩
      obtain ⟨z, bz, rfl, hpz, _⟩ := f1.2 i kk v0 hkv
      have zn : z ∈ names p := List.mem_map.mpr ⟨(z, bz), List.mem_of_getElem? hpz, rfl⟩
      have hz : (names p)[i]? = some z := by rw [List.getElem?_map, hpz]; rfl
      refine ⟨rfl, _, rfl, _, rfl, _, rfl, b, z, kvs, p, rfl, .inr ⟨od, sm _ _ k1⟩, f1.keep (fun a xs e => sm _ _ e), hp, hn, zn, fun l es H2 nl s2 hl r => ?_⟩
      have ees := (rch_perm eb r).eq (hrc z (nm.mp zn))
      subst ees
      refine ⟨small1000 (Nat.le_of_ble_eq_true rfl), fun t ht => ?_⟩
      have nlD : l ≠ D := fun c => by rw [c, hDc] at nl; cases nl
      have st := same_new (o := .tup [kV (.inr z), .ref l]) ht
      have hD3 := st _ _ (s2 _ _ hDc)
      have et : upd H2 t (.tup [kV (.inr z), .ref l]) t = some (.tup [kV (.inr z), .ref l]) := upd_same
      have hl3 := st _ _ hl
      have s3 := s2.trans st
      generalize upd H2 t (.tup [kV (.inr z), .ref l]) = H3 at st hD3 et hl3 s3 ⊢
      have kp : ∀ a xs, Hc a = some (.tup xs) → upd H3 D (.lst (us.map V.ref ++ [.ref t])) a = some (.tup xs) := fun a xs e => by
        rw [upd_ne (fun c => by rw [c, hDc] at e; cases e)]
        exact s3 _ _ e
      have lus : us.length ≤ 8 := by
        rw [hul]
        have := congrArg List.length hms
        rw [List.length_map, List.length_map, List.length_take] at this
        omega
      refine ⟨_, hD3, small1000 (by rw [List.length_map]; omega), same_upd hD (sm.trans s3), us ++ [t], ms ++ [(.inr z, .ref l)], by rw [upd_same, List.map_append]; rfl, ?_, ?_, ?_, ?_⟩
      · exact Paired.snoc (L2.Paired.mapP hpr fun a b h => kp _ _ h) (by rw [upd_ne (fun c => by rw [c, hD3] at et; cases et)]; exact et)
      · rw [take_snoc hkv, List.map_append, List.map_append, hms]
        rfl
      · rw [List.length_append, List.length_append, hul]
        rfl
      · intro y hy
        rw [take_snoc hz] at hy
        rcases List.mem_append.mp hy with h | h
        · obtain ⟨a, m1, m2, m3⟩ := hall y h
          exact ⟨a, List.mem_append_left _ m1, m2, by rw [upd_ne m2]; exact s3 _ _ m3⟩
        · rw [List.mem_singleton.mp h]
          exact ⟨l, List.mem_append_right _ List.mem_cons_self, nlD, by rw [upd_ne nlD]; exact hl3⟩
    rintro Hc ⟨sm, us, ms, hDc, hpr, hms, hul, hall⟩
    rw [List.take_of_length_le (Nat.le_refl _)] at hms
    rw [List.take_of_length_le (by rw [List.length_map, hk.1]; exact Nat.le_refl _)] at hall
    refine ⟨sm _ _ k1, ?_⟩
    have s2 := back Hc sm
    have nbD : D ≠ b := fun c => by rw [c, k1] at hD; cases hD
    have hD2 : upd Hc b (.dK kvs) D = some (.lst (us.map V.ref)) := by rw [upd_ne nbD]; exact hDc
    have hpr2 : Paired (fun u (kv : Key × V) => SqT K (upd Hc b (.dK kvs)) u [kV kv.1, kv.2]) us ms := L2.Paired.mapP hpr fun a kv h => SqT.of (by rw [upd_ne (fun c => by rw [c, sm _ _ k1] at h; cases h)]; exact h)
    have hall2 : ∀ y ∈ names p, ∃ a, ((.inr y : Key), V.ref a) ∈ ms ∧ upd Hc b (.dK kvs) a = some (.lst ((rc y).map V.str)) := fun y hy => by
      obtain ⟨a, m1, _, m3⟩ := hall y hy
      exact ⟨a, m1, by rw [upd_ne (fun c => by rw [c, sm _ _ k1] at m3; cases m3)]; exact m3⟩
    generalize upd Hc b (.dK kvs) = H2 at s2 hD2 hpr2 hall2 ⊢
    refine ⟨D, us, ms, rfl, SqL.of hD2, hpr2, fun rd hrd => ?_⟩
    have nms : (ms.map (·.1)).Nodup := by
      rw [hms, hk.keys]
      exact List.pairwise_map.mpr (List.Pairwise.imp (fun h e => h (Sum.inr.inj e)) hn)
    have nrb : rd ≠ b := fun c => by rw [c, s2 _ _ hb] at hrd; cases hrd
    have s3 := s2.trans (same_new (o := .dK (mergeK [] ms)) hrd)
    have hrd3 : upd H2 rd (.dK (mergeK [] ms)) rd = some (.dK (mergeK [] ms)) := upd_same
    have hall3 : ∀ y ∈ names p, ∃ a, valV (mergeK [] ms) (.inr y) = some (.ref a) ∧ upd H2 rd (.dK (mergeK [] ms)) a = some (.lst ((rc y).map V.str)) := fun y hy => by
      obtain ⟨a, m1, m2⟩ := hall2 y hy
      exact ⟨a, valV_merge ms [] nms m1, same_new hrd _ _ m2⟩
    generalize mergeK [] ms = rv at hrd3 hall3 s3 ⊢
    generalize upd H2 rd (.dK rv) = H3 at s3 hrd3 hall3 ⊢
    clear hall2 hpr2 hD2 s2 hall hpr hms hDc sm back k1 f1 nms hul
    -- the knots, sorted
    have hb3 := s3 _ _ hb
    have hk3 := hk.keep (fun a xs e => s3 _ _ e)
    refine ⟨b, _, hb3, trivial, fun od => ?_⟩
    have f1 := hk3.keep (lock_tup (x := .frz od (.dK kvs)) hb3)
    have k1 : upd H3 b (.frz od (.dK kvs)) b = some (.frz od (.dK kvs)) := upd_same
    have back : ∀ H', Same (upd H3 b (.frz od (.dK kvs))) H' → Same H3 (upd H' b (.dK kvs)) := fun H' s => same_lock hb3 s
    have hrdL : upd H3 b (.frz od (.dK kvs)) rd = some (.dK rv) := by rw [upd_ne nrb]; exact hrd3
    have hallL : ∀ y ∈ names p, ∃ a, valV rv (.inr y) = some (.ref a) ∧ upd H3 b (.frz od (.dK kvs)) a = some (.lst ((rc y).map V.str)) := fun y hy => by
      obtain ⟨a, m1, m2⟩ := hall3 y hy
      exact ⟨a, m1, by rw [upd_ne (fun c => by rw [c, hb3] at m2; cases m2)]; exact m2⟩
    generalize upd H3 b (.frz od (.dK kvs)) = HL at f1 k1 back hrdL hallL ⊢
    have dg : ∀ {Hx : Hp} {y : Str} {a : Addr}, Same HL Hx → valV rv (.inr y) = some (.ref a) → DGet Hx rd (kV (.inr y)) (some (.ref a)) := fun {Hx y a} s e => by rw [← e]; exact .inl ⟨rv, .inr y, .inl (s _ _ hrdL), rfl, rfl⟩
    refine ⟨_, rfl, b, od, rfl, .inl ⟨kvs, k1, fun D hD => ?_⟩⟩
    refine lc_it walk_keys (fun i Hc => Same HL Hc ∧ ∃ ks : List (Addr × List Str), Hc D = some (.lst (ks.map fun q => V.ref q.1)) ∧ (∀ q ∈ ks, Hc q.1 = some (.tup (q.2.map V.str))) ∧ ks.map Prod.snd = ((names p).take i).map (kn rc)) ⟨same_new hD, [], upd_same, fun q hq => absurd hq List.not_mem_nil, rfl⟩ (fun i Hc _ z => z.1 _ _ k1) ?_ ?_
    · rintro i y0 Hq Hc hi' ⟨sm, ks, hDc, htp, hks⟩ ⟨rfl, kk, v0, hkv, rfl⟩
      obtain ⟨z, bz, rfl, hpz, _⟩ := f1.2 i kk v0 hkv
      have zn : z ∈ names p := List.mem_map.mpr ⟨(z, bz), List.mem_of_getElem? hpz, rfl⟩
      have hz : (names p)[i]? = some z := by rw [List.getElem?_map, hpz]; rfl
      obtain ⟨a, e1, ha⟩ := hallL z zn
      have lz : (rc z).length ≤ 8 := by
        have := nodup_le (hrc z (nm.mp zn)).2.1 fun c hc => (((hrc z (nm.mp zn)).2.2 c).mp hc).names hp' hn' (nm.mp zn)
        rw [List.length_map, pm.length_eq] at this
        omega
      have lks : ks.length ≤ 8 := by
        have := congrArg List.length hks
        rw [List.length_map, List.length_map, List.length_take, List.length_map] at this
        omega
      refine ⟨rfl, _, rfl, _, rfl, rd, .ref a, rfl, dg sm e1, a, rfl, ⟨_, SqL.of (sm _ _ ha)⟩, fun D2 hD2 => ?_⟩
      refine lc_it (walk_list (xs := (rc z).map V.str)) (fun j Hx => Same Hc Hx ∧ Hx D2 = some (.lst ((((rc z).take j).filter fun o => decide (z ∈ rc o)).map V.str))) ⟨same_new hD2, upd_same⟩ (fun j Hx _ y => SqL.of (y.1 _ _ (sm _ _ ha))) ?_ ?_
      · rintro j v1 Hx H' hj ⟨sx, hDx⟩ ⟨rfl, hv1⟩
        rw [List.length_map] at hj
        obtain ⟨o, ho, rfl⟩ : ∃ o, (rc z)[j]? = some o ∧ v1 = .str o := by
          rw [List.getElem?_map] at hv1
          cases e : (rc z)[j]? with
          | none => rw [e] at hv1; cases hv1
          | some o => rw [e] at hv1; cases hv1; exact ⟨o, rfl, rfl⟩
        have on : o ∈ names p := nm.mpr ((((hrc z (nm.mp zn)).2.2 o).mp (List.mem_of_getElem? ho)).names hp' hn' (nm.mp zn))
        obtain ⟨a2, e2, ha2⟩ := hallL o on
        have ein : inV (.str z) ((rc o).map V.str) = decide (z ∈ rc o) := inV_strs
        have gs : ((rc z).take (j + 1)).filter (fun o => decide (z ∈ rc o)) = ((rc z).take j).filter (fun o => decide (z ∈ rc o)) ++ (if decide (z ∈ rc o) = true then [o] else []) := by
          rw [take_snoc ho, List.filter_append]
          congr 1
          rw [List.filter_cons]
          split <;> rfl
        have smx := sm.trans sx
        refine ⟨rfl, _, rfl, _, rfl, _, rfl, rd, .ref a2, rfl, dg smx e2, a2, _, rfl, .inl (SqL.of (smx _ _ ha2)), rfl, flat_strs, _, rfl, ite2 (fun h0 => ?_) (fun h0 => ?_)⟩
        · have h0 : decide (z ∈ rc o) = true := by rw [← ein]; exact h0
          rw [if_pos h0] at gs
          refine ⟨_, rfl, _, hDx, small1000 (by have lf := List.length_filter_le (fun o => decide (z ∈ rc o)) ((rc z).take j); rw [List.length_take] at lf; rw [List.length_map]; omega), same_upd hD2 sx, ?_⟩
          rw [gs, List.map_append]
          exact upd_same
        · have h0 : ¬ decide (z ∈ rc o) = true := fun c => h0 (by rw [← ein] at c; exact c)
          rw [if_neg h0, List.append_nil] at gs
          exact ⟨sx, by rw [gs]; exact hDx⟩
      rintro Hx ⟨sx, hDx⟩
      rw [List.take_of_length_le (by simp)] at hDx
      have hDx : Hx D2 = some (.lst ((kn rc z).map V.str)) := hDx
      refine ⟨D2, _, rfl, .inl ⟨SqL.of hDx, fun tk htk => ?_⟩⟩
      have st := same_new (o := .tup ((kn rc z).map V.str)) htk
      have et : upd Hx tk (.tup ((kn rc z).map V.str)) tk = some (.tup ((kn rc z).map V.str)) := upd_same
      have s6 := sx.trans st
      generalize upd Hx tk (.tup ((kn rc z).map V.str)) = H6 at st et s6 ⊢
      have hD6 := s6 _ _ hDc
      refine ⟨_, hD6, small1000 (by rw [List.length_map]; omega), same_upd hD (sm.trans s6), ks ++ [(tk, kn rc z)], by rw [upd_same, List.map_append]; rfl, fun q hq => ?_, ?_⟩
      · have kp : ∀ c xs, H6 c = some (.tup xs) → upd H6 D (.lst (ks.map (fun q => V.ref q.1) ++ [.ref tk])) c = some (.tup xs) := fun c xs e => by
          rw [upd_ne (fun z => by rw [z, hD6] at e; cases e)]
          exact e
        rcases List.mem_append.mp hq with h | h
        · exact kp _ _ (s6 _ _ (htp q h))
        · rw [List.mem_singleton.mp h]
          exact kp _ _ et
      · rw [take_snoc hz, List.map_append, List.map_append, hks]
        rfl
    rintro Hc ⟨sm, ks, hDc, htp, hks⟩
    rw [List.take_of_length_le (by rw [List.length_map, hk.1]; exact Nat.le_refl _)] at hks
    refine ⟨sm _ _ k1, ?_⟩
    have s4 := back Hc sm
    have hD4 : upd Hc b (.dK kvs) D = some (.lst (ks.map fun q => V.ref q.1)) := by rw [upd_ne (fun c => by rw [c, k1] at hD; cases hD)]; exact hDc
    have htp4 : ∀ q ∈ ks, upd Hc b (.dK kvs) q.1 = some (.tup (q.2.map V.str)) := fun q hq => by
      have e := htp q hq
      rw [upd_ne (fun c => by rw [c, sm _ _ k1] at e; cases e)]
      exact e
    generalize upd Hc b (.dK kvs) = H4 at s4 hD4 htp4 ⊢
    clear htp hDc sm back k1 f1 hrdL hallL dg hD
    have s04 := s3.trans s4
    have kmem : ∀ k, k ∈ ks.map Prod.snd ↔ ∃ z ∈ names ps, k = kn rc z := fun k => by
      rw [hks, List.mem_map]
      exact ⟨fun ⟨z, hz, e⟩ => ⟨z, nm.mp hz, e.symm⟩, fun ⟨z, hz, e⟩ => ⟨z, nm.mpr hz, e.symm⟩⟩
    have lks : ks.length ≤ 8 := by
      have := congrArg List.length hks
      rw [List.length_map, List.length_map, List.length_map] at this
      omega
    refine ⟨D, ks, rfl, SqL.of hD4, fun q hq => SqT.of (htp4 q hq), by omega, fun sa L hsa sub all nd => ?_⟩
    have s5 := s4.trans (same_new (o := SQ.SqO P w sa L) hsa)
    have htp5 : ∀ q ∈ L, upd H4 sa (SQ.SqO P w sa L) q.1 = some (.tup (q.2.map V.str)) := fun q hq => same_new hsa _ _ (htp4 q (sub q hq))
    have kof : ∀ q ∈ L, ∃ z ∈ names ps, q.2 = kn rc z := fun q hq => (kmem q.2).mp (List.mem_map.mpr ⟨q, sub q hq, rfl⟩)
    have hcons : ∀ q ∈ L, ∃ y k, q.2 = y :: k := fun q hq => by
      obtain ⟨z, hz, e⟩ := kof q hq
      have k0 := kn_self hp' hn' hrc hz
      rw [← e] at k0
      cases h : q.2 with
      | nil => rw [h] at k0; exact absurd k0 List.not_mem_nil
      | cons y k => exact ⟨y, k, rfl⟩
    refine ⟨sa, L, rfl, upd_same, fun q hq => SqT.of (htp5 q hq), hcons, fun q hq r hr e => ?_, fun N l pN pw hl => ?_⟩
    · obtain ⟨z1, hz1, e1⟩ := kof q hq
      obtain ⟨z2, hz2, e2⟩ := kof r hr
      obtain ⟨y, k, ey⟩ := hcons q hq
      rw [ey] at e
      have m1 : y ∈ kn rc z1 := by rw [← e1, ey]; exact List.mem_cons_self
      have m2 : y ∈ kn rc z2 := by
        rw [← e2]
        cases h : r.2 with
        | nil => rw [h] at e; cases e
        | cons y2 k2 => rw [h] at e; rw [Option.some.inj e]; exact List.mem_cons_self
      rw [e1, e2, ← kn_eq hp' hn' hrc hz1 m1, ← kn_eq hp' hn' hrc hz2 m2]
    have s6 := s5.trans (same_new (o := .lst (N.map fun q => V.ref q.1)) hl)
    have hl6 : upd (upd H4 sa (SQ.SqO P w sa L)) l (.lst (N.map fun q => V.ref q.1)) l = some (.lst (N.map fun q => V.ref q.1)) := upd_same
    have htp6 : ∀ q ∈ N, upd (upd H4 sa (SQ.SqO P w sa L)) l (.lst (N.map fun q => V.ref q.1)) q.1 = some (.tup (q.2.map V.str)) := fun q hq => same_new hl _ _ (htp5 q (pN.mem_iff.mp hq))
    generalize upd (upd H4 sa (SQ.SqO P w sa L)) l (.lst (N.map fun q => V.ref q.1)) = H6 at s6 hl6 htp6 ⊢
    have eN : N.map Prod.snd = kns ps rc := kns_is hp' hn' so hrc ((pN.map _).nodup_iff.mpr nd) (fun k => ⟨fun h => by
      obtain ⟨q, hq, rfl⟩ := List.mem_map.mp h
      exact kof q (pN.mem_iff.mp hq), fun h => by
      obtain ⟨q, hq, e⟩ := List.mem_map.mp ((kmem k).mpr h)
      exact (pN.map Prod.snd).mem_iff.mpr (by rw [← e]; exact all q hq)⟩) (List.pairwise_map.mpr pw)
    have hus6 : AG (KnT H6) (N.map fun q => V.ref q.1) (kns ps rc) := by
      rw [← eN]
      refine ⟨by rw [List.length_map, List.length_map], fun i v e => ?_⟩
      rw [List.getElem?_map] at e
      cases h : N[i]? with
      | none => rw [h] at e; cases e
      | some q =>
        rw [h] at e
        cases e
        exact ⟨q.2, by rw [List.getElem?_map, h]; rfl, q.1, rfl, htp6 q (List.mem_of_getElem? h)⟩
    have s06 := s3.trans s6
    have hrd6 := s6 _ _ hrd3
    have hall6 : ∀ y ∈ names p, ∃ a, valV rv (.inr y) = some (.ref a) ∧ H6 a = some (.lst ((rc y).map V.str)) := fun y hy => by
      obtain ⟨a, m1, m2⟩ := hall3 y hy
      exact ⟨a, m1, s6 _ _ m2⟩
    generalize (N.map fun q => V.ref q.1) = us at hl6 hus6 ⊢
    have nl : H l = none := none_of_same (s3.trans s5) hl
    clear htp6 s6 s5 s4 htp5 htp4 hD4 hall3 hrd3 s04 hl hsa
    clear lks kmem hcons kof eN pN pw nd all sub
    have kl := kns_len (rc := rc) hp'
    have plL : ∀ l : List (List Str), PlainD (.list (l.map fun k => .tuple (k.map PyData.str))) := fun l => (PlN.lst (n := 1) fun d hd => by
      obtain ⟨k, _, rfl⟩ := List.mem_map.mp hd
      exact PlN.tup (strPl k)).pl (by decide)
    have pl1 : ∀ l : List Str, PlainD (.list (l.map fun _ => PyData.int 1)) := fun l => (PlN.lst (n := 0) fun d hd => by
      obtain ⟨k, _, rfl⟩ := List.mem_map.mp hd
      exact PlN.int 1).pl (by decide)
    have dp1 : ∀ {Hx : Hp} (l : List Str), DpAll K Hx (l.map fun _ => V.int 1) (l.map fun _ => PyData.int 1) := fun {Hx} l => by
      induction l with
      | nil => exact .nil
      | cons _ _ ih => exact .cons (.int 1) ih
    have pN0 : PlainD (.list []) := (PlN.lst (n := 0) all0).pl (by decide)
    have dpK : ∀ {Hx : Hp} {vs : List V} {ks : List (List Str)}, AG (KnT Hx) vs ks → DpAll K Hx vs (ks.map fun k => .tuple (k.map PyData.str)) := fun {Hx vs ks} g => dpAll (fun v k r => by
      obtain ⟨t, e, h⟩ := r
      rw [e]
      exact .tup (SqT.of h) (dpStrs k)) g
    refine ⟨Nat.zero_le _, fun fo hfo => ?_⟩
    have s7 := s06.trans (same_new (o := .lst []) hfo)
    have hf7 : upd H6 fo (.lst []) fo = some (.lst []) := upd_same
    have hl7 := same_new (o := .lst []) hfo _ _ hl6
    have hus7 := hus6.imp (R' := KnT (upd H6 fo (.lst []))) fun _ _ h => KnT.same h (same_new hfo)
    have hrd7 := same_new (o := .lst []) hfo _ _ hrd6
    have hall7 : ∀ y ∈ names p, ∃ a, valV rv (.inr y) = some (.ref a) ∧ a ≠ fo ∧ upd H6 fo (.lst []) a = some (.lst ((rc y).map V.str)) := fun y hy => by
      obtain ⟨a, m1, m2⟩ := hall6 y hy
      exact ⟨a, m1, (fun c => by rw [c, hfo] at m2; cases m2), same_new hfo _ _ m2⟩
    have nfo : H fo = none := none_of_same s06 hfo
    have nfl : fo ≠ l := fun c => by rw [c, hl6] at hfo; cases hfo
    generalize upd H6 fo (.lst []) = H7 at s7 hf7 hl7 hus7 hrd7 hall7 ⊢
    refine ⟨Nat.zero_le _, fun ao hao => ?_⟩
    have s8 := s7.trans (same_new (o := .lst []) hao)
    have ha8 : upd H7 ao (.lst []) ao = some (.lst []) := upd_same
    have hf8 := same_new (o := .lst []) hao _ _ hf7
    have hl8 := same_new (o := .lst []) hao _ _ hl7
    have hus8 := hus7.imp (R' := KnT (upd H7 ao (.lst []))) fun _ _ h => KnT.same h (same_new hao)
    have hrd8 := same_new (o := .lst []) hao _ _ hrd7
    have hall8 : ∀ y ∈ names p, ∃ a, valV rv (.inr y) = some (.ref a) ∧ (a ≠ fo ∧ a ≠ ao) ∧ upd H7 ao (.lst []) a = some (.lst ((rc y).map V.str)) := fun y hy => by
      obtain ⟨a, m1, m2, m3⟩ := hall7 y hy
      exact ⟨a, m1, ⟨m2, (fun c => by rw [c, hao] at m3; cases m3)⟩, same_new hao _ _ m3⟩
    have nao : H ao = none := none_of_same s7 hao
    have nal : ao ≠ l := fun c => by rw [c, hl7] at hao; cases hao
    have nfa : fo ≠ ao := fun c => by rw [← c, hf7] at hao; cases hao
    generalize upd H7 ao (.lst []) = H8 at s8 ha8 hf8 hl8 hus8 hrd8 hall8 ⊢
    refine ⟨small1000 (Nat.le_of_ble_eq_true rfl), fun tt htt => ?_⟩
    have et : upd H8 tt (.tup [.ref fo, .ref ao]) tt = some (.tup [.ref fo, .ref ao]) := upd_same
    have s9 := s8.trans (same_new (o := .tup [.ref fo, .ref ao]) htt)
    have ha9 := same_new (o := .tup [.ref fo, .ref ao]) htt _ _ ha8
    have hf9 := same_new (o := .tup [.ref fo, .ref ao]) htt _ _ hf8
    have hl9 := same_new (o := .tup [.ref fo, .ref ao]) htt _ _ hl8
    have hus9 := hus8.imp (R' := KnT (upd H8 tt (.tup [.ref fo, .ref ao]))) fun _ _ h => KnT.same h (same_new htt)
    have hrd9 := same_new (o := .tup [.ref fo, .ref ao]) htt _ _ hrd8
    have hall9 : ∀ y ∈ names p, ∃ a, valV rv (.inr y) = some (.ref a) ∧ (a ≠ fo ∧ a ≠ ao) ∧ upd H8 tt (.tup [.ref fo, .ref ao]) a = some (.lst ((rc y).map V.str)) := fun y hy => by
      obtain ⟨a, m1, m2, m3⟩ := hall8 y hy
      exact ⟨a, m1, m2, same_new htt _ _ m3⟩
    generalize upd H8 tt (.tup [.ref fo, .ref ao]) = H9 at et s9 ha9 hf9 hl9 hus9 hrd9 hall9 ⊢
    refine ⟨tt, _, rfl, SqT.of et, rfl, _, _, rfl, _, _, rfl, rfl, ?_⟩
    clear hus6 hus7 hus8 hl6 hl7 hl8 hf7 hf8 ha8 hrd6 hrd7 hrd8 hall6 hall7 hall8 s7 s8 s06 hfo hao htt et
    refine ⟨fun m σ Hc => ∃ (l : Addr) (x5 : Option V) (left done : List (List Str)) (D : List Str) (us vs : List V), σ = [some (.ref b), some (.ref rd), some (.ref l), some (.ref fo), some (.ref ao), x5, none, none, none] ∧ Same H Hc ∧ (H l = none ∧ ao ≠ l ∧ fo ≠ l) ∧ Hc l = some (.lst us) ∧ AG (KnT Hc) us left ∧ Hc ao = some (.lst (D.map V.str)) ∧ Hc fo = some (.lst vs) ∧ AG (KnT Hc) vs done ∧ Hc rd = some (.dK rv) ∧ (∀ y ∈ names p, ∃ a, valV rv (.inr y) = some (.ref a) ∧ (a ≠ fo ∧ a ≠ ao) ∧ Hc a = some (.lst ((rc y).map V.str))) ∧ Left ps rc left D ∧ (D.Nodup ∧ ∀ y ∈ D, y ∈ names ps) ∧ left.length ≤ m ∧ done.length + m ≤ 8 ∧ done ++ ord rc m left D = total ps rc, ⟨(kns ps rc).length, l, _, kns ps rc, [], [], us, [], rfl, s9, ⟨nl, nal, nfl⟩, hl9, hus9, ha9, hf9, AG.nil, hrd9, hall9, left_start hp' hn' hrc, ⟨List.nodup_nil, fun y hy => absurd hy List.not_mem_nil⟩, Nat.le_refl _, by show 0 + _ ≤ 8; omega, rfl⟩, ?_⟩
    clear hl9 hus9 ha9 hf9 s9 nl nal nfl hrd9 hall9
    rintro m σ Hc ⟨l, x5, left, done, D, us, vs, rfl, sc, ⟨nl, nal, nfl⟩, hl, hus, ha, hf, hvs, hrd, hall, lft, ⟨dn, dd⟩, lm, dm, tot⟩
    refine ⟨_, rfl, Nat.zero_le _, fun e0 he0 => ?_⟩
    have s4 := same_new (o := .lst []) he0
    have h4 : upd Hc e0 (.lst []) e0 = some (.lst []) := upd_same
    have sc := sc.trans s4
    have hl := s4 _ _ hl
    have ha := s4 _ _ ha
    have hf := s4 _ _ hf
    have hrd := s4 _ _ hrd
    have hus := hus.imp (R' := KnT (upd Hc e0 (.lst []))) fun _ _ h => KnT.same h s4
    have hvs := hvs.imp (R' := KnT (upd Hc e0 (.lst []))) fun _ _ h => KnT.same h s4
    have hall : ∀ y ∈ names p, ∃ a, valV rv (.inr y) = some (.ref a) ∧ (a ≠ fo ∧ a ≠ ao) ∧ upd Hc e0 (.lst []) a = some (.lst ((rc y).map V.str)) := fun y hy => by
      obtain ⟨a, m1, m2, m3⟩ := hall y hy
      exact ⟨a, m1, m2, s4 _ _ m3⟩
    generalize upd Hc e0 (.lst []) = Hc at s4 h4 sc hl ha hf hrd hus hvs hall ⊢
    refine ⟨.list (left.map fun k => .tuple (k.map PyData.str)), .list [], .lst (SqL.of hl) (dpK hus), .lst (SqL.of h4) .nil, plL left, pN0, _, rfl, ite2 (fun h0 => ?_) (fun h0 => ?_)⟩
    · rw [eqv_nil] at h0
      refine ⟨_, fun σ' H' h => h, ?_⟩
      have ne : left ≠ [] := fun e => by
        rw [e] at h0
        exact absurd h0 (by decide)
      have fne := left_some hp' hn' hrc lft ne
      refine ⟨_, rfl, l, rfl, ⟨_, SqL.of hl⟩, fun D1 hD1 => ?_⟩
      refine lc_it (walk_list (xs := us)) (fun j Hx => Same Hc Hx ∧ ∃ ws, Hx D1 = some (.lst ws) ∧ AG (KnT Hx) ws ((left.take j).filter (freeB rc D))) ⟨same_new hD1, [], upd_same, AG.nil⟩ (fun j Hx _ z => SqL.of (z.1 _ _ hl)) ?_ ?_
      · rintro j v Hx0 Hx hj ⟨sx, ws, hDx, hws⟩ ⟨rfl, hv⟩
        obtain ⟨Kn, hK, t, rfl, ht⟩ := hus.2 j v hv
        have mK := List.mem_of_getElem? hK
        obtain ⟨z, hz, eK, hd⟩ := lft.knot Kn mK
        have zn := nm.mpr hz
        obtain ⟨a, e1, _, haz⟩ := hall z zn
        have ht := sx _ _ ht
        have haz := sx _ _ haz
        have lz : (rc z).length ≤ 8 := by
          have := nodup_le (hrc z hz).2.1 fun c hc => (((hrc z hz).2.2 c).mp hc).names hp' hn' hz
          rw [List.length_map, pm.length_eq] at this
          omega
        obtain ⟨K1, eK1⟩ : ∃ K1, Kn = z :: K1 := by
          cases Kn with
          | nil => cases hd
          | cons y k => exact ⟨k, by rw [Option.some.inj hd]⟩
        have gs : (left.take (j + 1)).filter (freeB rc D) = (left.take j).filter (freeB rc D) ++ (if freeB rc D Kn = true then [Kn] else []) := by
          rw [take_snoc hK, List.filter_append]
          congr 1
          rw [List.filter_cons]
          split <;> rfl
        let g : Str → Bool := fun o => !decide (o ∈ Kn) && !decide (o ∈ D)
        have eB : freeB rc D Kn = decide (((rc z).filter g).length = 0) := by
          rw [Bool.eq_iff_iff, decide_eq_true_eq, List.length_eq_zero_iff, List.filter_eq_nil_iff]
          unfold freeB
          rw [eK1, List.all_eq_true]
          show (∀ x ∈ rc z, (decide (x ∈ z :: K1) || decide (x ∈ D)) = true) ↔ ∀ x ∈ rc z, ¬ (!decide (x ∈ Kn) && !decide (x ∈ D)) = true
          rw [eK1]
          refine forall_congr' fun x => forall_congr' fun _ => ?_
          cases decide (x ∈ z :: K1) <;> cases decide (x ∈ D) <;> simp
        refine ⟨rfl, _, rfl, _, rfl, t, _, 0, .str z, rfl, rfl, SqT.of ht, atI_nat (j := 0) (by rw [eK1]; rfl), rd, .ref a, rfl, .inl ⟨rv, .inr z, .inl (sx _ _ hrd), rfl, by rw [← e1]⟩, a, rfl, ⟨_, SqL.of haz⟩, fun D2 hD2 => ?_⟩
        refine lc_it (walk_list (xs := (rc z).map V.str)) (fun i Hy => Same Hx Hy ∧ Hy D2 = some (.lst ((((rc z).take i).filter g).map fun _ => V.int 1))) ⟨same_new hD2, upd_same⟩ (fun i Hy _ y => SqL.of (y.1 _ _ haz)) ?_ ?_
        · rintro i v1 Hy0 Hy hi ⟨sy, hDy⟩ ⟨rfl, hv1⟩
          rw [List.length_map] at hi
          obtain ⟨o, ho, rfl⟩ : ∃ o, (rc z)[i]? = some o ∧ v1 = .str o := by
            rw [List.getElem?_map] at hv1
            cases e : (rc z)[i]? with
            | none => rw [e] at hv1; cases hv1
            | some o => rw [e] at hv1; cases hv1; exact ⟨o, rfl, rfl⟩
          have i1 : inV (.str o) (Kn.map V.str) = decide (o ∈ Kn) := inV_strs
          have i2 : inV (.str o) (D.map V.str) = decide (o ∈ D) := inV_strs
          have gt : ((rc z).take (i + 1)).filter g = ((rc z).take i).filter g ++ (if g o = true then [o] else []) := by
            rw [take_snoc ho, List.filter_append]
            congr 1
            rw [List.filter_cons]
            split <;> rfl
          refine ⟨rfl, _, rfl, _, rfl, t, _, rfl, .inr (SqT.of (sy _ _ ht)), rfl, flat_strs, _, rfl, ite2 (fun h1 => ?_) (fun h1 => ?_)⟩
          · have h1 : (!decide (o ∈ Kn)) = true := by rw [← i1]; exact h1
            refine ⟨_, rfl, _, rfl, ao, _, rfl, .inl (SqL.of (sy _ _ (sx _ _ ha))), rfl, flat_strs, _, rfl, ite2 (fun h2 => ?_) (fun h2 => ?_)⟩
            · have h2 : (!decide (o ∈ D)) = true := by rw [← i2]; exact h2
              have e3 : g o = true := by show (_ && _) = true; rw [h1, h2]; rfl
              rw [if_pos e3] at gt
              refine ⟨_, hDy, small1000 (by have lf := List.length_filter_le g ((rc z).take i); rw [List.length_take] at lf; rw [List.length_map]; omega), same_upd hD2 sy, ?_⟩
              rw [gt, List.map_append]
              exact upd_same
            · have h2 : ¬ (!decide (o ∈ D)) = true := fun c => h2 (by rw [← i2] at c; exact c)
              have e3 : ¬ g o = true := fun c => h2 (Bool.and_eq_true_iff.mp c).2
              rw [if_neg e3, List.append_nil] at gt
              exact ⟨sy, by rw [gt]; exact hDy⟩
          · have h1 : ¬ (!decide (o ∈ Kn)) = true := fun c => h1 (by rw [← i1] at c; exact c)
            have e3 : ¬ g o = true := fun c => h1 (Bool.and_eq_true_iff.mp c).1
            rw [if_neg e3, List.append_nil] at gt
            exact ⟨sy, by rw [gt]; exact hDy⟩
        rintro Hy ⟨sy, hDy⟩
        rw [List.take_of_length_le (by simp)] at hDy
        refine ⟨Nat.zero_le _, fun e1 he1 => ?_⟩
        have se := same_new (o := .lst []) he1
        refine ⟨_, _, .lst (SqL.of (se _ _ hDy)) (dp1 _), .lst (SqL.of upd_same) .nil, pl1 _, pN0, ?_⟩
        rw [eqv_nil, ← eB]
        have s2 := sy.trans se
        generalize upd Hy e1 (.lst []) = H2 at s2 ⊢
        have hD2' := s2 _ _ hDx
        have hw2 := hws.imp (R' := KnT H2) fun _ _ h => KnT.same h s2
        have ht2 := s2 _ _ ht
        refine ⟨_, rfl, ite2 (fun h0 => ?_) (fun h0 => ?_)⟩
        · rw [if_pos h0] at gs
          have lw : ws.length ≤ left.length := by
            rw [hws.1]
            exact Nat.le_trans (List.length_filter_le _ _) (by rw [List.length_take]; omega)
          refine ⟨_, rfl, _, hD2', small1000 (by omega), same_upd hD1 (sx.trans s2), ws ++ [.ref t], upd_same, ?_⟩
          rw [gs]
          exact AG.snoc (hw2.imp fun _ _ h => KnT.list h hD2') (KnT.list ⟨t, rfl, ht2⟩ hD2')
        · rw [if_neg h0, List.append_nil] at gs
          exact ⟨sx.trans s2, ws, hD2', by rw [gs]; exact hw2⟩
      · rintro Hx ⟨sx, ws, hDx, hws⟩
        rw [List.take_of_length_le (by rw [hus.1]; exact Nat.le_refl _)] at hws
        obtain ⟨Kn, more, ef⟩ : ∃ Kn more, left.filter (freeB rc D) = Kn :: more := by
          cases e : left.filter (freeB rc D) with
          | nil => exact absurd e fne
          | cons a l => exact ⟨a, l, rfl⟩
        rw [ef] at hws
        obtain ⟨v0, ws', rfl⟩ : ∃ v0 ws', ws = v0 :: ws' := by
          cases ws with
          | nil => exact absurd hws.1 (by simp)
          | cons a l => exact ⟨a, l, rfl⟩
        obtain ⟨t, rfl, ht⟩ := hws.uncons.1
        obtain ⟨mK, fK⟩ := List.mem_filter.mp (show Kn ∈ left.filter (freeB rc D) by rw [ef]; exact List.mem_cons_self)
        obtain ⟨z, hz, eK, hd⟩ := lft.knot Kn mK
        have Ks : ∀ y ∈ Kn, y ∈ names ps := fun y hy => by
          rw [eK] at hy
          exact (((mem_kn hp' hn' hrc hz).mp hy).1).names hp' hn' hz
        have Kd : Kn.Nodup := by rw [eK]; exact (hrc z hz).2.1.filter _
        have l8' : ps.length ≤ 8 := by rw [pm.length_eq]; exact l8
        have lD : D.length ≤ 8 := by
          have := nodup_le dn dd
          rw [List.length_map] at this
          omega
        have lK : Kn.length ≤ 8 := by
          have := nodup_le Kd Ks
          rw [List.length_map] at this
          omega
        have lv : vs.length = done.length := hvs.1
        have lu : us.length = left.length := hus.1
        have hf2 := sx _ _ hf
        have ha2 := sx _ _ ha
        have hl2 := sx _ _ hl
        have hrd2 := sx _ _ hrd
        have hus2 := hus.imp (R' := KnT Hx) fun _ _ h => KnT.same h sx
        have hvs2 := hvs.imp (R' := KnT Hx) fun _ _ h => KnT.same h sx
        have hall2 : ∀ y ∈ names p, ∃ a, valV rv (.inr y) = some (.ref a) ∧ (a ≠ fo ∧ a ≠ ao) ∧ Hx a = some (.lst ((rc y).map V.str)) := fun y hy => by
          obtain ⟨a, m1, m2, m3⟩ := hall y hy
          exact ⟨a, m1, m2, sx _ _ m3⟩
        have scx := sc.trans sx
        have nD1 : D1 ≠ fo ∧ D1 ≠ ao ∧ D1 ≠ l := ⟨(fun c => by rw [c, hf] at hD1; cases hD1), (fun c => by rw [c, ha] at hD1; cases hD1), (fun c => by rw [c, hl] at hD1; cases hD1)⟩
        have naf : ao ≠ fo := fun c => nfa c.symm
        refine ⟨_, rfl, .inl ⟨rfl, _, SqL.of hf2⟩, _, rfl, D1, _, 0, .ref t, rfl, rfl, SqL.of hDx, atI_nat (j := 0) rfl, fo, vs, _, rfl, rfl, hf2, small1000 (by omega), ?_⟩
        have s3 : Same H (upd Hx fo (.lst (vs ++ [.ref t]))) := same_upd nfo scx
        have hf3 : upd Hx fo (.lst (vs ++ [.ref t])) fo = some (.lst (vs ++ [.ref t])) := upd_same
        have hD3 : upd Hx fo (.lst (vs ++ [.ref t])) D1 = _ := (upd_ne nD1.1).trans hDx
        have ha3 : upd Hx fo (.lst (vs ++ [.ref t])) ao = _ := (upd_ne naf).trans ha2
        have hl3 : upd Hx fo (.lst (vs ++ [.ref t])) l = _ := (upd_ne (Ne.symm nfl)).trans hl2
        have hrd3 : upd Hx fo (.lst (vs ++ [.ref t])) rd = some (.dK rv) := (upd_ne (fun c => by rw [c, hf2] at hrd2; cases hrd2)).trans hrd2
        have hus3 := hus2.imp (R' := KnT (upd Hx fo (.lst (vs ++ [.ref t])))) fun _ _ h => KnT.list h hf2
        have hvs3 := AG.snoc (hvs2.imp (R' := KnT (upd Hx fo (.lst (vs ++ [.ref t])))) fun _ _ h => KnT.list h hf2) (KnT.list ⟨t, rfl, ht⟩ hf2)
        have ht3 : KnT (upd Hx fo (.lst (vs ++ [.ref t]))) (.ref t) Kn := KnT.list ⟨t, rfl, ht⟩ hf2
        have hall3 : ∀ y ∈ names p, ∃ a, valV rv (.inr y) = some (.ref a) ∧ (a ≠ fo ∧ a ≠ ao) ∧ upd Hx fo (.lst (vs ++ [.ref t])) a = some (.lst ((rc y).map V.str)) := fun y hy => by
          obtain ⟨a, m1, m2, m3⟩ := hall2 y hy
          exact ⟨a, m1, m2, (upd_ne m2.1).trans m3⟩
        generalize upd Hx fo (.lst (vs ++ [.ref t])) = H3 at s3 hf3 hD3 ha3 hl3 hrd3 hus3 hvs3 ht3 hall3 ⊢
        clear hf2 ha2 hl2 hrd2 hus2 hvs2 hws hDx ht hall2
        obtain ⟨t', et, ht3⟩ := ht3
        cases et
        refine ⟨_, rfl, .inl ⟨rfl, _, SqL.of ha3⟩, _, rfl, D1, _, 0, .ref t, rfl, rfl, SqL.of hD3, atI_nat (j := 0) rfl, t, _, rfl, .inr (SqT.of ht3), fun nw hnw => ?_⟩
        have sn := same_new (o := .lst (Kn.map V.str)) hnw
        have hnw4 : upd H3 nw (.lst (Kn.map V.str)) nw = some (.lst (Kn.map V.str)) := upd_same
        have s3 := s3.trans sn
        have hf3 := sn _ _ hf3
        have hD3 := sn _ _ hD3
        have ha3 := sn _ _ ha3
        have hl3 := sn _ _ hl3
        have hrd3 := sn _ _ hrd3
        have ht3 := sn _ _ ht3
        have hus3 := hus3.imp (R' := KnT (upd H3 nw (.lst (Kn.map V.str)))) fun _ _ h => KnT.same h sn
        have hvs3 := hvs3.imp (R' := KnT (upd H3 nw (.lst (Kn.map V.str)))) fun _ _ h => KnT.same h sn
        have hall3 : ∀ y ∈ names p, ∃ a, valV rv (.inr y) = some (.ref a) ∧ (a ≠ fo ∧ a ≠ ao) ∧ upd H3 nw (.lst (Kn.map V.str)) a = some (.lst ((rc y).map V.str)) := fun y hy => by
          obtain ⟨a, m1, m2, m3⟩ := hall3 y hy
          exact ⟨a, m1, m2, sn _ _ m3⟩
        generalize upd H3 nw (.lst (Kn.map V.str)) = H3 at s3 hf3 hD3 ha3 hl3 hrd3 hus3 hvs3 ht3 hall3 hnw4 ⊢
        refine ⟨ao, nw, _, _, rfl, rfl, ha3, hnw4, Nat.le_of_lt (small1000 (by rw [List.length_map, List.length_map]; omega)), ?_⟩
        have e4 : D.map V.str ++ Kn.map V.str = (D ++ Kn).map V.str := (List.map_append ..).symm
        have s4 : Same H (upd H3 ao (.lst (D.map V.str ++ Kn.map V.str))) := same_upd nao s3
        have ha4 : upd H3 ao (.lst (D.map V.str ++ Kn.map V.str)) ao = some (.lst ((D ++ Kn).map V.str)) := by rw [upd_same, e4]
        have hf4 : upd H3 ao (.lst (D.map V.str ++ Kn.map V.str)) fo = _ := (upd_ne nfa).trans hf3
        have hD4 : upd H3 ao (.lst (D.map V.str ++ Kn.map V.str)) D1 = _ := (upd_ne nD1.2.1).trans hD3
        have hl4 : upd H3 ao (.lst (D.map V.str ++ Kn.map V.str)) l = _ := (upd_ne (Ne.symm nal)).trans hl3
        have hrd4 : upd H3 ao (.lst (D.map V.str ++ Kn.map V.str)) rd = some (.dK rv) := (upd_ne (fun c => by rw [c, ha3] at hrd3; cases hrd3)).trans hrd3
        have hus4 := hus3.imp (R' := KnT (upd H3 ao (.lst (D.map V.str ++ Kn.map V.str)))) fun _ _ h => KnT.list h ha3
        have hvs4 := hvs3.imp (R' := KnT (upd H3 ao (.lst (D.map V.str ++ Kn.map V.str)))) fun _ _ h => KnT.list h ha3
        have ht4 : KnT (upd H3 ao (.lst (D.map V.str ++ Kn.map V.str))) (.ref t) Kn := KnT.list ⟨t, rfl, ht3⟩ ha3
        have hall4 : ∀ y ∈ names p, ∃ a, valV rv (.inr y) = some (.ref a) ∧ (a ≠ fo ∧ a ≠ ao) ∧ upd H3 ao (.lst (D.map V.str ++ Kn.map V.str)) a = some (.lst ((rc y).map V.str)) := fun y hy => by
          obtain ⟨a, m1, m2, m3⟩ := hall3 y hy
          exact ⟨a, m1, m2, (upd_ne m2.2).trans m3⟩
        generalize upd H3 ao (.lst (D.map V.str ++ Kn.map V.str)) = H4 at s4 hf4 ha4 hD4 hl4 hrd4 hus4 hvs4 ht4 hall4 ⊢
        clear hf3 ha3 hl3 hus3 hvs3 ht3 hrd3 hall3 hD3 hnw4
        obtain ⟨t', et, ht4⟩ := ht4
        cases et
        refine ⟨_, rfl, l, rfl, ⟨_, SqL.of hl4⟩, fun D2 hD2 => ?_⟩
        refine lc_it (walk_list (xs := us)) (fun j Hy => Same H4 Hy ∧ ∃ ws, Hy D2 = some (.lst ws) ∧ AG (KnT Hy) ws ((left.take j).filter fun k => !decide (k = Kn))) ⟨same_new hD2, [], upd_same, AG.nil⟩ (fun j Hy _ z => SqL.of (z.1 _ _ hl4)) ?_ ?_
        · rintro j v Hy0 Hy hj ⟨sy, ws2, hDy, hw2⟩ ⟨rfl, hv⟩
          obtain ⟨k, hk, t2, rfl, ht2⟩ := hus4.2 j v hv
          have gs : (left.take (j + 1)).filter (fun k => !decide (k = Kn)) = (left.take j).filter (fun k => !decide (k = Kn)) ++ (if (!decide (k = Kn)) = true then [k] else []) := by
            rw [take_snoc hk, List.filter_append]
            congr 1
            rw [List.filter_cons]
            split <;> rfl
          have ht2y := sy _ _ ht2
          refine ⟨rfl, _, rfl, _, rfl, D1, _, 0, .ref t, rfl, rfl, SqL.of (sy _ _ hD4), atI_nat (j := 0) rfl, .tuple (k.map PyData.str), .tuple (Kn.map PyData.str), .tup (SqT.of ht2y) (dpStrs k), .tup (SqT.of (sy _ _ ht4)) (dpStrs Kn), plTupS k, plTupS Kn, ?_⟩
          rw [eqv_tupS]
          refine ⟨_, rfl, ite2 (fun h0 => ?_) (fun h0 => ?_)⟩
          · rw [if_pos h0] at gs
            have lw : ws2.length ≤ left.length := by
              rw [hw2.1]
              exact Nat.le_trans (List.length_filter_le _ _) (by rw [List.length_take]; omega)
            refine ⟨_, rfl, _, hDy, small1000 (by omega), same_upd hD2 sy, ws2 ++ [.ref t2], upd_same, ?_⟩
            rw [gs]
            exact AG.snoc (hw2.imp fun _ _ h => KnT.list h hDy) (KnT.list ⟨t2, rfl, ht2y⟩ hDy)
          · rw [if_neg h0, List.append_nil] at gs
            exact ⟨sy, ws2, hDy, by rw [gs]; exact hw2⟩
        · rintro Hy ⟨sy, ws2, hDy, hw2⟩
          rw [List.take_of_length_le (by rw [hus.1]; exact Nat.le_refl _)] at hw2
          have lf : (left.filter fun k => !decide (k = Kn)).length < left.length :=
            List.length_filter_lt_length_iff_exists.mpr ⟨Kn, mK, by rw [decide_eq_true rfl]; decide⟩
          refine ⟨m - 1, by omega, D2, _, _, _, _, ws2, _, rfl, s4.trans sy, ⟨none_of_same s4 hD2, (fun c => by rw [c, hD2] at ha4; cases ha4), (fun c => by rw [c, hD2] at hf4; cases hf4)⟩, hDy, hw2, sy _ _ ha4, sy _ _ hf4, hvs4.imp fun _ _ h => KnT.same h sy, sy _ _ hrd4, (fun y hy => by
            obtain ⟨a, m1, m2, m3⟩ := hall4 y hy
            exact ⟨a, m1, m2, sy _ _ m3⟩), left_next hp' hn' hrc lft mK fK, ⟨?_, ?_⟩, by omega, by rw [List.length_append]; show _ + 1 + _ ≤ 8; omega, ?_⟩
          · exact List.nodup_append.mpr ⟨dn, Kd, fun a ha b hb e => lft.not Kn mK b hb (by rw [← e]; exact ha)⟩
          · exact fun y hy => (List.mem_append.mp hy).elim (dd y) (Ks y)
          · rw [← tot]
            cases m with
            | zero => omega
            | succ n =>
              have eo : ord rc (n + 1) left D = Kn :: ord rc n (left.filter fun k => !decide (k = Kn)) (D ++ Kn) := by
                show (match left.filter (freeB rc D) with | [] => [] | K :: _ => K :: ord rc n (left.filter fun k => !decide (k = K)) (D ++ K)) = _
                rw [ef]
              rw [eo, List.append_assoc]
              rfl
    · rw [eqv_nil] at h0
      have e0 : left = [] := by
        cases left with
        | nil => rfl
        | cons a l => exact absurd (by rw [decide_eq_false (by rw [List.length_cons]; omega)]; rfl) h0
      subst e0
      have eo : ord rc m [] D = [] := by cases m <;> rfl
      rw [eo, List.append_nil] at tot
      subst tot
      exact ⟨_, rfl, q fo vs _ nfo sc hf hvs⟩
end
end FR
set_option Elab.async false
set_option linter.all false
set_option maxRecDepth 100000
set_option maxHeartbeats 1000000
/-! _law_told -/
namespace FR
open PySem PySem.Spec PyProof.Rows L2
theorem cut_all {xs : List V} {lo hi : Option Int} (z : HT.sIx xs.length 0 lo = 0 ∧ HT.sIx xs.length xs.length hi = xs.length) : cutV xs lo hi = xs := by
  unfold cutV
  rw [z.1, z.2, List.drop_zero, Nat.sub_zero, List.take_length]
theorem sla_tup {K : PySem.W.Frag} {H : Hp} {a : Addr} {xs : List V} {lo hi : Option Int} {Q : VK} (h : H a = some (.tup xs)) (q : ∀ t H', Same H H' → H' t = some (.tup (cutV xs lo hi)) → Q (.ref t) H') : rSlA K (.ref a) lo hi H Q :=
  ⟨a, xs, rfl, SqT.of h, fun z => q a H (Same.refl H) (by rw [cut_all z]; exact h), fun _ p hp => q p _ (same_new hp) upd_same⟩
theorem cut_to (xs : List V) (k : Nat) : cutV xs none (some (k : Int)) = xs.take k := by
  unfold cutV
  rw [HT.sIx_nat, HT.sIx_none, List.drop_zero, Nat.sub_zero]
  rcases Nat.le_total k xs.length with h | h
  · rw [Nat.min_eq_left h]
  · rw [Nat.min_eq_right h, List.take_length, List.take_of_length_le h]
def rSlB : V → Option Int → Option Int → Hp → VK → Prop := fun x lo hi H Q => ∃ a xs, x = .ref a ∧ H a = some (.tup xs) ∧ ∀ t H', Same H H' → H' t = some (.tup (cutV xs lo hi)) → Q (.ref t) H'
theorem sl_tupB {X : Cx} : SlR X rSlB := by
  intro pins s σ H x v vl vu lo hi sl Q I rx hs pl pu h
  obtain ⟨a, xs, rfl, ha, q⟩ := h
  exact sl_tupA pins s σ H _ v vl vu lo hi sl Q I rx hs pl pu (sla_tup ha q)
abbrev sTl : Stmt := FR.top 59
abbrev NTl : List Str := ["_law_thing", "_law_bodies_here", "_law_told_here", "_law_due", "_law_name_here", "_law_at", "_law_knot", "_law_ahead", "_law_other", "_law_one"]
theorem scTl : FnScope NTl ["_law_thing", "_law_bodies_here"] (defScope sTl) := ⟨rfl, rfl, rfl, by decide +kernel, rfl, by decide +kernel, by decide +kernel⟩
section
variable {p : Pg} {rc : Str → List Str}
theorem ord_ahead : ∀ (n : Nat) (left : List (List Str)) (D : List Str) (i : Nat) (Kn : List Str), (ord rc n left D)[i]? = some Kn → ∀ c ∈ rc (Kn.headD ""), c ∈ D ∨ c ∈ ((ord rc n left D).take (i + 1)).flatMap id
  | 0, _, _, i, Kn, h => by
    have h : ([] : List (List Str))[i]? = some Kn := h
    simp at h
  | n + 1, left, D, i, Kn, h => by
    have eo : ord rc (n + 1) left D = (match left.filter (freeB rc D) with | [] => [] | K :: _ => K :: ord rc n (left.filter fun k => !decide (k = K)) (D ++ K)) := rfl
    rw [eo] at h ⊢
    cases ef : left.filter (freeB rc D) with
    | nil => rw [ef] at h; simp at h
    | cons K more =>
      rw [ef] at h
      have fK := (List.mem_filter.mp (show K ∈ left.filter (freeB rc D) by rw [ef]; exact List.mem_cons_self)).2
      cases i with
      | zero =>
        have e : K = Kn := Option.some.inj h
        subst e
        intro c hc
        unfold freeB at fK
        have := List.all_eq_true.mp fK c hc
        rw [Bool.or_eq_true] at this
        rcases this with a | a
        · exact .inr (by show c ∈ (K :: []).flatMap id; simpa using of_decide_eq_true a)
        · exact .inl (of_decide_eq_true a)
      | succ i =>
        have h : (ord rc n (left.filter fun k => !decide (k = K)) (D ++ K))[i]? = some Kn := h
        intro c hc
        have tk : (K :: ord rc n (left.filter fun k => !decide (k = K)) (D ++ K)).take (i + 1 + 1) = K :: (ord rc n (left.filter fun k => !decide (k = K)) (D ++ K)).take (i + 1) := rfl
        rcases ord_ahead n _ _ i Kn h c hc with a | a
        · rcases List.mem_append.mp a with b | b
          · exact .inl b
          · exact .inr (by rw [tk, List.flatMap_cons]; exact List.mem_append_left _ b)
        · exact .inr (by rw [tk, List.flatMap_cons]; exact List.mem_append_right _ a)
open Classical in
theorem rc_ex (hp : Prg p) (hn : (names p).Nodup) (so : sortedS (names p) = true) : ∃ rc, IsRc p rc := by
  refine ⟨fun z => (names p).filter fun y => decide (Reach p z y), fun z hz => ⟨pair_sorted ((sorted_pair so).sublist List.filter_sublist), hn.filter _, fun y => ?_⟩⟩
  rw [List.mem_filter, decide_eq_true_eq]
  exact ⟨fun h => h.2, fun h => ⟨h.names hp hn hz, h⟩⟩
end
/-- the dict b is not the program's own -/
def Apart (H : Hp) (x b : Addr) : Prop := ∃ d C dx r, H x = some (.ins C dx (("_bodies", .ref d) :: r)) ∧ d ≠ b
theorem Apart.same {H H' : Hp} {x b : Addr} (h : Apart H x b) (s : Same H H') : Apart H' x b := by
  obtain ⟨d, C, dx, r, e, n⟩ := h
  exact ⟨d, C, dx, r, s _ _ e, n⟩
theorem IsPg.putA {K : PySem.W.Frag} {C : Addr} {H : Hp} {x t : Addr} {p : Pg} {kvs : List (Key × V)} {o : HO} (h : IsPg K C H x p) (ht : H t = some (.dK kvs)) (f : Apart H x t) : IsPg K C (upd H t o) x p := by
  obtain ⟨dx, d, e, c, kvs', es, cs, a1, a2, a3, a4, a5, a6, a7⟩ := h
  obtain ⟨d', C', dx', r, b1, b2⟩ := f
  rw [a1] at b1
  cases b1
  have nx : x ≠ t := fun z => by rw [z, ht] at a1; cases a1
  have tk : Tk H (upd H t o) := Tk.upd ht (fun _ z => by cases z) fun _ _ z => by cases z
  exact ⟨dx, d, e, c, kvs', es, cs, by rw [upd_ne nx]; exact a1, by rw [upd_ne b2]; exact a2, tk.pg a3, tk.1 _ _ a4, a5, tk.1 _ _ a6, tk.chs a7⟩
theorem ite0 {c A B : Prop} [Decidable c] (hc : ¬ c) (h : B) : if c then A else B := by rw [if_neg hc]; exact h
theorem plKs (l : List (List Str)) : PlainD (.list (l.map fun k => .tuple (k.map PyData.str))) := (PlN.lst (n := 1) fun d hd => by
  obtain ⟨k, _, rfl⟩ := List.mem_map.mp hd
  exact PlN.tup (strPl k)).pl (by decide)
theorem dpKs {K : PySem.W.Frag} {H : Hp} {vs : List V} {ks : List (List Str)} (g : AG (KnT H) vs ks) : DpAll K H vs (ks.map fun k => .tuple (k.map PyData.str)) := dpAll (fun v k r => by
  obtain ⟨t, e, h⟩ := r
  rw [e]
  exact .tup (SqT.of h) (dpStrs k)) g
theorem plSs (l : List Str) : PlainD (.list (l.map PyData.str)) := (PlN.lst (strPl l)).pl (by decide)
section
variable {P : Program} {w : World} {K : PySem.W.Frag} {mg : Str → Option Value} {base : Heap}
def spTl (K : PySem.W.Frag) (C : Addr) : Sp := fun vs H Q _ => ∃ x b kvs p ps, vs = [.ref x, .ref b] ∧ IsPg K C H x ps ∧ H b = some (.dK kvs) ∧ PrgK H kvs p ∧ Prg p ∧ (names p).Nodup ∧ ps.Perm p ∧ sortedS (names ps) = true ∧ Apart H x b ∧ ∀ H', Same H H' → Q (.bl true) H'
theorem ok_tl {f C : Addr} {fd : FuncData} (F : Fun K "_law_told" "_law_told" sTl f fd) (ml : mg "list" = none) (mEn : mg "enumerate" = none) (gKs : Glo P w K mg base "knots" 12 ["free"] (spKs K C)) (gDk : Glo P w K mg base "_law_due_knots" 9 ["_law_bodies_here"] spDk) (gRa : Glo P w K mg base "reaches" 10 ["free", "name"] (spRa K C))
    (gRe : Glo P w K mg base "_law_reached" 8 ["_law_bodies_here", "_law_start"] spRe) (gKo : Glo P w K mg base "knot_of" 13 ["free", "name"] (spKo K C)) : FnOk P w K mg base CX0 14 f fd ["_law_thing", "_law_bodies_here"] (spTl K C) := by
  refine F.ok scTl (fun vs H Q E h => ?_) (fun cdv A outer s H vs Q E hr h => ?_)
  · obtain ⟨x, b, kvs, p, ps, rfl, _⟩ := h
    rfl
  · obtain ⟨x, b, kvs, p, ps, rfl, hi, hb, hk, hp, hn, pm, so, ap, q⟩ := h
    refine ⟨_, (pss_cons (ps_par (i := 2) (j := 3) (by rfl) scTl.nd rfl rfl (by decide) rfl rfl (pa_cons (pe_call gKs.G (hr.mono (by decide)) (by rfl) gKs.m gKs.k gKs.b .nil pass0 (pa_cons (pv 0) pa_nil)) (pa_cons (pe_call gDk.G (hr.mono (by decide)) (by rfl) gDk.m gDk.k gDk.b .nil pass0 (pa_cons (pv 1) pa_nil)) pa_nil)) (by rfl))
      (pss_cons (ps_if (pt_cmpR (op_neP (K := K) rfl hr.units) (pe_callTy call_list_of (by rfl) ml (by decide +kernel) (pa_cons (pv 2) pa_nil)) (pv 3) (nomark _)) pss_never pss_nil)
      (pss_cons (ps_lock (ps_for PassesOwn.never rfl (pi_keys (pv 1)) (pg_name (i := 4) scTl.nd rfl (.inr rfl)) (pss_cons (ps_if (pt_cmpR (op_neP (K := K) rfl hr.units) (pe_callTy call_list_of (by rfl) ml (by decide +kernel) (pa_cons (pe_call gRa.G (hr.mono (by decide)) (by rfl) gRa.m gRa.k gRa.b .nil pass0 (pa_cons (pv 0) (pa_cons (pv 4) pa_nil))) pa_nil)) (pe_call gRe.G (hr.mono (by decide)) (by rfl) gRe.m gRe.k gRe.b .nil pass0 (pa_cons (pv 1) (pa_cons (pv 4) pa_nil))) (nomark _)) pss_never pss_nil)
      (pss_one (ps_if (pt_cmpR (op_neP (K := K) rfl hr.units) (pe_lst (pa_cons (pe_call gKo.G (hr.mono (by decide)) (by rfl) gKo.m gKo.k gKo.b .nil pass0 (pa_cons (pv 0) (pa_cons (pv 4) pa_nil))) pa_nil)) (pe_lc (X := (cxOf CX0 P w K mg base NTl "_law_told" (defScope sTl) f cdv A outer s H E).nox) (own := [("_law_knot", 6)]) (g := (gName 6)) rfl scTl.nd (pi_list (pv 3)) (blkOk_by (N := NTl) (sc := defScope sTl) (by decide +kernel)) (fun _ _ _ _ _ => (pg_name (i := 6) scTl.nd rfl (.inl rfl))) (fun _ _ _ _ _ => (pts_one (pt_cmpR (op_in_seqK (K := K) rfl) (pv 4) (pv 6) rfl))) (fun _ _ _ _ _ => (pv 6))) (nomark _)) pss_never pss_nil)))))
      (pss_cons (ps_for PassesOwn.never rfl (pi_enumT (by rfl) mEn (pa_cons (pv 2) pa_nil)) (pg_tup (by rfl) (pgs_cons (pg_name (i := 5) scTl.nd rfl (.inl rfl)) (pgs_cons (pg_name (i := 6) scTl.nd rfl (.inl rfl)) pgs_nil))) (pss_cons (ps_set (i := 7) scTl.nd rfl (Or.inr rfl) (pe_lst pa_nil))
      (pss_cons (ps_for PassesOwn.never rfl (pi_tup (pe_slice sl_tupB (pv 2) po_none (po_some (pe_op op_add (pv 5) pe_int)))) (pg_name (i := 8) scTl.nd rfl (.inl rfl)) (pss_one (ps_expr (pe_bm PySem.F.plainAttrs_list PySem.F.slot_list_extend PySem.F.type_list_extend mt_extend (pv 7) (pa_cons (pe_callTy call_list_of (by rfl) ml (by decide +kernel) (pa_cons (pv 8) pa_nil)) pa_nil)))))
      (pss_one (ps_if (pt_cmpR (op_neP (K := K) rfl hr.units) (pe_lc (X := (cxOf CX0 P w K mg base NTl "_law_told" (defScope sTl) f cdv A outer s H E).nox) (own := [("_law_one", 9)]) (g := (gName 9)) rfl scTl.nd (pi_list (pe_call gRe.G (hr.mono (by decide)) (by rfl) gRe.m gRe.k gRe.b .nil pass0 (pa_cons (pv 1) (pa_cons (pe_ix ix_tup (pv 6) pe_int (fun _ _ => rfl)) pa_nil)))) (blkOk_by (N := NTl) (sc := defScope sTl) (by decide +kernel)) (fun _ _ _ _ _ => (pg_name (i := 9) scTl.nd rfl (.inl rfl))) (fun _ _ _ _ _ => (pts_one (pt_cmpR (op_notIn_seqK (K := K) rfl) (pv 9) (pv 7) rfl))) (fun _ _ _ _ _ => (pv 9))) (pe_lst pa_nil) (nomark _)) pss_never pss_nil)))))
      (pss_one (ps_ret pe_bl)))))), ?_⟩
    have eb := bodyOf_perm hn pm
    have hp' := hp.perm pm
    have hn' : (names ps).Nodup := (pm.map _).nodup_iff.mpr hn
    obtain ⟨rc, hrc⟩ := rc_ex hp' hn' so
    have nm : ∀ {z : Str}, z ∈ names p ↔ z ∈ names ps := fun {z} => (pm.map _).mem_iff.symm
    have tl := total_len (rc := rc) hp'
    refine ⟨_, rfl, x, ps, rc, rfl, hi, hp', hn', hrc, fun t us H1 nt s1 ht hus => ?_⟩
    refine ⟨_, rfl, b, kvs, p, ps, rc, rfl, s1 _ _ hb, hk.keep (fun a xs e => s1 _ _ e), hp, hn, pm, so, hrc, fun l vs H2 nl s2 hl hvs => ?_⟩
    have s12 := s1.trans s2
    have ht2 := s2 _ _ ht
    have hus2 := hus.imp (R' := KnT H2) fun _ _ h => KnT.same h s2
    have nl0 : H l = none := none_of_same s1 nl
    refine ⟨_, _, rfl, ?_⟩
    refine ⟨_, rfl, t, _, rfl, .inr (SqT.of ht2), fun l2 hl2 => ?_⟩
    have s3 := s12.trans (same_new (o := .lst us) hl2)
    have sn := same_new (o := .lst us) hl2
    refine ⟨_, rfl, _, _, .lst (SqL.of upd_same) (dpKs (hus2.imp fun _ _ h => KnT.same h sn)), .lst (SqL.of (sn _ _ hl)) (dpKs (hvs.imp fun _ _ h => KnT.same h sn)), plKs _, plKs _, _, rfl, ite0 (by rw [eqv_self (plKs _).1]; decide) ?_⟩
    have ht3 := sn _ _ ht2
    have hl3 := sn _ _ hl
    have hus3 := hus2.imp (R' := KnT (upd H2 l2 (.lst us))) fun _ _ h => KnT.same h sn
    have hvs3 := hvs.imp (R' := KnT (upd H2 l2 (.lst us))) fun _ _ h => KnT.same h sn
    generalize upd H2 l2 (.lst us) = H3 at s3 ht3 hl3 hus3 hvs3 ⊢
    clear hvs hus2 ht2 hus ht hl sn hl2 s2 s12
    have hb3 := s3 _ _ hb
    have hk3 := hk.keep (fun a xs e => s3 _ _ e)
    refine ⟨b, _, hb3, trivial, fun od => ?_⟩
    have iL : IsPg K C (upd H3 b (.frz od (.dK kvs))) x ps := (hi.same s3).putA hb3 (ap.same s3)
    have f1 := hk3.keep (lock_tup (x := .frz od (.dK kvs)) hb3)
    have k1 : upd H3 b (.frz od (.dK kvs)) b = some (.frz od (.dK kvs)) := upd_same
    have back : ∀ H', Same (upd H3 b (.frz od (.dK kvs))) H' → Same H3 (upd H' b (.dK kvs)) := fun H' s => same_lock hb3 s
    have nlb : l ≠ b := fun c => by rw [c, hb3] at hl3; cases hl3
    have hlL : upd H3 b (.frz od (.dK kvs)) l = some (.lst vs) := by rw [upd_ne nlb]; exact hl3
    have hvL : AG (KnT (upd H3 b (.frz od (.dK kvs)))) vs (total ps rc) := hvs3.imp fun v k ⟨t, e, h⟩ => ⟨t, e, by rw [upd_ne (fun c => by rw [c, hb3] at h; cases h)]; exact h⟩
    generalize upd H3 b (.frz od (.dK kvs)) = HL at iL f1 k1 back hlL hvL ⊢
    refine ⟨_, rfl, b, od, rfl, .inl ⟨kvs, k1, ?_⟩⟩
    refine for_it walk_keys (fun i σ Hc => Same HL Hc ∧ ∃ (x4 : Option V), σ = [some (.ref x), some (.ref b), some (.ref t), some (.ref l), x4, none, none, none, none, none]) ⟨Same.refl _, _, rfl⟩ (fun i σ Hc _ p' => p'.1 _ _ k1) ?_ ?_
    · rintro i y σ Hc H' hi' ⟨sm, x4, rfl⟩ ⟨rfl, k, v, hkv, rfl⟩
      obtain ⟨z, bz, rfl, hpi, hbv⟩ := f1.2 i k v hkv
      have zn : z ∈ names p := List.mem_map.mpr ⟨_, List.mem_of_getElem? hpi, rfl⟩
      have zs := nm.mp zn
      refine ⟨_, rfl, _, rfl, x, z, ps, rfl, iL.same sm, hp', hn', zs, fun t1 es1 Ha nt1 sa ht1 r1 => ⟨t1, _, rfl, .inr (SqT.of ht1), fun l1 hl1 => ?_⟩⟩
      have s4 := sm.trans (sa.trans (same_new (o := .lst (es1.map V.str)) hl1))
      have h4 : upd Ha l1 (.lst (es1.map V.str)) l1 = some (.lst (es1.map V.str)) := upd_same
      generalize upd Ha l1 (.lst (es1.map V.str)) = H4 at s4 h4 ⊢
      refine ⟨_, rfl, _, rfl, b, z, kvs, p, rfl, .inr ⟨od, s4 _ _ k1⟩, f1.keep (fun a xs e => s4 _ _ e), hp, hn, zn, fun l5 es2 H5 nl5 s5 hl5 r2 => ?_⟩
      have e12 : es1 = es2 := r1.eq (rch_perm eb r2)
      subst e12
      refine ⟨_, _, .lst (SqL.of (s5 _ _ h4)) (dpStrs _), .lst (SqL.of hl5) (dpStrs _), plSs _, plSs _, _, rfl, ite0 (by rw [eqv_self (plSs _).1]; decide) ?_⟩
      have s45 := s4.trans s5
      refine ⟨_, rfl, _, rfl, x, z, ps, rc, rfl, iL.same s45, hp', hn', hrc, zs, fun tk H6 s6 hk6 => ⟨small1000 (Nat.le_of_ble_eq_true rfl), fun lk hlk => ?_⟩⟩
      have s7 := s45.trans (s6.trans (same_new (o := .lst [.ref tk]) hlk))
      have h7 : upd H6 lk (.lst [.ref tk]) lk = some (.lst [.ref tk]) := upd_same
      have hk7 : KnT (upd H6 lk (.lst [.ref tk])) (.ref tk) (kn rc z) := KnT.same hk6 (same_new hlk)
      generalize upd H6 lk (.lst [.ref tk]) = H7 at s7 h7 hk7 ⊢
      refine ⟨_, rfl, l, rfl, ⟨_, SqL.of (s7 _ _ hlL)⟩, fun D hD => ?_⟩
      refine lc_it (walk_list (xs := vs)) (fun j Hx => Same H7 Hx ∧ ∃ ws, Hx D = some (.lst ws) ∧ AG (KnT Hx) ws (((total ps rc).take j).filter fun k => decide (z ∈ k))) ⟨same_new hD, [], upd_same, AG.nil⟩ (fun j Hx _ y => SqL.of (y.1 _ _ (s7 _ _ hlL))) ?_ ?_
      · rintro j v Hx0 Hx hj ⟨sx, ws, hDx, hws⟩ ⟨rfl, hv⟩
        obtain ⟨k, hk', t2, rfl, ht2⟩ := hvL.2 j v hv
        have ht2 := sx _ _ (s7 _ _ ht2)
        have gs : ((total ps rc).take (j + 1)).filter (fun k => decide (z ∈ k)) = ((total ps rc).take j).filter (fun k => decide (z ∈ k)) ++ (if decide (z ∈ k) = true then [k] else []) := by
          rw [take_snoc hk', List.filter_append]
          congr 1
          rw [List.filter_cons]
          split <;> rfl
        have ei : inV (.str z) (k.map V.str) = decide (z ∈ k) := inV_strs
        refine ⟨rfl, _, rfl, _, rfl, t2, _, rfl, .inr (SqT.of ht2), rfl, flat_strs, _, rfl, ite2 (fun h0 => ?_) (fun h0 => ?_)⟩
        · have h0 : decide (z ∈ k) = true := by rw [← ei]; exact h0
          rw [if_pos h0] at gs
          have lw : ws.length ≤ 8 := by
            rw [hws.1]
            exact Nat.le_trans (List.length_filter_le _ _) (by rw [List.length_take]; omega)
          refine ⟨_, rfl, _, hDx, small1000 (by omega), same_upd hD sx, ws ++ [.ref t2], upd_same, ?_⟩
          rw [gs]
          exact AG.snoc (hws.imp fun _ _ h => KnT.list h hDx) (KnT.list ⟨t2, rfl, ht2⟩ hDx)
        · have h0 : ¬ decide (z ∈ k) = true := fun c => h0 (by rw [← ei] at c; exact c)
          rw [if_neg h0, List.append_nil] at gs
          exact ⟨sx, ws, hDx, by rw [gs]; exact hws⟩
      · rintro Hx ⟨sx, ws, hDx, hws⟩
        rw [List.take_of_length_le (by rw [hvL.1]; exact Nat.le_refl _), total_one hp' hn' hrc zs] at hws
        refine ⟨_, _, .lst (SqL.of (sx _ _ h7)) (dpKs (ks := [kn rc z]) (AG.consA (KnT.same hk7 sx) AG.nil)), .lst (SqL.of hDx) (dpKs hws), plKs _, plKs _, _, rfl, ite0 (by rw [eqv_self (plKs _).1]; decide) ?_⟩
        exact ⟨s7.trans sx, _, rfl⟩
    · rintro σ Hc ⟨sm, x4, rfl⟩
      refine ⟨sm _ _ k1, ?_⟩
      have s4 := back Hc sm
      have s04 := s3.trans s4
      have ht4 := s4 _ _ ht3
      have hus4 := hus3.imp (R' := KnT (upd Hc b (.dK kvs))) fun _ _ h => KnT.same h s4
      generalize upd Hc b (.dK kvs) = H4 at s4 s04 ht4 hus4 ⊢
      clear hlL hvL back k1 f1 iL sm hl3 hvs3 hus3 ht3
      refine ⟨_, rfl, t, us, rfl, SqT.of ht4, ?_⟩
      have hb4 := s04 _ _ hb
      have hk4 := hk.keep (fun a xs e => s04 _ _ e)
      refine for_it (walk_enumT (xs := us)) (fun i σ Hc => Same H4 Hc ∧ ∃ (x4 x5 x6 x7 x8 : Option V), σ = [some (.ref x), some (.ref b), some (.ref t), some (.ref l), x4, x5, x6, x7, x8, none]) ⟨Same.refl _, _, _, _, _, _, rfl⟩ (fun i σ Hc _ p' => SqT.of (p'.1 _ _ ht4)) ?_ ?_
      · rintro i v σ Hc H' hi0 ⟨sm, x4, x5, x6, x7, x8, rfl⟩ ⟨T0, u1, u2, rfl, nT, rfl, h1, h2⟩
        have h1 : some (V.int (i : Nat)) = some u1 := h1
        cases h1
        have h2 : us[i]? = some u2 := h2
        obtain ⟨Kn, hKn, tk, rfl, htk⟩ := hus4.2 i u2 h2
        have sT := same_new (o := .tup [V.int (i : Nat), .ref tk]) nT
        have tt1 : upd Hc T0 (.tup [V.int (i : Nat), .ref tk]) T0 = some (.tup [V.int (i : Nat), .ref tk]) := upd_same
        refine ⟨T0, _, rfl, SqT.of tt1, rfl, _, _, rfl, _, _, rfl, rfl, ?_⟩
        have s5 := sm.trans sT
        generalize upd Hc T0 (.tup [V.int (i : Nat), .ref tk]) = H5 at s5 ⊢
        refine ⟨Nat.zero_le _, fun ah hah => ?_⟩
        have s6 := s5.trans (same_new (o := .lst []) hah)
        have h6 : upd H5 ah (.lst []) ah = some (.lst (([] : List Str).map V.str)) := upd_same
        have na4 : H4 ah = none := none_of_same s5 hah
        generalize upd H5 ah (.lst []) = H6 at s6 h6 ⊢
        have li : i < us.length := (List.getElem?_eq_some_iff.mp h2).1
        have lus : us.length ≤ 8 := by rw [hus4.1]; exact tl
        refine ⟨_, rfl, _, rfl, _, _, rfl, rfl, _, rfl, t, us, rfl, s6 _ _ ht4, fun t2 H7 s7 ht7 => ?_⟩
        rw [show ((i : Nat) : Int) + 1 = ((i + 1 : Nat) : Int) by omega, cut_to] at ht7
        have s67 := s6.trans s7
        have h7 := s7 _ _ h6
        let fl : Nat → List Str := fun j => ((total ps rc).take j).flatMap id
        refine ⟨t2, rfl, ⟨_, SqT.of ht7⟩, ?_⟩
        refine for_it (walk_tup (xs := us.take (i + 1))) (fun j σ Hx => Same H4 Hx ∧ Hx t2 = some (.tup (us.take (i + 1))) ∧ ∃ (x8 : Option V), σ = [some (.ref x), some (.ref b), some (.ref t), some (.ref l), x4, some (.int (i : Nat)), some (.ref tk), some (.ref ah), x8, none] ∧ Hx ah = some (.lst ((fl j).map V.str)) ∧ (fl j).length ≤ 8 * j) ⟨s67, ht7, _, rfl, h7, Nat.le_refl _⟩ (fun j σ Hx _ p' => SqT.of p'.2.1) ?_ ?_
        · rintro j v σ Hx0 Hx hj ⟨sx, hT, x8, rfl, hah', lfl⟩ ⟨rfl, hv⟩
          have lj : j < i + 1 := by
            have := (List.getElem?_eq_some_iff.mp hv).1
            rw [List.length_take] at this
            omega
          rw [List.getElem?_take_of_lt lj] at hv
          obtain ⟨k, hk', t3, rfl, ht3⟩ := hus4.2 j v hv
          have ht3 := sx _ _ ht3
          obtain ⟨zk, hzk, ek, _⟩ := total_kn hp' hn' hrc k (List.mem_of_getElem? hk')
          have lk : k.length ≤ 8 := by
            have h1 : k.length ≤ (rc zk).length := by rw [ek]; exact List.length_filter_le _ _
            have h2 := nodup_le (hrc zk hzk).2.1 fun c hc => (((hrc zk hzk).2.2 c).mp hc).names hp' hn' hzk
            rw [List.length_map] at h2
            have := hp'.len.2
            omega
          have fs : fl (j + 1) = fl j ++ k := by
            show ((total ps rc).take (j + 1)).flatMap id = _
            rw [take_snoc hk', List.flatMap_append]
            simp [fl]
          refine ⟨_, rfl, .inl ⟨rfl, _, SqL.of hah'⟩, _, rfl, t3, _, rfl, .inr (SqT.of ht3), fun nw hnw => ?_⟩
          have sn := same_new (o := .lst (k.map V.str)) hnw
          have h8 : upd Hx nw (.lst (k.map V.str)) nw = some (.lst (k.map V.str)) := upd_same
          have s8 := sx.trans sn
          have hah8 := sn _ _ hah'
          have hT8 := sn _ _ hT
          generalize upd Hx nw (.lst (k.map V.str)) = H8 at sn h8 s8 hah8 hT8 ⊢
          refine ⟨ah, nw, _, _, rfl, rfl, hah8, h8, Nat.le_of_lt (small1000 (by rw [List.length_map, List.length_map]; omega)), ?_⟩
          refine ⟨same_upd na4 s8, by rw [upd_ne (fun c => by rw [c, hah8] at hT8; cases hT8)]; exact hT8, _, rfl, by rw [upd_same, fs, List.map_append], by rw [fs, List.length_append]; omega⟩
        · rintro σ Hx ⟨sx, hT, x8, rfl, hah', lfl⟩
          rw [show (us.take (i + 1)).length = i + 1 by rw [List.length_take]; omega] at hah'
          obtain ⟨z, zs, eK, hd⟩ := total_kn hp' hn' hrc Kn (List.mem_of_getElem? hKn)
          have zn := nm.mpr zs
          obtain ⟨K1, eK1⟩ : ∃ K1, Kn = z :: K1 := by
            cases Kn with
            | nil => cases hd
            | cons y k => exact ⟨k, by rw [Option.some.inj hd]⟩
          have htk := sx _ _ htk
          refine ⟨_, rfl, _, rfl, tk, _, 0, .str z, rfl, rfl, SqT.of htk, atI_nat (j := 0) (by rw [eK1]; rfl), b, z, kvs, p, rfl, .inl (sx _ _ hb4), hk4.keep (fun a xs e => sx _ _ e), hp, hn, zn, fun l5 es2 H8 nl5 s8 hl5 r2 => ?_⟩
          have e12 : es2 = rc z := (rch_perm eb r2).eq (hrc z zs)
          subst e12
          refine ⟨l5, rfl, ⟨_, SqL.of hl5⟩, fun D hD => ?_⟩
          have inn : ∀ c ∈ rc z, c ∈ fl (i + 1) := fun c hc => by
            have := ord_ahead _ _ [] i Kn hKn c (by rw [eK1]; exact hc)
            exact this.elim (fun m => absurd m List.not_mem_nil) id
          refine lc_it (walk_list (xs := (rc z).map V.str)) (fun j Hy => Same H8 Hy ∧ Hy D = some (.lst [])) ⟨same_new hD, upd_same⟩ (fun j Hy _ y => SqL.of (y.1 _ _ hl5)) ?_ ?_
          · rintro j v1 Hy0 Hy hj ⟨sy, hDy⟩ ⟨rfl, hv1⟩
            obtain ⟨o, ho, rfl⟩ : ∃ o, (rc z)[j]? = some o ∧ v1 = .str o := by
              rw [List.getElem?_map] at hv1
              cases e : (rc z)[j]? with
              | none => rw [e] at hv1; cases hv1
              | some o => rw [e] at hv1; cases hv1; exact ⟨o, rfl, rfl⟩
            have i1 : inV (.str o) ((fl (i + 1)).map V.str) = decide (o ∈ fl (i + 1)) := inV_strs
            refine ⟨rfl, _, rfl, _, rfl, ah, _, rfl, .inl (SqL.of (sy _ _ (s8 _ _ hah'))), rfl, flat_strs, _, rfl, ite0 ?_ ⟨sy, hDy⟩⟩
            rw [i1, decide_eq_true (inn o (List.mem_of_getElem? ho))]
            decide
          rintro Hy ⟨sy, hDy⟩
          refine ⟨Nat.zero_le _, fun e1 he1 => ?_⟩
          have se := same_new (o := .lst []) he1
          have pN0 : PlainD (.list []) := (PlN.lst (n := 0) all0).pl (by decide)
          refine ⟨_, _, .lst (SqL.of (se _ _ hDy)) .nil, .lst (SqL.of upd_same) .nil, pN0, pN0, _, rfl, ite0 (by decide) ?_⟩
          exact ⟨(sx.trans s8).trans (sy.trans se), _, _, _, _, _, rfl⟩
      · rintro σ Hc ⟨sm, x4, x5, x6, x7, x8, rfl⟩
        exact q Hc (s04.trans sm)
end
end FR
set_option Elab.async false
set_option linter.all false
set_option maxRecDepth 100000
set_option maxHeartbeats 1000000
/-! _law_chain -/
namespace FR
open PySem PySem.Spec PyProof.Rows L2 LD
abbrev sHn : Stmt := FR.top 60
abbrev NHn : List Str := ["_law_dice_here", "_law_names", "_law_found", "_law_at", "_law_name_here", "_law_body_here", "_law_turn"]
theorem scHn : FnScope NHn ["_law_dice_here"] (defScope sHn) := ⟨rfl, rfl, rfl, by decide +kernel, rfl, by decide +kernel, by decide +kernel⟩
abbrev eight : List Str := ["a", "ab", "b", "c", "ca", "go", "x", "zz"]
theorem eight_ok : ∀ z ∈ eight, nameB z = true := fun z hz => by
  have : eight.all nameB = true := by decide +kernel
  exact List.all_eq_true.mp this z hz
theorem chain_prg {ys : List Str} {p : Pg} (pm : ys.Perm eight) (en : names p = ys) (gd : ∀ x ∈ p, GdB ys [] 5 x.2) (sz : (p.map fun x => cnt 5 x.2).sum ≤ 40) : Prg p where
  len := by
    have a : p.length = ys.length := by rw [← en, List.length_map]
    have b : ys.length = 8 := pm.length_eq
    omega
  ok := fun x hx => ⟨eight_ok _ (pm.mem_iff.mp (en ▸ List.mem_map.mpr ⟨x, hx, rfl⟩)), okB_gd (fun z hz => eight_ok z (pm.mem_iff.mp hz)) (gd x hx), by
    have : cnt 5 x.2 ≤ (p.map fun x => cnt 5 x.2).sum := len_mem_sum (f := fun x : Str × Bd => cnt 5 x.2) hx
    omega, fewB_gd (gd x hx)⟩
  sz := by
    have e : (p.map fun x => (placed 5 x.2 []).length) = p.map fun x => cnt 5 x.2 := List.map_congr_left fun x _ => placed_len 5 x.2 []
    rw [e]
    omega
  cl := fun x hx z hz => by
    have := calls_gd (gd x hx) z hz
    rw [← en] at this
    exact this
section
variable {P : Program} {w : World} {K : PySem.W.Frag} {mg : Str → Option Value} {base : Heap}
def spHn : Sp := fun vs H Q _ => ∃ d, vs = [.ref d] ∧ DiceAt H d ∧ ∀ l kvs p H', H l = none → Rl d H H' → H' l = some (.dK kvs) → PrgK H' kvs p → Prg p → (names p).Nodup → Q (.ref l) H'
theorem ok_hn {f : Addr} {fd : FuncData} (F : Fun K "_law_chain" "_law_chain" sHn f fd) (mEn : mg "enumerate" = none) (mr : mg "range" = none) (mt : mg "tuple" = none) (gR : Glo P w K mg base "_law_roll" 1 ["_law_dice_here", "_law_total"] spRoll) (gX : Glo P w K mg base "_law_mixed" 2 ["_law_dice_here", "_law_items"] spMx)
    (gO : Glo P w K mg base "_law_one_of" 2 ["_law_dice_here", "_law_items"] spOneOf) : FnOk P w K mg base CX0 3 f fd ["_law_dice_here"] spHn := by
  refine F.ok scHn (fun vs H Q E h => ?_) (fun cdv A outer s H vs Q E hr h => ?_)
  · obtain ⟨d, rfl, _⟩ := h
    rfl
  · obtain ⟨d, rfl, hd, q⟩ := h
    refine ⟨_, (pss_cons (ps_asg (pe_tup (pa_cons (pe_call gX.G (hr.mono (by decide)) (by rfl) gX.m gX.k gX.b .nil pass0 (pa_cons (pv 0) (pa_cons (pe_lst (pa_cons pe_str (pa_cons pe_str (pa_cons pe_str (pa_cons pe_str (pa_cons pe_str (pa_cons pe_str (pa_cons pe_str (pa_cons pe_str pa_nil))))))))) pa_nil))) (pa_cons pe_dnewK pa_nil))) (pg_tupK (K := K) rfl rfl (pgs_cons (pg_name (i := 1) scHn.nd rfl (.inr rfl)) (pgs_cons (pg_name (i := 2) scHn.nd rfl (.inl rfl)) pgs_nil))))
      (pss_cons (ps_for PassesOwn.never rfl (pi_enum (by rfl) mEn (pa_cons (pv 1) pa_nil)) (pg_tup (by rfl) (pgs_cons (pg_name (i := 3) scHn.nd rfl (.inr rfl)) (pgs_cons (pg_name (i := 4) scHn.nd rfl (.inl rfl)) pgs_nil))) (pss_cons (ps_setLc (i := 5) (X := (cxOf CX0 P w K mg base NHn "_law_chain" (defScope sHn) f cdv A outer s H E).nox) (own := [("_law_turn", 6)]) (g := (gName 6)) (tt := tYes) rfl scHn.nd rfl rfl (sw_true rfl rfl rfl (by decide +kernel)) (pi_range1 (by rfl) mr (pa_cons (pe_call gR.G (hr.mono (by decide)) (by rfl) gR.m gR.k gR.b .nil pass0 (pa_cons (pv 0) (pa_cons pe_int pa_nil))) pa_nil)) (blkOk_by (N := NHn) (sc := defScope sHn) (by decide +kernel)) (fun _ _ _ _ _ => (pg_name (i := 6) scHn.nd rfl (.inl rfl))) (fun _ _ _ _ _ => pts_nil) (fun _ _ _ _ _ => (pe_tup (pa_cons pe_str (pa_cons (pe_ix (ix_listK (K := K) rfl) (pv 1) (pe_call gR.G (hr.mono (by decide)) (by rfl) gR.m gR.k gR.b .nil pass0 (pa_cons (pv 0) (pa_cons (pe_op op_add (pv 3) pe_int) pa_nil))) (fun _ _ => rfl)) pa_nil)))))
      (pss_cons (ps_if (pt_cmpR op_eq (pe_call gR.G (hr.mono (by decide)) (by rfl) gR.m gR.k gR.b .nil pass0 (pa_cons (pv 0) (pa_cons pe_int pa_nil))) pe_int (nomark _)) (pss_one (ps_expr (pe_bm PySem.F.plainAttrs_list PySem.F.slot_list_append PySem.F.type_list_append mt_append (pv 5) (pa_cons (pe_tup (pa_cons pe_str (pa_cons (pe_tup (pa_cons pe_int (pa_cons (pe_tup pa_nil) pa_nil))) (pa_cons (pe_tup (pa_cons pe_int (pa_cons (pe_tup (pa_cons (pe_tup (pa_cons pe_str (pa_cons (pe_call gO.G (hr.mono (by decide)) (by rfl) gO.m gO.k gO.b .nil pass0 (pa_cons (pv 0) (pa_cons (pv 1) pa_nil))) pa_nil))) pa_nil)) pa_nil))) pa_nil)))) pa_nil)))) pss_nil)
      (pss_one (ps_dput (lt1_of hr.units) (pv 2) (pv 4) (pe_callTy call_tuple_of (by rfl) mt (by decide +kernel) (pa_cons (pv 5) pa_nil)) (by rfl))))))
      (pss_one (ps_ret (pv 2))))), ?_⟩
    refine ⟨_, rfl, small1000 (Nat.le_of_ble_eq_true rfl), fun l0 hl0 => ?_⟩
    have s0 := same_new (o := .lst (eight.map V.str)) hl0
    have hl01 : upd H l0 (.lst (eight.map V.str)) l0 = some (.lst (eight.map V.str)) := upd_same
    have n0 : l0 ≠ d := by
      obtain ⟨x, y, z, e⟩ := hd
      exact fun c => by rw [c, e] at hl0; cases hl0
    have R1 := (Rl.refl hd).same s0
    refine ⟨d, l0, eight, rfl, R1.1, .inl hl01, n0, by decide, fun ys nl H2 pm hnl R2 hy => ?_⟩
    have hnl : upd H l0 (.lst (eight.map V.str)) nl = none := hnl
    have n1 : nl ≠ d := by
      obtain ⟨x, y, z, e⟩ := R1.1
      exact fun c => by rw [c, e] at hnl; cases hnl
    have R12 := R1.trans R2
    have hnl0 : H nl = none := none_of_same s0 hnl
    clear R1 R2
    intro fo hfo
    have n2 : fo ≠ d := by
      obtain ⟨x, y, z, e⟩ := R12.1
      exact fun c => by rw [c, e] at hfo; cases hfo
    have R3 : Rl d H2 (upd H2 fo (.dK [])) := (Rl.refl R12.1).same (same_new (o := .dK []) hfo)
    have hy3 := same_new (o := .dK []) hfo _ _ hy
    have hf3 : upd H2 fo (.dK []) fo = some (.dK []) := upd_same
    have hfo0 : H fo = none := R12.none hd hfo
    generalize upd H2 fo (.dK []) = H3 at R3 hy3 hf3 ⊢
    refine ⟨small1000 (Nat.le_of_ble_eq_true rfl), fun tt htt => ?_⟩
    have R4 := R3.same (same_new (o := .tup [.ref nl, .ref fo]) htt)
    have hy4 := same_new (o := .tup [.ref nl, .ref fo]) htt _ _ hy3
    have hf4 := same_new (o := .tup [.ref nl, .ref fo]) htt _ _ hf3
    have ht4 : upd H3 tt (.tup [.ref nl, .ref fo]) tt = some (.tup [.ref nl, .ref fo]) := upd_same
    generalize upd H3 tt (.tup [.ref nl, .ref fo]) = H4 at R4 hy4 hf4 ht4 ⊢
    refine ⟨tt, _, rfl, SqT.of ht4, rfl, _, _, rfl, _, _, rfl, rfl, ?_⟩
    clear R3 hy3 hf3 htt ht4
    refine ⟨_, rfl, nl, _, rfl, SqL.of hy4, ?_⟩
    have ly : ys.length = 8 := pm.length_eq
    have ndy : ys.Nodup := pm.symm.nodup (by decide +kernel)
    refine for_it (walk_enum (xs := ys.map V.str)) (fun i σ Hc => ∃ (x3 x4 x5 : Option V) (kvs : List (Key × V)) (p : Pg), σ = [some (.ref d), some (.ref nl), some (.ref fo), x3, x4, x5, none] ∧ Rl d H2 Hc ∧ Hc fo = some (.dK kvs) ∧ PrgK Hc kvs p ∧ names p = ys.take i ∧ (∀ x ∈ p, GdB ys [] 5 x.2) ∧ (p.map fun x => cnt 5 x.2).sum ≤ 5 * i) ⟨_, _, _, [], [], rfl, R4, hf4, PrgK.nil, rfl, (fun x h => absurd h List.not_mem_nil), Nat.zero_le _⟩ (fun i σ Hc _ p' => ?_) ?_ ?_
    · obtain ⟨_, _, _, _, _, _, Rc, _⟩ := p'
      exact SqL.of (Rc.2 _ _ n1 hy)
    · rintro i v σ Hc H' hi ⟨x3, x4, x5, kvs, p, rfl, Rc, hfc, hk, hnm, hgd, hsz⟩ ⟨T0, u1, u2, rfl, nT, rfl, h1, h2⟩
      have h1 : some (V.int (i : Nat)) = some u1 := h1
      cases h1
      rw [List.length_map, ly] at hi
      have h2 : (ys.map V.str)[i]? = some u2 := h2
      obtain ⟨z, hz, rfl⟩ : ∃ z, ys[i]? = some z ∧ u2 = .str z := by
        rw [List.getElem?_map] at h2
        cases e : ys[i]? with
        | none => rw [e] at h2; cases h2
        | some z => rw [e] at h2; cases h2; exact ⟨z, rfl, rfl⟩
      have zn : z ∉ names p := fun c => by
        rw [hnm] at c
        have := ndy
        rw [← List.take_append_drop i ys] at this
        have dz : z ∈ ys.drop i := by
          rw [List.mem_iff_getElem?]
          exact ⟨0, by rw [List.getElem?_drop]; exact hz⟩
        exact (List.nodup_append.mp this).2.2 z c z dz rfl
      have lk : kvs.length < sizeLine := small1000 (by
        have h1 := hk.1
        have h2 := congrArg List.length hnm
        rw [List.length_map, List.length_take] at h2
        omega)
      have tt1 : upd Hc T0 (.tup [V.int (i : Nat), .str z]) T0 = some (.tup [V.int (i : Nat), .str z]) := upd_same
      refine ⟨T0, _, rfl, SqT.of tt1, rfl, _, _, rfl, _, _, rfl, rfl, ?_⟩
      have R5 := Rc.same (same_new (o := .tup [V.int (i : Nat), .str z]) nT)
      have hf5 := same_new (o := .tup [V.int (i : Nat), .str z]) nT _ _ hfc
      have hk5 : PrgK (upd Hc T0 (.tup [V.int (i : Nat), .str z])) kvs p := hk.keep fun a xs e => same_new nT _ _ e
      generalize upd Hc T0 (.tup [V.int (i : Nat), .str z]) = H5 at R5 hf5 hk5 ⊢
      clear tt1
      refine ⟨_, rfl, d, 3, rfl, R5.1, by decide, by decide, fun r a b c r0 r3 => ?_⟩
      have R6 := R5.roll (a := a) (b := b) (c := c)
      have hf6 : upd H5 d (.lst (dxs a b c)) fo = some (.dK kvs) := (upd_ne n2).trans hf5
      have hk6 : PrgK (upd H5 d (.lst (dxs a b c))) kvs p := ((Rl.refl R5.1).roll.tk R5.1).pg hk5
      generalize upd H5 d (.lst (dxs a b c)) = H6 at R6 hf6 hk6 ⊢
      refine ⟨r, rfl, by omega, by omega, fun D hD => ?_⟩
      have nDd : D ≠ d := by
        obtain ⟨x, y, z, e⟩ := R6.1
        exact fun c => by rw [c, e] at hD; cases hD
      have nDf : fo ≠ D := fun c => by rw [← c, hf6] at hD; cases hD
      refine lc_range (lo := 0) (n := r.toNat) (fun j Hx => Rl d H6 Hx ∧ ∃ (us : List V) (cs : List Str), Hx D = some (.lst us) ∧ AG (fun v s => StAt 4 Hx v s) us (cs.map St.call) ∧ us.length = j ∧ ∀ c ∈ cs, c ∈ ys) ⟨(Rl.refl R6.1).same (same_new hD), [], [], upd_same, AG.nil, rfl, fun c h => absurd h List.not_mem_nil⟩ ?_ ?_
      · rintro j Hx hj ⟨Rx, us, cs, hDx, hus, lus, hcs⟩
        refine ⟨rfl, _, rfl, _, rfl, _, rfl, _, _, rfl, rfl, d, (i : Int) + 1, rfl, Rx.1, by omega, by omega, fun r2 a b c r20 r2n => ?_⟩
        have R7 : Rl d H6 (upd Hx d (.lst (dxs a b c))) := Rx.roll
        have hD7 : upd Hx d (.lst (dxs a b c)) D = some (.lst us) := (upd_ne nDd).trans hDx
        have tk7 : Tk Hx (upd Hx d (.lst (dxs a b c))) := (Rl.refl Rx.1).roll.tk Rx.1
        have hus7 := hus.imp (R' := fun v s => StAt 4 (upd Hx d (.lst (dxs a b c))) v s) fun v s h => stW_imp tk7.1 (bdAt_keep tk7.1 4) h
        generalize upd Hx d (.lst (dxs a b c)) = H7 at R7 hD7 tk7 hus7 ⊢
        obtain ⟨m, rfl⟩ : ∃ m : Nat, r2 = (m : Int) := ⟨r2.toNat, by omega⟩
        have lm : m < ys.length := by omega
        obtain ⟨c0, hc0⟩ : ∃ c0, ys[m]? = some c0 := ⟨ys[m], List.getElem?_eq_getElem lm⟩
        refine ⟨nl, _, (m : Int), .str c0, rfl, rfl, SqL.of ((R6.trans R7).2 _ _ n1 hy), atI_nat (by rw [List.getElem?_map, hc0]; rfl), small1000 (Nat.le_of_ble_eq_true rfl), fun t ht => ?_⟩
        have s8 := same_new (o := .tup [.str "call", .str c0]) ht
        have h8 : upd H7 t (.tup [.str "call", .str c0]) t = some (.tup [.str "call", .str c0]) := upd_same
        have hD8 := s8 _ _ hD7
        have R8 := R7.same s8
        have hus8 := hus7.imp (R' := fun v s => StAt 4 (upd H7 t (.tup [.str "call", .str c0])) v s) fun v s h => stW_imp (fun a xs e => s8 _ _ e) (bdAt_keep (fun a xs e => s8 _ _ e) 4) h
        generalize upd H7 t (.tup [.str "call", .str c0]) = H8 at s8 h8 hD8 R8 hus8 ⊢
        have kp : ∀ a xs, H8 a = some (.tup xs) → upd H8 D (.lst (us ++ [.ref t])) a = some (.tup xs) := fun a xs e => by
          rw [upd_ne (fun c => by rw [c, hD8] at e; cases e)]
          exact e
        refine ⟨us, hD8, small1000 (by omega), ⟨?_, fun q o n e => ?_⟩, us ++ [.ref t], cs ++ [c0], upd_same, ?_, by rw [List.length_append, lus]; rfl, fun c' h => ?_⟩
        · obtain ⟨x, y, z, e⟩ := R8.1
          exact ⟨x, y, z, by rw [upd_ne nDd.symm]; exact e⟩
        · rw [upd_ne (ne_of_none e hD)]
          exact R8.2 q o n e
        · rw [List.map_append]
          exact AG.snoc (hus8.imp fun v s h => stW_imp kp (bdAt_keep kp 4) h) ⟨t, rfl, kp _ _ h8⟩
        · rcases List.mem_append.mp h with h | h
          · exact hcs c' h
          · rw [List.mem_singleton.mp h]; exact List.mem_of_getElem? hc0
      rintro Hx ⟨Rx, us, cs, hDx, hus, lus, hcs⟩
      have lcs : cs.length = r.toNat := by
        have := hus.1
        rw [List.length_map] at this
        omega
      have hfx : Hx fo = some (.dK kvs) := Rx.2 _ _ n2 hf6
      have hkx : PrgK Hx kvs p := (Rx.tk R6.1).pg hk6
      have R4x := R6.trans Rx
      -- what is left of a turn
      have step : ∀ (Hy : Hp) (ws : List V) (bd : Bd) (t : Addr), Rl d H2 Hy → Hy fo = some (.dK kvs) → PrgK Hy kvs p → AG (fun v s => StAt 4 Hy v s) ws bd → GdB ys [] 5 bd → cnt 5 bd ≤ 5 → Hy t = none →
          upd Hy t (.tup ws) fo = some (.dK kvs) ∧ Rl d H2 (upd (upd Hy t (.tup ws)) fo (.dK (putK kvs (.inr z) (.ref t)))) ∧ PrgK (upd (upd Hy t (.tup ws)) fo (.dK (putK kvs (.inr z) (.ref t)))) (putK kvs (.inr z) (.ref t)) (p ++ [(z, bd)]) ∧ names (p ++ [(z, bd)]) = ys.take (i + 1) ∧ (∀ x ∈ p ++ [(z, bd)], GdB ys [] 5 x.2) ∧ ((p ++ [(z, bd)]).map fun x => cnt 5 x.2).sum ≤ 5 * (i + 1) := by
        intro Hy ws bd t Ry hfy hky hws gb c5 ht
        have s9 := same_new (o := .tup ws) ht
        have h9 : upd Hy t (.tup ws) t = some (.tup ws) := upd_same
        have hf9 := s9 _ _ hfy
        have R9 := Ry.same s9
        have hk9 : PrgK (upd Hy t (.tup ws)) kvs p := hky.keep fun a xs e => s9 _ _ e
        have hb9 : BdAt 5 (upd Hy t (.tup ws)) (.ref t) bd := ⟨t, ws, rfl, h9, hws.imp fun v s h => stW_imp (fun a xs e => s9 _ _ e) (bdAt_keep (fun a xs e => s9 _ _ e) 4) h⟩
        generalize upd Hy t (.tup ws) = H9 at s9 h9 hf9 R9 hk9 hb9 ⊢
        have tk : Tk H9 (upd H9 fo (.dK (putK kvs (.inr z) (.ref t)))) := Tk.upd hf9 (fun _ z => by cases z) fun _ _ z => by cases z
        have hk10 := hk9.set (z := z) hb9
        rw [setP_new zn] at hk10
        refine ⟨hf9, ⟨?_, fun q o n e => ?_⟩, tk.pg hk10, ?_, fun x hx => ?_, ?_⟩
        · obtain ⟨x, y, z, e⟩ := R9.1
          exact ⟨x, y, z, by rw [upd_ne n2.symm]; exact e⟩
        · rw [upd_ne (ne_of_none e hfo)]
          exact R9.2 q o n e
        · rw [take_snoc hz, ← hnm]
          show (p ++ [(z, bd)]).map (·.1) = p.map (·.1) ++ [z]
          rw [List.map_append]
          rfl
        · rcases List.mem_append.mp hx with h | h
          · exact hgd x h
          · rw [List.mem_singleton.mp h]; exact gb
        · rw [List.map_append, List.sum_append, List.map_cons, List.map_nil, List.sum_cons, List.sum_nil]
          show (p.map fun x => cnt 5 x.2).sum + (cnt 5 bd + 0) ≤ 5 * (i + 1)
          omega
      refine ⟨_, rfl, d, 4, rfl, Rx.1, by decide, by decide, fun r' a b c r0' r4' => ?_⟩
      have R7 : Rl d H2 (upd Hx d (.lst (dxs a b c))) := R4x.roll
      have tk7 : Tk Hx (upd Hx d (.lst (dxs a b c))) := (Rl.refl Rx.1).roll.tk Rx.1
      have hD7 : upd Hx d (.lst (dxs a b c)) D = some (.lst us) := (upd_ne nDd).trans hDx
      have hf7 : upd Hx d (.lst (dxs a b c)) fo = some (.dK kvs) := (upd_ne n2).trans hfx
      have hk7 := tk7.pg hkx
      have hus7 := hus.imp (R' := fun v s => StAt 4 (upd Hx d (.lst (dxs a b c))) v s) fun v s h => tk7.st h
      generalize upd Hx d (.lst (dxs a b c)) = H7 at R7 tk7 hD7 hf7 hk7 hus7 ⊢
      have gcs : ∀ s ∈ cs.map St.call, GdS ys [] (GdB ys [] 4) s := fun s hs => by
        obtain ⟨c, hc, rfl⟩ := List.mem_map.mp hs
        exact hcs c hc
      have kcs : ((cs.map St.call).map fun s => (s.kids.map (cnt 4)).sum).sum = 0 := by
        rw [List.map_map]
        have : ((fun s : St => (s.kids.map (cnt 4)).sum) ∘ St.call) = fun _ => 0 := by funext c; rfl
        rw [this]
        clear hcs hus lcs gcs hus7
        induction cs with
        | nil => rfl
        | cons _ _ ih => rw [List.map_cons, List.sum_cons, ih]
      have gnil : GdB ys [] 4 [] := ⟨Nat.zero_le _, fun s hs => absurd hs List.not_mem_nil⟩
      refine ⟨rfl, _, rfl, ite2 (fun h0 => ?_) (fun h0 => ?_)⟩
      · refine ⟨_, rfl, .inl ⟨rfl, _, SqL.of hD7⟩, ?_⟩
        refine ⟨Nat.zero_le _, fun e0 he0 => ?_⟩
        have s8 := same_new (o := .tup []) he0
        have h8 : upd H7 e0 (.tup []) e0 = some (.tup []) := upd_same
        generalize upd H7 e0 (.tup []) = H8 at s8 h8 ⊢
        refine ⟨small1000 (Nat.le_of_ble_eq_true rfl), fun p1 hp1 => ?_⟩
        have s9 := s8.trans (same_new (o := .tup [.int 1, .ref e0]) hp1)
        have h9 : upd H8 p1 (.tup [.int 1, .ref e0]) p1 = some (.tup [.int 1, .ref e0]) := upd_same
        have h89 := same_new (o := .tup [.int 1, .ref e0]) hp1 _ _ h8
        generalize upd H8 p1 (.tup [.int 1, .ref e0]) = H9 at s9 h9 h89 ⊢
        have R9 := R7.same s9
        refine ⟨_, rfl, _, rfl, d, nl, _, rfl, R9.1, R9.2 _ _ n1 hy, n1, by rw [List.length_map]; omega, by rw [List.length_map]; omega, fun k x a b c hk' => ?_⟩
        obtain ⟨c0, hc0, rfl⟩ : ∃ c0, ys[k]? = some c0 ∧ x = .str c0 := by
          rw [List.getElem?_map] at hk'
          cases e : ys[k]? with
          | none => rw [e] at hk'; cases hk'
          | some c0 => rw [e] at hk'; cases hk'; exact ⟨c0, rfl, rfl⟩
        have R10 : Rl d H2 (upd H9 d (.lst (dxs a b c))) := R9.roll
        have t10 : Tk H9 (upd H9 d (.lst (dxs a b c))) := (Rl.refl R9.1).roll.tk R9.1
        have hD10 : upd H9 d (.lst (dxs a b c)) D = some (.lst us) := (upd_ne nDd).trans (s9 _ _ hD7)
        have hf10 : upd H9 d (.lst (dxs a b c)) fo = some (.dK kvs) := (upd_ne n2).trans (s9 _ _ hf7)
        have t710 : Tk H7 (upd H9 d (.lst (dxs a b c))) := (Tk.same s9).trans t10
        generalize upd H9 d (.lst (dxs a b c)) = H10 at R10 t10 hD10 hf10 t710 ⊢
        have g9 := t10.1 _ _ h9
        have g8 := t10.1 _ _ h89
        refine ⟨small1000 (Nat.le_of_ble_eq_true rfl), fun c1 hc1 => ?_⟩
        have s11 := same_new (o := .tup [.str "call", .str c0]) hc1
        have h11 : upd H10 c1 (.tup [.str "call", .str c0]) c1 = some (.tup [.str "call", .str c0]) := upd_same
        generalize upd H10 c1 (.tup [.str "call", .str c0]) = H11 at s11 h11 ⊢
        refine ⟨small1000 (Nat.le_of_ble_eq_true rfl), fun e1 he1 => ?_⟩
        have s12 := same_new (o := .tup [.ref c1]) he1
        have h12 : upd H11 e1 (.tup [.ref c1]) e1 = some (.tup [.ref c1]) := upd_same
        have h11 := s12 _ _ h11
        generalize upd H11 e1 (.tup [.ref c1]) = H12 at s12 h12 h11 ⊢
        refine ⟨small1000 (Nat.le_of_ble_eq_true rfl), fun p2 hp2 => ?_⟩
        have s13 := same_new (o := .tup [.int 2, .ref e1]) hp2
        have h13 : upd H12 p2 (.tup [.int 2, .ref e1]) p2 = some (.tup [.int 2, .ref e1]) := upd_same
        have h11 := s13 _ _ h11
        have h12 := s13 _ _ h12
        generalize upd H12 p2 (.tup [.int 2, .ref e1]) = H13 at s13 h13 h12 h11 ⊢
        refine ⟨small1000 (Nat.le_of_ble_eq_true rfl), fun t ht => ?_⟩
        have s14 := same_new (o := .tup [.str "toss", .ref p1, .ref p2]) ht
        have h14 : upd H13 t (.tup [.str "toss", .ref p1, .ref p2]) t = some (.tup [.str "toss", .ref p1, .ref p2]) := upd_same
        have sA := ((s11.trans s12).trans s13).trans s14
        have g9 := sA _ _ g9
        have g8 := sA _ _ g8
        have h11 := s14 _ _ h11
        have h12 := s14 _ _ h12
        have h13 := s14 _ _ h13
        have hD14 := sA _ _ hD10
        have hf14 := sA _ _ hf10
        have R14 := R10.same sA
        have t14 : Tk H7 _ := t710.trans (Tk.same sA)
        generalize upd H13 t (.tup [.str "toss", .ref p1, .ref p2]) = H14 at h14 g9 g8 h11 h12 h13 hD14 hf14 R14 t14 ⊢
        refine ⟨D, us, _, rfl, rfl, hD14, small1000 (by omega), ?_⟩
        have tS : StAt 4 H14 (.ref t) (.toss [(1, []), (2, [.call c0])]) := ⟨t, [.ref p1, .ref p2], rfl, h14, AG.consA ⟨p1, .ref e0, rfl, g9, e0, [], rfl, g8, AG.nil⟩ (AG.consA ⟨p2, .ref e1, rfl, h13, e1, [.ref c1], rfl, h12, AG.consA ⟨c1, rfl, h11⟩ AG.nil⟩ AG.nil)⟩
        have tk15 : Tk H14 (upd H14 D (.lst (us ++ [.ref t]))) := Tk.upd hD14 (fun _ z => by cases z) fun _ _ z => by cases z
        have hus15 : AG (fun v s => StAt 4 (upd H14 D (.lst (us ++ [.ref t]))) v s) (us ++ [.ref t]) (cs.map St.call ++ [.toss [(1, []), (2, [.call c0])]]) := AG.snoc (hus7.imp fun v s h => (t14.trans tk15).st h) (tk15.st tS)
        have R15 : Rl d H2 (upd H14 D (.lst (us ++ [.ref t]))) := by
          refine ⟨?_, fun q o n e => ?_⟩
          · obtain ⟨x, y, z, e⟩ := R14.1
            exact ⟨x, y, z, by rw [upd_ne nDd.symm]; exact e⟩
          · rw [upd_ne (fun c => by rw [c] at e; exact absurd (R6.2 _ _ nDd e) (by rw [hD]; exact fun z => by cases z))]
            exact R14.2 q o n e
        have hf15 : upd H14 D (.lst (us ++ [.ref t])) fo = some (.dK kvs) := (upd_ne nDf).trans hf14
        have hk15 := (t14.trans tk15).pg hk7
        have hD15 : upd H14 D (.lst (us ++ [.ref t])) D = some (.lst (us ++ [.ref t])) := upd_same
        generalize upd H14 D (.lst (us ++ [.ref t])) = H15 at hus15 R15 hf15 hk15 hD15 ⊢
        refine ⟨_, rfl, D, _, rfl, .inl ⟨SqL.of hD15, fun t' ht' => ?_⟩⟩
        have c0y : c0 ∈ ys := List.mem_of_getElem? hc0
        have gT : GdS ys [] (GdB ys [] 4) (.toss [(1, []), (2, [.call c0])]) := by
          refine ⟨⟨Nat.le_refl 2, by show 2 ≤ 4; decide⟩, fun r hr => ?_⟩
          rcases List.mem_cons.mp hr with e | e
          · rw [e]; exact ⟨⟨by decide, by decide⟩, gnil⟩
          · rw [List.mem_singleton.mp e]
            exact ⟨⟨by show (1 : Int) ≤ 2; decide, by show (2 : Int) ≤ 9; decide⟩, by show 1 ≤ 3; decide, fun s hs => by rw [List.mem_singleton.mp hs]; exact c0y⟩
        obtain ⟨a1, a2, a3, a4, a5, a6⟩ := step H15 _ _ t' R15 hf15 hk15 hus15 ⟨by rw [List.length_append, List.length_map]; show cs.length + 1 ≤ 3; omega, fun s hs => by
          rcases List.mem_append.mp hs with h | h
          · exact gcs s h
          · rw [List.mem_singleton.mp h]; exact gT⟩ (by
          show (cs.map St.call ++ [St.toss [(1, []), (2, [St.call c0])]]).length + ((cs.map St.call ++ [St.toss [(1, []), (2, [St.call c0])]]).map fun s => (s.kids.map (cnt 4)).sum).sum ≤ 5
          rw [List.map_append, List.sum_append, kcs, List.length_append, List.length_map]
          have : ([St.toss [(1, []), (2, [.call c0])]].map fun s => (s.kids.map (cnt 4)).sum).sum = 1 := rfl
          rw [this]
          show cs.length + 1 + (0 + 1) ≤ 5
          omega) ht'
        exact ⟨_, rfl, _, rfl, fo, _, rfl, DPut.k (k := .inr z) a1 lk, _, _, _, _, _, rfl, a2, upd_same, a3, a4, a5, a6⟩
      · refine ⟨_, rfl, D, us, rfl, .inl ⟨SqL.of hD7, fun t ht => ?_⟩⟩
        obtain ⟨a1, a2, a3, a4, a5, a6⟩ := step H7 us (cs.map St.call) t R7 hf7 hk7 hus7 ⟨by rw [List.length_map]; omega, gcs⟩ (by show (cs.map St.call).length + _ ≤ 5; rw [kcs, List.length_map]; omega) ht
        exact ⟨_, rfl, _, rfl, fo, _, rfl, DPut.k (k := .inr z) a1 lk, _, _, _, _, _, rfl, a2, upd_same, a3, a4, a5, a6⟩
    · rintro σ Hc ⟨x3, x4, x5, kvs, p, rfl, Rc, hfc, hk, hnm, hgd, hsz⟩
      rw [List.length_map, List.take_length] at hnm
      rw [List.length_map, ly] at hsz
      exact ⟨_, rfl, q fo kvs p Hc hfo0 (R12.trans Rc) hfc hk (chain_prg pm hnm hgd (by omega)) (by rw [hnm]; exact ndy)⟩
end
end FR
set_option Elab.async false
set_option linter.all false
set_option maxRecDepth 100000
set_option maxHeartbeats 1000000
/-! name = {k: v for ..} -/
namespace L2
open PySem PySem.Spec PyProof.Rows
section
variable {X : Cx}
/-- name = {k: v for ..} on one line, the name a local -/
theorem ps_setDc {i : Nat} {y : Str} {py : Pos} {kx vx tg iter : Expr} {ifs : List Expr} {scope : Scope} {own : List (Str × Nat)} {pos spos : Pos} {wi : TI} {g : TG} {tt : TT} {tk tv : TE} (hc : X.calm = true) (hN : X.N.Nodup) (hy : X.N[i]? = some y) (hyl : X.env.scope.names.lookup y = some .local)
    (hsw : swapsWith (.DictComp kx vx [⟨tg, iter, ifs, 0⟩] scope pos) (some (.Name y py)) spos.line X.env = pure true) (hi : PI X tg iter wi) (ok : BlkOk X.N X.env.scope scope own)
    (hg : ∀ (s : Shared) (H : Hp) (C : Addr) (cl : List (Str × Addr)) (fp : List Addr), PG (X.blk s H scope (compEnvC scope cl C X.env) fp) tg g) (ht : ∀ (s : Shared) (H : Hp) (C : Addr) (cl : List (Str × Addr)) (fp : List Addr), PTs (X.blk s H scope (compEnvC scope cl C X.env) fp) ifs tt)
    (hk : ∀ (s : Shared) (H : Hp) (C : Addr) (cl : List (Str × Addr)) (fp : List Addr), PE (X.blk s H scope (compEnvC scope cl C X.env) fp) kx tk)
    (he : ∀ (s : Shared) (H : Hp) (C : Addr) (cl : List (Str × Addr)) (fp : List Addr), PE (X.blk s H scope (compEnvC scope cl C X.env) fp) vx tv) (hs : ∀ x, foldedSetIterable iter X.env x = pure x := by intro _; rfl) :
    PS X (.Assign [.Name y py] (.DictComp kx vx [⟨tg, iter, ifs, 0⟩] scope pos) spos) (tAsg (tDc wi g tt tk tv (own.map (·.2))) (gName i)) := ⟨fun pins s σ H D I h => by
  have want : tDc wi g tt tk tv (own.map (·.2)) σ H (fun x H1 => gName i x σ H1 D.nx) := h
  rw [exec_Assign_Name_used _ _ _ _ hsw]
  refine wpAny_bind (wpAny_standAt (wpAny_bind ?_))
  show wpAny _ X.A (do let _ ← comprehension (.DictComp kx vx [⟨tg, iter, ifs, 0⟩] scope pos) scope X.env (firstIterPos [⟨tg, iter, ifs, 0⟩] pos) newDict false (eval iter X.env) (some (assign (.Name y py) X.env))) _ _ s
  refine wpAny_bind (thn (dc_core (Qf := fun _ s' => SP X pins D .next s') hc hN I hi ok hg ht hk he hs want fun L C s' m H' J q hn fp => ?_) fun _ s' done => wpAny_pure (wpAny_pure done))
  show wpAny _ _ (assign (.Name y py) X.env (.ref L)) _ _ _
  refine wpAny_assign_Name (store_ok2 (v := V.ref L) J hN hy (.inl hyl) rfl (fun s2 J2 ⟨a, sb, ha⟩ => ?_) (.inr hyl))
  obtain ⟨p0, p1, _, p3, p4, p5⟩ := fp
  have ne : C ≠ a := ha.elim (fun z => by rw [z]; exact p1) fun z e => p4 y a z e.symm
  exact ⟨m, hn.sameBut sb ne, fun h3 sb3 => ⟨_, H', J2.turned (t' := s2.toks) (fun b o hb e => (sb3.2 b hb).trans e) p0 p1 p3 p4 p5, q⟩⟩⟩
theorem sw_trueD {kx vx : Expr} {gs : List Comprehension} {scope : Scope} {pos py : Pos} {y : Str} {l : Nat} {env : Env} (hk : env.scope.kind = .function) (hy : env.scope.names.lookup y = some .local) (hl : (py.line == pos.line) = true)
    (ha : (scope.names.any fun (n, k) => n == y && (k == .local || k == .cell)) = false) : swapsWith (.DictComp kx vx gs scope pos) (some (.Name y py)) l env = pure true := by
  have kind : env.kindOf y = some .local := hy
  have block : env.blockKind = .function := by
    unfold Env.blockKind
    rw [hk]
    rfl
  unfold swapsWith
  simp only [block, kind, ha, Expr.pos, hl]
  rfl
end
end L2
set_option Elab.async false
set_option pp.maxSteps 1500
set_option linter.all false
set_option maxRecDepth 100000
set_option maxHeartbeats 1000000
/-! without -/
namespace FR
open PySem PySem.Spec PyProof.Rows L2
abbrev sWtt : Stmt := inClass (FR.top 33) 8
abbrev NWtt : List Str := ["self", "name", "rest", "other", "body"]
theorem scWtt : FnScope NWtt ["self", "name"] (defScope sWtt) := ⟨rfl, rfl, rfl, by decide +kernel, rfl, by decide +kernel, by decide +kernel⟩
section
variable {P : Program} {w : World} {K : PySem.W.Frag} {mg : Str → Option Value} {base : Heap}
/-- what is wished of a new program -/
def NewQ (K : PySem.W.Frag) (C : Addr) (H : Hp) (p : Pg) (Q : VK) : Prop := ∀ q y H', q.Perm p → sortedS (names q) = true → H y = none → Same H H' → IsPg K C H' y q → Q (.ref y) H'
theorem NewQ.back {C : Addr} {H H1 : Hp} {p : Pg} {Q : VK} (h : NewQ K C H p Q) (s : Same H H1) : NewQ K C H1 p Q := fun q y H' a b c d e => h q y H' a b (none_of_same s c) (s.trans d) e
structure TxtX (mg : Str → Option Value) : Prop where
  len : mg "len" = none
  any : mg "any" = none
/-- the procedures but one -/
def lessP (p : Pg) (z : Str) : Pg := p.filter fun y => !decide (y.1 = z)
def spWtt (K : PySem.W.Frag) (C : Addr) : Sp := fun vs H Q _ => ∃ x z p, vs = [.ref x, .str z] ∧ IsPg K C H x p ∧ (names p).Nodup ∧ z ∈ names p ∧ Prg p ∧ Prg (lessP p z) ∧ (∀ y ∈ lessP p z, z ∉ callsOf y.2) ∧ NewQ K C H (lessP p z) Q
theorem less_names (p : Pg) (z : Str) : names (lessP p z) = (names p).filter fun y => !decide (y = z) := by
  unfold lessP names
  rw [List.filter_map]
  rfl
theorem rep_any {n : Nat} : (List.replicate n false).any id = false := by
  induction n with
  | zero => rfl
  | succ n ih => rw [List.replicate_succ, List.any_cons, ih]; rfl
theorem rep_blF {n : Nat} : ((List.replicate n false).map V.bl) ++ [V.bl false] = (List.replicate (n + 1) false).map V.bl := by
  rw [List.replicate_succ', List.map_append]
  rfl
theorem ok_wtt {f C : Addr} {fd : FuncData} (F : Fun K "without" "Program.without" sWtt f fd) (R : PgC K C) (T : TxtX mg) (mC : mg "Program" = some (.ref C)) (gCn : Glo P w K mg base "check_name" 2 ["free", "name"] (spCn K C)) (gNc : Glo P w K mg base "_names_called" 8 ["body"] (spNc K)) (gO : OfG P w K mg base C) : FnOk P w K mg base CX0 16 f fd ["self", "name"] (spWtt K C) := by
  refine F.ok scWtt (fun vs H Q E h => ?_) (fun cdv A outer s H vs Q E hr h => ?_)
  · obtain ⟨x, z, p, rfl, _⟩ := h
    rfl
  · obtain ⟨x, z, p, rfl, hi, hn, hz, hp, prg, nc, q⟩ := h
    refine ⟨_, (pss_cons (ps_expr (pe_call gCn.G (hr.mono (by decide)) (by rfl) gCn.m gCn.k gCn.b .nil pass0 (pa_cons (pv 0) (pa_cons (pv 1) pa_nil))))
      (pss_cons (ps_lock (ps_setDc (i := 2) (X := (cxOf CX0 P w K mg base NWtt "Program.without" (defScope sWtt) f cdv A outer s H E).nox) (own := [("other", 3), ("body", 4)]) (g := (gTup K 2 (gCons (gName 3) (gCons (gName 4) gNil)))) rfl scWtt.nd rfl rfl (sw_trueD rfl rfl rfl (by decide +kernel)) (pi_items (pe_fld (pv 0) rfl)) (blkOk_by (N := NWtt) (sc := defScope sWtt) (by decide +kernel)) (fun _ _ _ _ _ => (pg_tupK (K := K) rfl rfl (pgs_cons (pg_name (i := 3) scWtt.nd rfl (.inl rfl)) (pgs_cons (pg_name (i := 4) scWtt.nd rfl (.inl rfl)) pgs_nil)))) (fun _ _ _ _ _ => (pts_one (pt_cmpR op_ne (pv 3) (pv 1) (nomark _)))) (fun _ _ _ _ _ => (pv 3)) (fun _ _ _ _ _ => (pv 4))))
      (pss_cons (ps_if (pt_cmpR op_eq (pe_callB call_lenD (by rfl) T.len PySem.boot_len (pa_cons (pv 2) pa_nil)) pe_int (nomark _)) pss_never pss_nil)
      (pss_cons (ps_if (pt_val (pe_callB (cr_any rfl) (by rfl) T.any (by decide +kernel) (pa_cons (pe_lock (pe_lc (X := (cxOf CX0 P w K mg base NWtt "Program.without" (defScope sWtt) f cdv A outer s H E).nox) (own := [("body", 4)]) (g := (gName 4)) (tt := tYes) rfl scWtt.nd (pi_values (pv 2)) (blkOk_by (N := NWtt) (sc := defScope sWtt) (by decide +kernel)) (fun _ _ _ _ _ => (pg_name (i := 4) scWtt.nd rfl (.inl rfl))) (fun _ _ _ _ _ => pts_nil) (fun _ _ _ _ _ => (pe_cmpR (op_in_seqK (K := K) rfl) (pv 1) (pe_call gNc.G (hr.mono (by decide)) (by rfl) gNc.m gNc.k gNc.b .nil pass0 (pa_cons (pv 4) pa_nil)) rfl)))) pa_nil))) pss_never pss_nil)
      (pss_one (ps_ret (pe_smeth (pe_glob (v := .ref C) (by rfl) mC rfl) gO.rC gO.sO gO.G (hr.mono (by decide)) gO.b .nil pass0 (pa_cons (pv 2) pa_nil)))))))), ?_⟩
    have hi0 := hi
    obtain ⟨dx, d, e, c, kvs, es, cs, hx, hd, hk, _⟩ := hi0
    refine ⟨_, rfl, _, rfl, x, z, p, rfl, hi, hz, ?_⟩
    refine ⟨d, _, hd, trivial, fun od => ?_⟩
    have hk1 := hk.keep (lock_tup (x := .frz od (.dK kvs)) hd)
    have hdl : upd H d (.frz od (.dK kvs)) d = some (.frz od (.dK kvs)) := upd_same
    have hx1 : upd H d (.frz od (.dK kvs)) x = some (.ins C dx [("_bodies", .ref d), ("_size", .int ((allP p).length : Nat)), ("_events", .ref e), ("_choices", .ref c)]) := by
      rw [upd_ne (fun z => by rw [z, hd] at hx; cases hx)]
      exact hx
    have back : ∀ H', Same (upd H d (.frz od (.dK kvs))) H' → Same H (upd H' d (.dK kvs)) := fun H' s => same_lock hd s
    generalize upd H d (.frz od (.dK kvs)) = H1 at hk1 hdl hx1 back ⊢
    refine ⟨_, rfl, x, C, dx, _, _, rfl, hx1, R.cl, R.nb, rfl, d, od, kvs, rfl, hdl, fun D hD => ?_⟩
    have lk : kvs.length = p.length := hk1.1
    refine walk_core walk_items (fun i Hc => Same H1 Hc ∧ ∃ kv2, Hc D = some (.dK kv2) ∧ PrgK Hc kv2 ((p.take i).filter fun y => !decide (y.1 = z))) ⟨same_new hD, [], upd_same, PrgK.nil⟩ (fun i Hc _ p => p.1 _ _ hdl) ?_ ?_
    · rintro i x0 Hc H' hi' ⟨sm, kv2, hDc, hkc⟩ ⟨T1, x1, y1, rfl, hT1, rfl, hx1', hy1⟩
      obtain ⟨zn, v, b, hkv, hpi, hb⟩ := hk1.at hi'
      have hx1' : (kvs[i]?.map fun kv => kV kv.1) = some x1 := hx1'
      have hy1 : (kvs[i]?.map Prod.snd) = some y1 := hy1
      rw [hkv] at hx1' hy1
      have ex : V.str zn = x1 := Option.some.inj hx1'
      have ey : v = y1 := Option.some.inj hy1
      subst ex ey
      have sT := same_new (o := .tup [V.str zn, v]) hT1
      have hDt := sT _ _ hDc
      have hkt := (Tk.same sT).pg hkc
      have sm2 := sm.trans sT
      have h1 : upd Hc T1 (.tup [V.str zn, v]) T1 = some (.tup [V.str zn, v]) := upd_same
      generalize upd Hc T1 (.tup [V.str zn, v]) = H6 at hDt hkt sm2 h1 ⊢
      refine ⟨T1, _, rfl, SqT.of h1, rfl, _, _, rfl, _, _, rfl, rfl, rfl, ?_⟩
      refine ⟨_, rfl, _, rfl, rfl, _, rfl, ?_⟩
      show if (!decide (V.str zn = V.str z)) = true then _ else _
      rw [dec_str]
      rw [take_snoc hpi, List.filter_append]
      by_cases cz : zn = z
      · rw [decide_eq_true cz]
        have e0 : ([(zn, b)] : Pg).filter (fun y => !decide (y.1 = z)) = [] := by
          rw [List.filter_cons_of_neg (by simp [cz])]
          rfl
        rw [e0, List.append_nil]
        exact iteF ⟨sm2, kv2, hDt, hkt⟩
      · rw [decide_eq_false cz]
        have e0 : ([(zn, b)] : Pg).filter (fun y => !decide (y.1 = z)) = [(zn, b)] := by
          rw [List.filter_cons_of_pos (by simp [cz])]
          rfl
        rw [e0]
        have lt : kv2.length ≤ 8 := by
          rw [hkc.1]
          have := List.length_filter_le (fun y : Str × Bd => !decide (y.1 = z)) (p.take i)
          have l2 : (p.take i).length ≤ p.length := by rw [List.length_take]; omega
          have := hp.len
          omega
        have hnew : valV kv2 (Sum.inr zn) = none := hkt.none fun hm => by
          obtain ⟨y, hy, e⟩ := List.mem_map.mp hm
          have hy := (List.mem_filter.mp hy).1
          obtain ⟨j, hj, ej⟩ := List.getElem_of_mem hy
          rw [List.length_take] at hj
          rw [List.getElem_take] at ej
          have il := (List.getElem?_eq_some_iff.mp hpi).1
          have e3 : (names p)[j]'(by rw [names, List.length_map]; omega) = (names p)[i]'(by rw [names, List.length_map]; exact il) := by
            have e5 : p[i] = (zn, b) := (List.getElem?_eq_some_iff.mp hpi).2
            simp only [names, List.getElem_map]
            rw [ej, e5]
            exact e
          have := (List.pairwise_iff_getElem.mp hn) j i (by rw [names, List.length_map]; omega) (by rw [names, List.length_map]; exact il) (by omega)
          exact this e3
        refine iteT ⟨_, rfl, _, rfl, kv2, .inr zn, rfl, hDt, small1000 (by omega), same_upd hD sm2, _, upd_same, ?_⟩
        rw [putK_new _ hnew]
        have kt : Tk H6 (upd H6 D (.dK (kv2 ++ [(Sum.inr zn, v)]))) := Tk.upd hDt (fun _ z => by cases z) (fun _ _ z => by cases z)
        exact PrgK.snoc (kt.pg hkt) (kt.bd (hb.same sm2))
    · rintro Hc ⟨sm, kv2, hDc, hkc⟩
      rw [lk, List.take_length] at hkc
      refine ⟨sm _ _ hdl, ?_⟩
      have sb := back Hc sm
      have tkb : Tk Hc (upd Hc d (.dK kvs)) := Tk.upd (sm _ _ hdl) (fun _ z => by cases z) fun _ _ z => by cases z
      have hDb : upd Hc d (.dK kvs) D = some (.dK kv2) := by
        rw [upd_ne (fun z => by rw [z, hdl] at hD; cases hD)]
        exact hDc
      have hkb := tkb.pg hkc
      generalize upd Hc d (.dK kvs) = Hb at sb hDb hkb ⊢
      have lr : kv2.length = (lessP p z).length := hkb.1
      have r1 := prg.len
      refine ⟨_, rfl, D, kv2, rfl, hDb, rfl, _, rfl, ?_⟩
      refine ite2 (fun z0 => absurd (V.int.inj (of_decide_eq_true z0)) (by omega)) (fun _ => ?_)
      -- who calls it
      refine ⟨D, _, hDb, trivial, fun od2 => ?_⟩
      have hk2 := hkb.keep (lock_tup (x := .frz od2 (.dK kv2)) hDb)
      have hdl2 : upd Hb D (.frz od2 (.dK kv2)) D = some (.frz od2 (.dK kv2)) := upd_same
      have back2 : ∀ H', Same (upd Hb D (.frz od2 (.dK kv2))) H' → Same Hb (upd H' D (.dK kv2)) := fun H' s => same_lock hDb s
      generalize upd Hb D (.frz od2 (.dK kv2)) = H2 at hk2 hdl2 back2 ⊢
      refine ⟨_, rfl, D, od2, kv2, rfl, hdl2, fun D2 hD2 => ?_⟩
      refine lc_it walk_values (fun i Hc => Same H2 Hc ∧ Hc D2 = some (.lst ((List.replicate i false).map V.bl))) ⟨same_new hD2, upd_same⟩ (fun i Hc _ p => p.1 _ _ hdl2) ?_ ?_
      · rintro i x0 Hc2 H' hi' ⟨sm2, hDc2⟩ ⟨rfl, k0, hkv⟩
        obtain ⟨zn, b, rfl, hpi, hb⟩ := hk2.2 i _ _ hkv
        have hmem : (zn, b) ∈ lessP p z := List.mem_of_getElem? hpi
        obtain ⟨nb, ob, cb, fb⟩ := prg.ok _ hmem
        have l60 : (placed 5 b []).length ≤ 60 := Nat.le_trans (len_mem_sum (f := fun x : Str × Bd => (placed 5 x.2 []).length) hmem) prg.sz
        have no := nc _ hmem
        refine ⟨rfl, _, rfl, _, rfl, x0, b, rfl, hb.same sm2, fb, Nat.le_trans l60 (by decide), fun l H4 s4 hl => ?_⟩
        refine ⟨l, _, rfl, .inl (SqL.of hl), rfl, flat_strs, ?_⟩
        have ei : inV (.str z) ((callsOf b).map V.str) = false := by rw [inV_strs]; exact decide_eq_false no
        have hD4 := s4 _ _ hDc2
        refine ⟨_, hD4, small1000 (by rw [List.length_map, List.length_replicate]; omega), same_upd hD2 (sm2.trans s4), ?_⟩
        rw [← rep_blF]
        show upd H4 D2 (.lst ((List.replicate i false).map V.bl ++ [V.bl (inV (.str z) ((callsOf b).map V.str))])) D2 = _
        rw [ei]
        exact upd_same
      · rintro Hc2 ⟨sm2, hDc2⟩
        refine ⟨sm2 _ _ hdl2, ?_⟩
        have sb2 := back2 Hc2 sm2
        have hDb2 : upd Hc2 D (.dK kv2) D2 = some (.lst ((List.replicate kv2.length false).map V.bl)) := by
          rw [upd_ne (fun z => by rw [z, hdl2] at hD2; cases hD2)]
          exact hDc2
        generalize upd Hc2 D (.dK kv2) = Hf at sb2 hDb2 ⊢
        refine ⟨D2, _, rfl, SqL.of hDb2, _, rfl, ?_⟩
        rw [rep_any]
        refine iteF ?_
        have sf := sb.trans sb2
        refine ⟨rfl, _, rfl, D, kv2, lessP p z, rfl, sb2 _ _ hDb, (Tk.same sb2).pg hkb, prg, ?_, fun q' y H' a b c' d' e' _ => q q' y H' a b (none_of_same sf c') (sf.trans d') e'⟩
        rw [less_names]
        exact hn.filter _
end
end FR
set_option Elab.async false
set_option linter.all false
set_option maxRecDepth 100000
set_option maxHeartbeats 1000000
/-! {**d, **e} -/
namespace L2
open PySem PySem.Spec PyProof.Rows
def tDTwo (te tf : TE) : TE := fun σ H Q => ∀ p, H p = none → te σ (upd H p (.dK [])) fun x H1 => ∃ a kvs, x = .ref a ∧ a ≠ p ∧ H1 a = some (.dK kvs) ∧ H1 p = some (.dK []) ∧ kvs.length ≤ sizeLine ∧
  tf σ (upd H1 p (.dK kvs)) fun y H2 => ∃ b more, y = .ref b ∧ b ≠ p ∧ H2 b = some (.dK more) ∧ H2 p = some (.dK kvs) ∧ kvs.length + more.length ≤ sizeLine ∧ Q (.ref p) (upd H2 p (.dK (mergeK kvs more)))
section
variable {X : Cx}
theorem two_shape {env : Env} {e f : Expr} {pos : Pos} : (evalEachOpt [none, none] env).zip ((evalEach [e, f] env).map fun v => do let x ← v; standAt pos; pure x) = [(none, do let x ← eval e env; standAt pos; pure x), (none, do let x ← eval f env; standAt pos; pure x)] := by
  rfl
theorem pe_dtwo {e f : Expr} {te tf : TE} {pos : Pos} (he : PE X e te) (hf : PE X f tf) : PE X (.Dict [none, none] [e, f] pos) (tDTwo te tf) := by
  refine ⟨fun pins s σ H Q I h => ?_⟩
  rw [arm_eval_Dict, two_shape]
  refine wpAny_bind (wpAny_standAt ?_)
  unfold dictDisplay
  simp only [List.forIn_cons, List.forIn_nil, pure_bind, bind_assoc, List.isEmpty_nil, List.isEmpty_cons, if_true, Bool.false_eq_true, if_false, List.nil_append, List.length_singleton]
  refine wpAny_bind (wpAny_alloc ?_)
  have hn := I.hok.fresh (Nat.le_refl s.heap.objs.size)
  have I1 : Inv X pins σ (upd H s.heap.objs.size (.dK [])) { s with heap := s.heap.push { cls := .type "dict", data := .dict #[] } } := I.laid (t' := s.toks) (fun _ _ q => Heap.get?_push_of_some _ q) (Nat.le_refl _) (dk_empty s.heap I.big)
  generalize s.heap.objs.size = p at hn I1 ⊢
  generalize ({ s with heap := s.heap.push { cls := .type "dict", data := .dict #[] } } : Shared) = s1 at I1 ⊢
  have h1 := h p hn
  refine wpAny_bind (wpAny_holding (wpAny_bind (thn (he.run pins s1 σ _ _ I1 h1) fun u s2 ⟨x, H1, I2, rx, a, kvs, ex, nap, ha, hp, few, q⟩ => ?_)))
  subst ex
  obtain rfl : u = Value.ref a := rx
  refine wpAny_bind (wpAny_standAt (wpAny_pure ?_))
  obtain ⟨_, oa, va, ra, da⟩ := dk_of I2.hok ha
  obtain ⟨_, op, vp, rp, dp⟩ := dk_of I2.hok hp
  have evp : vp = [] := by cases rp; rfl
  subst evp
  obtain ⟨_, _, _, _, _, _, _, _, ndA⟩ := id da
  refine wpAny_bind (wpAny_onRaise (wpAny_tryCatch (wpAny_onRaise (wpAny_holding (MM.merge (Ne.symm nap) oa dp da (by rw [← ra.length]; show 0 + kvs.length ≤ _; omega) fun h' dp' sb => ?_)))))
  rw [merged_nil_of_nodup _ ndA] at dp'
  have I3 : Inv X pins σ (upd H1 p (.dK kvs)) { s2 with heap := h' } := d_write (t' := s2.toks) I2 (by rw [hp]; exact True.intro) sb (by obtain ⟨o, _, _, z, _⟩ := dp'; exact ⟨o, z⟩) (dk_new (by omega) op ra dp')
  generalize ({ s2 with heap := h' } : Shared) = s3 at I3 ⊢
  refine wpAny_bind (wpAny_holding (wpAny_bind (thn (hf.run pins s3 σ _ _ I3 q) fun u2 s4 ⟨y, H2, I4, ry, b, more, ey, nbp, hb, hp2, few2, q2⟩ => ?_)))
  subst ey
  obtain rfl : u2 = Value.ref b := ry
  refine wpAny_bind (wpAny_standAt (wpAny_pure ?_))
  obtain ⟨_, ob, vb, rb, db⟩ := dk_of I4.hok hb
  obtain ⟨_, op2, vp2, rp2, dp2⟩ := dk_of I4.hok hp2
  refine wpAny_bind (wpAny_onRaise (wpAny_tryCatch (wpAny_onRaise (wpAny_holding (MM.merge (Ne.symm nbp) ob dp2 db (by rw [← rb.length, ← rp2.length]; exact few2) fun h8 d8 sb8 => wpAny_pure ?_)))))
  have ln : (mergeK kvs more).length ≤ sizeLine := by
    have : ∀ (more kvs : List (Key × V)), (mergeK kvs more).length ≤ kvs.length + more.length := fun more => by
      induction more with
      | nil => exact fun _ => Nat.le_refl _
      | cons m more ih =>
        intro kvs
        have h1 := ih (putK kvs m.1 m.2)
        have h2 := length_putK kvs m.1 m.2
        show (mergeK (putK kvs m.1 m.2) more).length ≤ kvs.length + (more.length + 1)
        omega
    exact Nat.le_trans (this more kvs) few2
  exact ⟨.ref p, _, d_write (t' := s4.toks) I4 (by rw [hp2]; exact True.intro) sb8 (by obtain ⟨o, _, _, z, _⟩ := d8; exact ⟨o, z⟩) (dk_new ln op2 (KV.merge rb rp2) d8), rfl, q2⟩
end
end L2
set_option Elab.async false
set_option linter.all false
set_option maxRecDepth 100000
set_option maxHeartbeats 1000000
/-! put_at at a body, program | program -/
namespace FR
open PySem PySem.Spec PyProof.Rows L2
abbrev sPw : Stmt := FR.top 15
abbrev NPw : List Str := ["body", "path", "part", "is_in_body", "number", "parts"]
theorem scPw : FnScope NPw ["body", "path"] (defScope sPw) := ⟨rfl, rfl, rfl, by decide +kernel, rfl, by decide +kernel, by decide +kernel⟩
abbrev sWp : Stmt := FR.top 16
abbrev NWp : List Str := ["body", "path", "part", "at", "inner", "bodies", "changed", "statement"]
theorem scWp : FnScope NWp ["body", "path", "part"] (defScope sWp) := ⟨rfl, rfl, rfl, by decide +kernel, rfl, by decide +kernel, by decide +kernel⟩
abbrev sPf : Stmt := FR.top 36
abbrev NPf : List Str := ["free", "place", "name", "path", "part"]
theorem scPf : FnScope NPf ["free", "place"] (defScope sPf) := ⟨rfl, rfl, rfl, by decide +kernel, rfl, by decide +kernel, by decide +kernel⟩
abbrev sPu : Stmt := FR.top 37
abbrev NPu : List Str := ["free", "place", "part", "name", "path"]
theorem scPu : FnScope NPu ["free", "place", "part"] (defScope sPu) := ⟨rfl, rfl, rfl, by decide +kernel, rfl, by decide +kernel, by decide +kernel⟩
abbrev sOro : Stmt := inClass (FR.top 33) 10
abbrev NOro : List Str := ["self", "other", "name"]
theorem scOro : FnScope NOro ["self", "other"] (defScope sOro) := ⟨rfl, rfl, rfl, by decide +kernel, rfl, by decide +kernel, by decide +kernel⟩
theorem op_inOwnK {X : Cx} {K : PySem.W.Frag} {CX : CXT} {k : Nat} {f C : Addr} {fd : FuncData} {ps : List Str} {sp : Sp} {E : XK} (hK : X.K = K) (D : Dun K C "__contains__" f) (F : FnOk X.prog X.w K X.mg X.base CX k f fd ps sp) (hr : Room k X.A) (hb : Binds K fd ps []) (hx : Passes CX X E) : OpR X (compareOp .In) (rInOwn C sp E) := by
  subst hK
  exact op_inOwn D F hr hb hx
theorem PrgK.uncons {H : Hp} {k : Key} {v : V} {ls : List (Key × V)} {y : Str × Bd} {r : Pg} (h : PrgK H ((k, v) :: ls) (y :: r)) : k = .inr y.1 ∧ BdAt 5 H v y.2 ∧ PrgK H ls r := by
  obtain ⟨z, b, e1, e2, e3⟩ := h.2 0 k v rfl
  have e2 : y = (z, b) := Option.some.inj e2
  rw [e2]
  exact ⟨e1, e3, by have := h.1; simpa using this, fun i k' v' e => h.2 (i + 1) k' v' e⟩
theorem merge_prg {H : Hp} : ∀ {ls : List (Key × V)} {r : Pg} {kvs : List (Key × V)} {p : Pg}, PrgK H kvs p → PrgK H ls r → (names (p ++ r)).Nodup → PrgK H (mergeK kvs ls) (p ++ r)
  | [], [], kvs, p, hk, _, _ => by rw [List.append_nil]; exact hk
  | [], y :: r, _, _, _, h, _ => by have := h.1; simp at this
  | (k, v) :: ls, [], _, _, _, h, _ => by have := h.1; simp at this
  | (k, v) :: ls, y :: r, kvs, p, hk, h, hn => by
    obtain ⟨e, hb, ht⟩ := h.uncons
    subst e
    have zn : y.1 ∉ names p := fun c => by
      have h := hn
      rw [names, List.map_append] at h
      exact (List.nodup_append.mp h).2.2 y.1 c y.1 List.mem_cons_self rfl
    have h2 := hk.set (z := y.1) hb
    rw [setP_new zn] at h2
    have e3 : p ++ y :: r = (p ++ [(y.1, y.2)]) ++ r := by simp
    rw [e3] at hn ⊢
    show PrgK H (mergeK (putK kvs (.inr y.1) v) ls) _
    exact merge_prg h2 ht hn
structure TxtG (mg : Str → Option Value) : Prop where
  isi : mg "isinstance" = none
  tup : mg "tuple" = none
  len : mg "len" = none
section
variable {P : Program} {w : World} {K : PySem.W.Frag} {mg : Str → Option Value} {base : Heap}
def spPw : Sp := fun vs H Q _ => ∃ v pa, vs = [v, .ref pa] ∧ H pa = some (.tup []) ∧ Q v H
theorem ok_pw {f : Addr} {fd : FuncData} (F : Fun K "part_within" "part_within" sPw f fd) : FnOk P w K mg base CX0 1 f fd ["body", "path"] spPw := by
  refine F.ok scPw (fun vs H Q E h => ?_) (fun cdv A outer s H vs Q E hr h => ?_)
  · obtain ⟨v, pa, rfl, _⟩ := h
    rfl
  · obtain ⟨v, pa, rfl, ha, q⟩ := h
    refine ⟨_, (pss_cons (ps_set (i := 2) scPw.nd rfl (Or.inl rfl) (pv 0))
      (pss_cons (ps_set (i := 3) scPw.nd rfl (Or.inl rfl) pe_bl)
      (pss_cons (ps_for PassesOwn.never rfl (pi_tup (pv 1)) (pg_name (i := 4) scPw.nd rfl (.inl rfl)) pss_never)
      (pss_one (ps_ret (pv 2)))))), ?_⟩
    refine ⟨_, rfl, _, rfl, pa, rfl, ⟨_, SqT.of ha⟩, ?_⟩
    refine for_it (walk_tup (xs := [])) (fun i σ Hc => σ = [some v, some (.ref pa), some v, some (.bl true), none, none] ∧ Hc = H) ⟨rfl, rfl⟩ (fun i σ Hc _ p => by rw [p.2]; exact SqT.of ha) ?_ ?_
    · rintro i v0 σ Hc H' hi _ _
      exact absurd hi (Nat.not_lt_zero _)
    · rintro σ Hc ⟨rfl, rfl⟩
      exact ⟨_, rfl, q⟩
def spWp : Sp := fun vs H Q _ => ∃ v pa u, vs = [v, .ref pa, u] ∧ H pa = some (.tup []) ∧ Q u H
theorem ok_wp {f : Addr} {fd : FuncData} (F : Fun K "with_part" "with_part" sWp f fd) (ml : mg "len" = none) : FnOk P w K mg base CX0 1 f fd ["body", "path", "part"] spWp := by
  refine F.ok scWp (fun vs H Q E h => ?_) (fun cdv A outer s H vs Q E hr h => ?_)
  · obtain ⟨v, pa, u, rfl, _⟩ := h
    rfl
  · obtain ⟨v, pa, u, rfl, ha, q⟩ := h
    refine ⟨_, (pss_cons (ps_if (pt_cmpR op_eq (pe_callB call_len_seq (by rfl) ml PySem.boot_len (pa_cons (pv 1) pa_nil)) pe_int (nomark _)) (pss_one (ps_ret (pv 2))) pss_nil) pss_never), ?_⟩
    refine ⟨_, rfl, pa, _, rfl, .inr (SqT.of ha), rfl, _, rfl, ite2 (fun _ => ⟨_, rfl, q⟩) (fun h0 => absurd (decide_eq_true rfl) h0)⟩
/-- a place: a body of the program -/
def PlB (K : PySem.W.Frag) (C : Addr) (H : Hp) (x pl : Addr) (p : Pg) (z : Str) : Prop := ∃ pa, IsPg K C H x p ∧ (names p).Nodup ∧ z ∈ names p ∧ H pl = some (.tup [.str z, .ref pa]) ∧ H pa = some (.tup [])
def spPf (K : PySem.W.Frag) (C : Addr) : Sp := fun vs H Q _ => ∃ x pl p z, vs = [.ref x, .ref pl] ∧ PlB K C H x pl p z ∧ ∀ v, BdAt 5 H v (bodyOf p z) → Q v H
theorem ok_pf {f C : Addr} {fd : FuncData} (F : Fun K "_part_of" "_part_of" sPf f fd) (T : TxtG mg) (mCt : Met P w K mg base C "__contains__" 1 ["self", "value"] (spCt K C)) (mGt : Met P w K mg base C "__getitem__" 3 ["self", "at"] (spGt K C)) (hfi : PySem.W.fnIn K mGt.f = true) (gPw : Glo P w K mg base "part_within" 1 ["body", "path"] spPw) : FnOk P w K mg base CX0 5 f fd ["free", "place"] (spPf K C) := by
  refine F.ok scPf (fun vs H Q E h => ?_) (fun cdv A outer s H vs Q E hr h => ?_)
  · obtain ⟨x, pl, p, z, rfl, _⟩ := h
    rfl
  · obtain ⟨x, pl, p, z, rfl, ⟨pa, hi, hn, hz, hpl, hpa⟩, q⟩ := h
    refine ⟨_, (pss_cons (ps_if (PW.pt (pw_or (pt_not (pt_val (pe_callB call_isi (by rfl) T.isi PyProof.Rows.boot_isinstance (pa_cons (pv 1) (pa_cons (pe_bltn (v := .ty "tuple") (by rfl) T.tup (by decide +kernel) rfl) pa_nil))))) (pw_or1 (pt_cmpR op_ne (pe_callB call_len_seq (by rfl) T.len PySem.boot_len (pa_cons (pv 1) pa_nil)) pe_int (nomark _))))) pss_never pss_nil)
      (pss_cons (ps_asg (pv 1) (pg_tupK (K := K) rfl rfl (pgs_cons (pg_name (i := 2) scPf.nd rfl (.inl rfl)) (pgs_cons (pg_name (i := 3) scPf.nd rfl (.inl rfl)) pgs_nil))))
      (pss_cons (ps_if (PW.pt (pw_or (pt_cmpR (op_notInOwn mCt.D mCt.G (hr.mono (by decide)) mCt.b pass0) (pv 2) (pv 0) rfl) (pw_or1 (pt_not (pt_val (pe_callB call_isi (by rfl) T.isi PyProof.Rows.boot_isinstance (pa_cons (pv 3) (pa_cons (pe_bltn (v := .ty "tuple") (by rfl) T.tup (by decide +kernel) rfl) pa_nil)))))))) pss_never pss_nil)
      (pss_cons (ps_set (i := 4) scPf.nd rfl (Or.inl rfl) (pe_call gPw.G (hr.mono (by decide)) (by rfl) gPw.m gPw.k gPw.b .nil pass0 (pa_cons (pe_subOwnK (K := K) rfl mGt.D hfi mGt.G (hr.mono (by decide)) mGt.b pass0 (pv 0) (pv 2)) (pa_cons (pv 3) pa_nil))))
      (pss_cons (ps_if (pt_cmpR op_isN (pv 4) pe_non (nomark _)) pss_never pss_nil)
      (pss_one (ps_ret (pv 4)))))))), ?_⟩
    have hi0 := hi
    obtain ⟨dx, d, e, c, kvs, es, cs, hx, _⟩ := hi0
    refine ⟨_, rfl, _, _, _, _, true, rfl, .ty _, .base (.tup hpl), kit_ty (by decide +kernel), _, rfl, iteF ?_⟩
    refine ⟨_, rfl, pl, _, rfl, .inr (SqT.of hpl), rfl, _, rfl, iteF ?_⟩
    refine ⟨_, rfl, pl, _, rfl, SqT.of hpl, rfl, _, _, rfl, _, _, rfl, rfl, ?_⟩
    refine ⟨_, rfl, _, rfl, x, dx, _, rfl, hx, x, _, p, rfl, hi, .inl ⟨z, rfl, _, rfl, _, rfl, ?_⟩⟩
    rw [decide_eq_true hz]
    refine iteF ?_
    refine ⟨_, rfl, _, _, _, _, true, rfl, .ty _, .base (.tup hpa), kit_ty (by decide +kernel), _, rfl, iteF ?_⟩
    refine ⟨_, rfl, _, rfl, x, dx, _, rfl, hx, x, z, p, rfl, hi, hn, hz, fun v hv => ?_⟩
    refine ⟨_, rfl, v, pa, rfl, hpa, ?_⟩
    obtain ⟨ua, us, rfl, _⟩ := id hv
    exact ⟨_, rfl, rfl, _, rfl, iteF ⟨_, rfl, q _ hv⟩⟩
def spPut (K : PySem.W.Frag) (C : Addr) : Sp := fun vs H Q _ => ∃ x pl u p z b, vs = [.ref x, .ref pl, u] ∧ PlB K C H x pl p z ∧ p.length ≤ 8 ∧ nameB z = true ∧ BdAt 5 H u b ∧ Prg (setP p z b) ∧ NewQ K C H (setP p z b) Q
theorem ok_put {f C : Addr} {fd : FuncData} (F : Fun K "put_at" "put_at" sPu f fd) (R : PgC K C) (gCf : Glo P w K mg base "check_free" 1 ["free"] (spCf K C)) (gPf : Glo P w K mg base "_part_of" 5 ["free", "place"] (spPf K C)) (gWp : Glo P w K mg base "with_part" 1 ["body", "path", "part"] spWp) (mGt : Met P w K mg base C "__getitem__" 3 ["self", "at"] (spGt K C)) (hfi : PySem.W.fnIn K mGt.f = true) (mWy : Met P w K mg base C "with_body" 16 ["self", "name", "body"] (spWy K C)) : FnOk P w K mg base CX0 17 f fd ["free", "place", "part"] (spPut K C) := by
  refine F.ok scPu (fun vs H Q E h => ?_) (fun cdv A outer s H vs Q E hr h => ?_)
  · obtain ⟨x, pl, u, p, z, b, rfl, _⟩ := h
    rfl
  · obtain ⟨x, pl, u, p, z, b, rfl, hp, l8, nz, hu, prg, q⟩ := h
    refine ⟨_, (pss_cons (ps_expr (pe_call gCf.G (hr.mono (by decide)) (by rfl) gCf.m gCf.k gCf.b .nil pass0 (pa_cons (pv 0) pa_nil)))
      (pss_cons (ps_expr (pe_call gPf.G (hr.mono (by decide)) (by rfl) gPf.m gPf.k gPf.b .nil pass0 (pa_cons (pv 0) (pa_cons (pv 1) pa_nil))))
      (pss_cons (ps_asg (pv 1) (pg_tupK (K := K) rfl rfl (pgs_cons (pg_name (i := 3) scPu.nd rfl (.inl rfl)) (pgs_cons (pg_name (i := 4) scPu.nd rfl (.inl rfl)) pgs_nil))))
      (pss_one (ps_ret (pe_meth (pv 0) R.cl ⟨mWy.D.at_, mWy.D.fn, mWy.kp⟩ mWy.G (hr.mono (by decide)) mWy.b .nil pass0 (pa_cons (pv 3) (pa_cons (pe_call gWp.G (hr.mono (by decide)) (by rfl) gWp.m gWp.k gWp.b .nil pass0 (pa_cons (pe_subOwnK (K := K) rfl mGt.D hfi mGt.G (hr.mono (by decide)) mGt.b pass0 (pv 0) (pv 3)) (pa_cons (pv 4) (pa_cons (pv 2) pa_nil)))) pa_nil)))))))), ?_⟩
    have hp0 := hp
    obtain ⟨pa, hi, hn, hz, hpl, hpa⟩ := hp0
    have hi0 := hi
    obtain ⟨dx, d, e, c, kvs, es, cs, hx, _⟩ := hi0
    refine ⟨_, rfl, x, p, rfl, hi, ?_⟩
    refine ⟨_, rfl, _, rfl, x, pl, p, z, rfl, hp, fun v hv => ?_⟩
    refine ⟨_, rfl, pl, _, rfl, SqT.of hpl, rfl, _, _, rfl, _, _, rfl, rfl, ?_⟩
    refine ⟨_, rfl, x, dx, _, rfl, hx, rfl, ?_⟩
    refine ⟨_, rfl, _, rfl, _, rfl, x, dx, _, rfl, hx, x, z, p, rfl, hi, hn, hz, fun v2 hv2 => ?_⟩
    refine ⟨_, rfl, _, rfl, v2, pa, u, rfl, hpa, ?_⟩
    exact ⟨x, z, u, p, b, rfl, hi, l8, hn, nz, hu, prg, fun q' y H' a b' c' d' e' => q q' y H' a b' c' d' e'⟩
def spOro (K : PySem.W.Frag) (C : Addr) : Sp := fun vs H Q _ => ∃ x y p r, vs = [.ref x, .ref y] ∧ IsPg K C H x p ∧ IsPg K C H y r ∧ (names (p ++ r)).Nodup ∧ Prg (p ++ r) ∧ NewQ K C H (p ++ r) Q
theorem ok_oro {f C : Addr} {fd : FuncData} (F : Fun K "__or__" "Program.__or__" sOro f fd) (R : PgC K C) (kYes : PySem.W.kitOne K (.ref C) (.ref C) = some true) (mI : mg "isinstance" = none) (mAny : mg "any" = none) (mC : mg "Program" = some (.ref C)) (gO : OfG P w K mg base C) (pN : PMet P w K mg base C "names" 1 ["self"] (spNa K C)) (mCt : Met P w K mg base C "__contains__" 1 ["self", "value"] (spCt K C)) : FnOk P w K mg base CX0 16 f fd ["self", "other"] (spOro K C) := by
  refine F.ok scOro (fun vs H Q E h => ?_) (fun cdv A outer s H vs Q E hr h => ?_)
  · obtain ⟨x, y, p, r, rfl, _⟩ := h
    rfl
  · obtain ⟨x, y, p, r, rfl, hi, hj, hn, hp, q⟩ := h
    refine ⟨_, (pss_cons (ps_if (pt_not (pt_val (pe_callB call_isi (by rfl) mI PyProof.Rows.boot_isinstance (pa_cons (pv 1) (pa_cons (pe_glob (v := .ref C) (by rfl) mC rfl) pa_nil))))) pss_never pss_nil)
      (pss_cons (ps_if (pt_val (pe_callB (cr_any rfl) (by rfl) mAny (by decide +kernel) (pa_cons (pe_lc (X := (cxOf CX0 P w K mg base NOro "Program.__or__" (defScope sOro) f cdv A outer s H E).nox) (own := [("name", 2)]) (g := (gName 2)) (tt := tYes) rfl scOro.nd (pi_tup (pe_prop (pv 1) R.cl pN.o pN.G (hr.mono (by decide)) pN.b .nil pass0 rfl)) (blkOk_by (N := NOro) (sc := defScope sOro) (by decide +kernel)) (fun _ _ _ _ _ => (pg_name (i := 2) scOro.nd rfl (.inl rfl))) (fun _ _ _ _ _ => pts_nil) (fun _ _ _ _ _ => (pe_cmpR (op_inOwnK (K := K) rfl mCt.D mCt.G (hr.mono (by decide)) mCt.b pass0) (pv 2) (pv 0) rfl))) pa_nil))) pss_never pss_nil)
      (pss_one (ps_ret (pe_smeth (pe_glob (v := .ref C) (by rfl) mC rfl) gO.rC gO.sO gO.G (hr.mono (by decide)) gO.b .nil pass0 (pa_cons (pe_dtwo (pe_fld (pv 0) rfl) (pe_fld (pv 1) rfl)) pa_nil)))))), ?_⟩
    have hj0 := hj
    obtain ⟨dy, d2, e2, c2, ls, es2, cs2, hy, hd2, hk2, _⟩ := hj0
    have hi0 := hi
    obtain ⟨dx, d, e, c, kvs, es, cs, hx, hd, hk, _⟩ := hi0
    refine ⟨_, rfl, _, _, _, _, true, rfl, .own C, .base (R.ty.ins hy), kYes, _, rfl, iteF ?_⟩
    refine ⟨_, rfl, y, dy, _, rfl, hy, y, r, rfl, hj, fun t H1 nt s1 ht => ⟨t, rfl, ⟨_, SqT.of ht⟩, fun D hD => ?_⟩⟩
    have nd : ∀ z ∈ names r, z ∉ names p := fun z hz hz' => by
      have h := hn
      rw [names, List.map_append] at h
      exact (List.nodup_append.mp h).2.2 z hz' z hz rfl
    refine lc_it (walk_tup (xs := (names r).map V.str)) (fun i Hc => Same H1 Hc ∧ Hc D = some (.lst ((List.replicate i false).map V.bl))) ⟨same_new hD, upd_same⟩ (fun i Hc _ p => SqT.of (p.1 _ _ ht)) ?_ ?_
    · rintro i v0 Hc0 Hc hi' ⟨sm, hDc⟩ ⟨rfl, hv0⟩
      obtain ⟨z, hz, rfl⟩ : ∃ z, (names r)[i]? = some z ∧ v0 = .str z := by
        rw [List.getElem?_map] at hv0
        cases e : (names r)[i]? with
        | none => rw [e] at hv0; cases hv0
        | some z => rw [e] at hv0; cases hv0; exact ⟨z, rfl, rfl⟩
      have l8 := hp.len.2
      rw [List.length_append] at l8
      have li := (List.getElem?_eq_some_iff.mp hz).1
      rw [List.length_map] at li
      refine ⟨rfl, _, rfl, _, rfl, x, dx, _, rfl, s1.trans sm _ _ hx, x, _, p, rfl, hi.same (s1.trans sm), .inl ⟨z, rfl, ?_⟩⟩
      refine ⟨_, rfl, _, hDc, small1000 (by rw [List.length_map, List.length_replicate]; omega), same_upd hD sm, ?_⟩
      rw [decide_eq_false (nd z (List.mem_of_getElem? hz)), rep_blF]
      exact upd_same
    · rintro Hc ⟨sm, hDc⟩
      refine ⟨D, _, rfl, SqL.of hDc, _, rfl, ?_⟩
      rw [rep_any]
      refine iteF ?_
      have s2 := s1.trans sm
      have hx2 := s2 _ _ hx
      have hd2' := s2 _ _ hd
      have l8 := hp.len.2
      rw [List.length_append] at l8
      have lk := hk.1
      have ll := hk2.1
      refine ⟨rfl, fun t2 ht2 => ?_⟩
      have s3 := s2.trans (same_new (o := .dK []) ht2)
      have e3 : upd Hc t2 (.dK []) t2 = some (.dK []) := upd_same
      have nt : H t2 = none := none_of_same s2 ht2
      refine ⟨_, rfl, x, C, dx, _, _, rfl, s3 _ _ hx, R.cl, R.nb, rfl, d, kvs, rfl, ne_of_none hd nt, s3 _ _ hd, e3, Nat.le_of_lt (small1000 (by omega)), ?_⟩
      have s4 : Same H (upd (upd Hc t2 (.dK [])) t2 (.dK kvs)) := same_upd nt s3
      refine ⟨_, rfl, y, C, dy, _, _, rfl, s4 _ _ hy, R.cl, R.nb, rfl, d2, ls, rfl, ne_of_none hd2 nt, s4 _ _ hd2, upd_same, Nat.le_of_lt (small1000 (by omega)), ?_⟩
      have s5 : Same H (upd (upd (upd Hc t2 (.dK [])) t2 (.dK kvs)) t2 (.dK (mergeK kvs ls))) := same_upd nt s4
      refine ⟨t2, _, p ++ r, rfl, upd_same, merge_prg (hk.keep fun a xs e => s5 _ _ e) (hk2.keep fun a xs e => s5 _ _ e) hn, hp, hn, fun q' y' H' a b c' d' e' _ => q q' y' H' a b (none_of_same s5 c') (s5.trans d') e'⟩
end
end FR
set_option Elab.async false
set_option linter.all false
set_option maxRecDepth 100000
set_option maxHeartbeats 1000000
/-! written programs: right ones by a Bool, what they reach, their knots -/
namespace FR
open PySem PySem.Spec PyProof.Rows L2
def okBb : Nat → Bd → Bool
  | 0, _ => true
  | n + 1, b => b.all fun s => okS s && s.kids.all (okBb n)
def fewBb : Nat → Bd → Bool
  | 0, _ => true
  | n + 1, b => b.all fun s => decide (s.kids.length ≤ 90) && s.kids.all (fewBb n)
theorem okBb_ok : ∀ {n : Nat} {b : Bd}, okBb n b = true → okB n b
  | 0, _, _ => trivial
  | n + 1, b, h => fun s hs => by
    have := List.all_eq_true.mp h s hs
    rw [Bool.and_eq_true] at this
    exact ⟨this.1, fun k hk => okBb_ok (List.all_eq_true.mp this.2 k hk)⟩
theorem fewBb_ok : ∀ {n : Nat} {b : Bd}, fewBb n b = true → FewB n b
  | 0, _, _ => trivial
  | n + 1, b, h => fun s hs => by
    have := List.all_eq_true.mp h s hs
    rw [Bool.and_eq_true] at this
    exact ⟨of_decide_eq_true this.1, fun k hk => fewBb_ok (List.all_eq_true.mp this.2 k hk)⟩
def prgB (p : Pg) : Bool := (decide (1 ≤ p.length) && decide (p.length ≤ 8)) && (p.all (fun x => nameB x.1 && (okBb 5 x.2 && (decide (cnt 5 x.2 ≤ 60) && fewBb 5 x.2))) && (decide ((p.map fun x => cnt 5 x.2).sum ≤ 60) && p.all fun x => (callsOf x.2).all fun z => decide (z ∈ names p)))
theorem prgB_ok {p : Pg} (h : prgB p = true) : Prg p := by
  unfold prgB at h
  rw [Bool.and_eq_true, Bool.and_eq_true, Bool.and_eq_true, Bool.and_eq_true] at h
  obtain ⟨⟨a, b⟩, c, d, e⟩ := h
  refine ⟨⟨of_decide_eq_true a, of_decide_eq_true b⟩, fun x hx => ?_, ?_, fun x hx z hz => ?_⟩
  · have := List.all_eq_true.mp c x hx
    rw [Bool.and_eq_true, Bool.and_eq_true, Bool.and_eq_true] at this
    exact ⟨this.1, okBb_ok this.2.1, of_decide_eq_true this.2.2.1, fewBb_ok this.2.2.2⟩
  · have e2 : (p.map fun x => (placed 5 x.2 []).length) = p.map fun x => cnt 5 x.2 := List.map_congr_left fun x _ => placed_len 5 x.2 []
    rw [e2]
    exact of_decide_eq_true d
  · exact of_decide_eq_true (List.all_eq_true.mp (List.all_eq_true.mp e x hx) z hz)
theorem valV_no {kvs : List (Key × V)} {z : Str} (h : ∀ kv ∈ kvs, ∃ y, kv.1 = .inr y ∧ (y == z) = false) : valV kvs (.inr z) = none := by
  induction kvs with
  | nil => rfl
  | cons kv kvs ih =>
    obtain ⟨y, e, ne⟩ := h kv List.mem_cons_self
    obtain ⟨k, v⟩ := kv
    cases e
    rw [valV_neg (fun e => absurd (Sum.inr.inj e) (by simpa using ne))]
    exact ih fun kv hk => h kv (List.mem_cons_of_mem _ hk)
theorem pg_eq {p q : Pg} (e : q.Perm p) (hn : (names p).Nodup) (hp : sortedS (names p) = true) (hq : sortedS (names q) = true) : q = p := by
  have en : names q = names p := sorted_perm (e.map _) hq hp
  have hn' : (names q).Nodup := by rw [en]; exact hn
  rw [← pg_eta hn, ← pg_eta hn', en]
  refine List.map_congr_left fun z hz => ?_
  obtain ⟨x, hx, rfl⟩ := List.mem_map.mp (show z ∈ p.map (·.1) from hz)
  rw [bodyOf_mem hn hx, bodyOf_mem hn' (e.mem_iff.mpr hx)]
/-- what is reached, by rounds -/
def grow (p : Pg) : Nat → List Str → List Str
  | 0, F => F
  | n + 1, F => grow p n (F ++ F.flatMap fun y => callsOf (bodyOf p y))
def rcL (p : Pg) (z : Str) : List Str := (names p).filter fun y => decide (y ∈ grow p p.length [z])
theorem grow_reach {p : Pg} {z : Str} : ∀ (n : Nat) (F : List Str), (∀ y ∈ F, Reach p z y) → ∀ y ∈ grow p n F, Reach p z y
  | 0, _, h => h
  | n + 1, F, h => grow_reach n _ fun y hy => by
    rcases List.mem_append.mp hy with a | a
    · exact h y a
    · obtain ⟨x, hx, hc⟩ := List.mem_flatMap.mp a
      exact (h x hx).step hc
def rcB (p : Pg) : Bool := (sortedS (names p) && decide (names p).Nodup) && (names p).all fun z => decide (z ∈ rcL p z) && (rcL p z).all fun y => (callsOf (bodyOf p y)).all fun c => decide (c ∈ rcL p z)
theorem rcB_ok {p : Pg} (h : rcB p = true) : (sortedS (names p) = true ∧ (names p).Nodup) ∧ IsRc p (rcL p) := by
  unfold rcB at h
  rw [Bool.and_eq_true, Bool.and_eq_true] at h
  obtain ⟨⟨a, b⟩, c⟩ := h
  have nd := of_decide_eq_true b
  refine ⟨⟨a, nd⟩, fun z hz => ?_⟩
  have := List.all_eq_true.mp c z hz
  rw [Bool.and_eq_true] at this
  obtain ⟨h1, h2⟩ := this
  refine ⟨pair_sorted ((sorted_pair a).sublist List.filter_sublist), nd.filter _, reach_all (of_decide_eq_true h1) (fun y hy => ?_) fun y hy x hx => ?_⟩
  · exact grow_reach _ [z] (fun y hy => by rw [List.mem_singleton.mp hy]; exact .refl) y (of_decide_eq_true (List.mem_filter.mp hy).2)
  · exact of_decide_eq_true (List.all_eq_true.mp (List.all_eq_true.mp h2 y hy) x hx)
structure LitK (p : Pg) (T : List (List Str)) : Prop where
  prg : Prg p
  nd : (names p).Nodup
  so : sortedS (names p) = true
  rc : IsRc p (rcL p)
  tot : total p (rcL p) = T
theorem litK {p : Pg} {T : List (List Str)} (h : prgB p = true) (h2 : rcB p = true) (h3 : total p (rcL p) = T) : LitK p T :=
  ⟨prgB_ok h, (rcB_ok h2).1.2, (rcB_ok h2).1.1, (rcB_ok h2).2, h3⟩
/-- the written programs -/
abbrev pLad : Pg := [("a", []), ("b", [.call "c", .call "b"]), ("c", [.call "d", .call "a"]), ("d", [.call "c"])]
theorem lLad : LitK pLad [["a"], ["c", "d"], ["b"]] := litK (by decide +kernel) (by decide +kernel) (by decide +kernel)
abbrev pApa : Pg := [("a", [.choose [[], [.call "a"]]]), ("b", [.call "d"]), ("c", [.call "a"]), ("d", [.call "d"])]
theorem lApa : LitK pApa [["a"], ["c"], ["d"], ["b"]] := litK (by decide +kernel) (by decide +kernel) (by decide +kernel)
abbrev sDeep : St := .toss [(1, []), (1, [.again 1 1 [.choose [[], [.toss [(1, []), (1, [.call "c"])]]]]])]
abbrev pDee : Pg := [("a", [sDeep]), ("c", [.call "a"])]
theorem lDee : LitK pDee [["a", "c"]] := litK (by decide +kernel) (by decide +kernel) (by decide +kernel)
abbrev pTri : Pg := [("b", [.call "c"]), ("c", []), ("d", [])]
theorem lTri : LitK pTri [["c"], ["b"], ["d"]] := litK (by decide +kernel) (by decide +kernel) (by decide +kernel)
abbrev pOld : Pg := [("a", [.call "b"]), ("b", [])]
theorem lOld : LitK pOld [["b"], ["a"]] := litK (by decide +kernel) (by decide +kernel) (by decide +kernel)
abbrev pOne : Pg := [("c", [])]
theorem lOne : LitK pOne [["c"]] := litK (by decide +kernel) (by decide +kernel) (by decide +kernel)
abbrev pPut : Pg := [("a", [.call "b"]), ("b", [.call "a"])]
theorem lPut : LitK pPut [["a", "b"]] := litK (by decide +kernel) (by decide +kernel) (by decide +kernel)
abbrev pAll : Pg := [("a", [.call "b"]), ("b", []), ("c", [])]
theorem lAll : LitK pAll [["b"], ["a"], ["c"]] := litK (by decide +kernel) (by decide +kernel) (by decide +kernel)
abbrev pBee : Pg := [("b", [])]
theorem lBee : LitK pBee [["b"]] := litK (by decide +kernel) (by decide +kernel) (by decide +kernel)
theorem eta_perm {p : Pg} {ns : List Str} (h : (names p).Nodup) (e : (names p).Perm ns) : p.Perm (ns.map fun z => (z, bodyOf p z)) := by
  have := e.map fun z => (z, bodyOf p z)
  rw [pg_eta h] at this
  exact this
end FR
set_option Elab.async false
set_option linter.all false
set_option maxRecDepth 100000
set_option maxHeartbeats 1000000
/-! != of two dicts of data -/
namespace L2
open PySem PySem.Spec PyProof.Rows
section
variable {prog : Program} {w : World} {A : Around} {E : Value → Shared → Prop} {s : Shared} {T : Type} [DecidableEq T] {knd : KeyKind prog w T}
theorem ne_dictsP {a b : Addr} {ka kb : List (T × Value)} {r : Bool} {Q : Value → Shared → Prop} (ha : (a == sysModules) = false) (hb : (b == sysModules) = false) (da : s.heap.DictOf knd a ka) (db : s.heap.DictOf knd b kb) (hu : A.units < cLine)
    (hits : ka.length = kb.length → PySem.W.KeqHitsP prog w A.in1 s kb ka r) (h : Q (.bool (!(ka.length == kb.length && r))) s) : wpAny (model prog w) A (compareOp .NotEq (.ref a) (.ref b)) Q E s := by
  have both := da.typeIs
  refine wpAny_richCompare_same_room (op := .NotEq) both db.typeIs PySem.F.slot_dict_ne (wpAny_call_entry PySem.F.slot_dict_ne both PySem.F.entry_dict_ne ?_ (PySem.F.args_dict_ne_2 _ _)) hu
  show wpAny _ _ (Builtin.Dict.dictSlotArgs "__ne__" _ >>= _) _ _ s
  unfold Builtin.Dict.dictSlotArgs
  refine wpAny_bind (wpAny_bind (wpAny_notOrdered_dict both (wpAny_pure ?_)))
  refine wpAny_bind (wpAny_isInstance (T := "dict") db.typeIs PySem.F.sub_dict_dict (?_ : _))
  simp only [Bool.not_true, if_false, Bool.false_eq_true]
  refine wpAny_bind (wpAny_pure (wpAny_bind (wpAny_pure (wpAny_bind (PySem.W.samePairsP ha hb da db hits ?_)))))
  exact wpAny_pure ⟨_, rfl, (fun x => nomatch x), by simpa using h⟩
end
def rNeKD (K : PySem.W.Frag) : R2 := fun x y H Q => ∃ a b ks ls r, x = .ref a ∧ y = .ref b ∧ H a = some (.dK ks) ∧ H b = some (.dK ls) ∧ (ks.length = ls.length → Hits K H ls ks r) ∧ Q (.bl (!(ks.length == ls.length && r))) H
theorem op_neKD {X : Cx} {K : PySem.W.Frag} (hK : X.K = K) (hu : X.A.units + 64 < cLine) : OpR X (compareOp .NotEq) (rNeKD K) := by
  subst hK
  intro pins s σ H x y v u Q I rx ry h
  obtain ⟨a, b, ks, ls, r, rfl, rfl, ha, hb, hits, q⟩ := h
  cases rx
  cases ry
  obtain ⟨_, ya, va, ra, da⟩ := dk_of I.hok ha
  obtain ⟨_, yb, vb, rb, db⟩ := dk_of I.hok hb
  refine ne_dictsP (knd := mixKind X.prog X.w) (r := r) ya yb da db (by omega) (fun e => ?_) ?_
  · exact hits_of I (A := X.A.in1) (by show X.A.units + 1 + 62 < cLine; omega) rb (hits (by rw [ra.length, rb.length]; exact e)) ra
  · rw [← ra.length, ← rb.length]
    exact ⟨.bl _, H, I, rfl, q⟩
end L2
namespace FR
open PySem PySem.Spec PyProof.Rows L2
/-- .. of the same bodies -/
theorem ne_same {K : PySem.W.Frag} {H : Hp} {a b : Addr} {ks ls : List (Key × V)} {p : Pg} {Q : VK} (ha : H a = some (.dK ks)) (hb : H b = some (.dK ls)) (hk : PrgK H ks p) (hl : PrgK H ls p) (hn : (names p).Nodup) (q : Q (.bl false) H) : rNeKD K (.ref a) (.ref b) H Q := by
  obtain ⟨r, hits, hr⟩ := PrgK.eq_hits (K := K) hl hn hk
  have er : r = true := hr.mpr fun x hx => ⟨List.mem_map.mpr ⟨x, hx, rfl⟩, by rw [bodyOf_mem hn hx]; exact eqv_self (plainB 5 _)⟩
  refine ⟨a, b, ks, ls, r, rfl, rfl, ha, hb, fun _ => hits, ?_⟩
  rw [er, hk.1, hl.1, beq_self_eq_true]
  exact q
end FR
set_option Elab.async false
set_option linter.all false
set_option maxRecDepth 100000
set_option maxHeartbeats 1000000
/-! written data, by its structure; knots of written programs -/
namespace FR
open PySem PySem.Spec PyProof.Rows L2
theorem AG.st {n : Nat} {H H' : Hp} {xs : List V} {b : Bd} (g : AG (fun w s => StAt n H w s) xs b) (s : Same H H') : AG (fun w s => StAt n H' w s) xs b := g.imp fun _ _ h => h.same s
/-- an expression of written data: what it lays, from any heap in which what stood in H0 stands -/
def Ev (te : L2.TE) (σ : L2.St) (H0 : Hp) (R : Hp → V → Prop) : Prop := ∀ (H : Hp) (Q : VK), Same H0 H → (∀ v H', Same H H' → R H' v → Q v H') → te σ H Q
def EvL (ta : L2.TA) (σ : L2.St) (H0 : Hp) (R : Hp → List V → Prop) : Prop := ∀ (H : Hp) (Q : List V → Hp → Prop), Same H0 H → (∀ vs H', Same H H' → R H' vs → Q vs H') → ta σ H Q
section
variable {σ : L2.St} {H0 : Hp}
theorem ev_const (v : V) : Ev (tC v) σ H0 fun _ u => u = v := fun H Q _ q => q v H (Same.refl _) rfl
theorem ev_var {i : Nat} {v : V} {R : Hp → V → Prop} (h : σ[i]? = some (some v)) (r : ∀ H, Same H0 H → R H v) : Ev (tVar i) σ H0 R := fun H Q s q => ⟨v, h, q v H (Same.refl _) (r H s)⟩
theorem evl_nil {α : Type} {R : Hp → V → α → Prop} : EvL tNil σ H0 fun H vs => AG (R H) vs [] := fun H Q _ q => q [] H (Same.refl _) AG.nil
theorem evl_cons {α : Type} {R : Hp → V → α → Prop} (st : ∀ H H' v a, Same H H' → R H v a → R H' v a) {te : L2.TE} {ta : L2.TA} {a : α} {as : List α} (h1 : Ev te σ H0 fun H v => R H v a) (h2 : EvL ta σ H0 fun H vs => AG (R H) vs as) : EvL (tCons te ta) σ H0 fun H vs => AG (R H) vs (a :: as) := fun H Q s q =>
  h1 H _ s fun v H1 s1 r1 => h2 H1 _ (s.trans s1) fun vs H2 s2 r2 => q (v :: vs) H2 (s1.trans s2) (AG.consA (st _ _ _ _ s2 r1) r2)
theorem ev_tup {ta : L2.TA} {R : Hp → List V → Prop} (h : EvL ta σ H0 fun H vs => R H vs ∧ vs.length ≤ 1000) (st : ∀ H H' vs, Same H H' → R H vs → R H' vs) : Ev (tTup ta) σ H0 fun H v => ∃ t vs, v = .ref t ∧ H t = some (.tup vs) ∧ R H vs := fun H Q s q =>
  h H _ s fun vs H1 s1 r1 => ⟨Nat.le_of_lt (small1000 r1.2), fun p hp => q _ _ (s1.trans (same_new hp)) ⟨p, vs, rfl, upd_same, st _ _ _ (same_new hp) r1.1⟩⟩
theorem Ev.imp {te : L2.TE} {R R' : Hp → V → Prop} (h : Ev te σ H0 R) (f : ∀ H v, R H v → R' H v) : Ev te σ H0 R' := fun H Q s q => h H Q s fun v H' s' r => q v H' s' (f _ _ r)
/-- bodies -/
theorem ev_body {n : Nat} {ta : L2.TA} {b : Bd} (h : EvL ta σ H0 fun H vs => AG (fun v s => StAt n H v s) vs b) (l : b.length ≤ 1000) : Ev (tTup ta) σ H0 fun H v => BdAt (n + 1) H v b :=
  (ev_tup (R := fun H vs => AG (fun v s => StAt n H v s) vs b) (fun H Q s q => h H Q s fun vs H' s' r => q vs H' s' ⟨r, by rw [r.1]; exact l⟩) (fun _ _ _ s r => AG.st r s)).imp fun H v ⟨t, vs, e, ht, r⟩ => ⟨t, vs, e, ht, r⟩
theorem evs_nil {n : Nat} : EvL tNil σ H0 fun H vs => AG (fun v s => StAt n H v s) vs [] := evl_nil (R := fun H v s => StAt n H v s)
theorem evs_cons {n : Nat} {te : L2.TE} {ta : L2.TA} {s : St} {b : Bd} (h1 : Ev te σ H0 fun H v => StAt n H v s) (h2 : EvL ta σ H0 fun H vs => AG (fun v s => StAt n H v s) vs b) : EvL (tCons te ta) σ H0 fun H vs => AG (fun v s => StAt n H v s) vs (s :: b) :=
  evl_cons (R := fun H v s => StAt n H v s) (fun _ _ _ _ s r => r.same s) h1 h2
/-- statements -/
theorem ev_two {u v : V} : Ev (tTup (tCons (tC u) (tCons (tC v) tNil))) σ H0 fun H w => ∃ t, w = .ref t ∧ H t = some (.tup [u, v]) := fun H Q s q => ⟨small1000 (Nat.le_of_ble_eq_true rfl), fun p hp => q _ _ (same_new hp) ⟨p, rfl, upd_same⟩⟩
theorem ev_note {n : Nat} {z : Str} : Ev (tTup (tCons (tC (.str "note")) (tCons (tC (.str z)) tNil))) σ H0 fun H v => StAt n H v (.note z) := ev_two.imp fun _ _ h => h
theorem ev_call {n : Nat} {z : Str} : Ev (tTup (tCons (tC (.str "call")) (tCons (tC (.str z)) tNil))) σ H0 fun H v => StAt n H v (.call z) := ev_two.imp fun _ _ h => h
theorem ev_stay {n : Nat} : Ev (tTup (tCons (tC (.str "stay")) tNil)) σ H0 fun H v => StAt n H v .stay := fun H Q s q => ⟨small1000 (Nat.le_of_ble_eq_true rfl), fun p hp => q _ _ (same_new hp) ⟨p, rfl, upd_same⟩⟩
theorem ev_again {n : Nat} {i j : Int} {te : L2.TE} {b : Bd} (h : Ev te σ H0 fun H v => BdAt n H v b) : Ev (tTup (tCons (tC (.str "again")) (tCons (tC (.int i)) (tCons (tC (.int j)) (tCons te tNil))))) σ H0 fun H v => StAt n H v (.again i j b) := fun H Q s q =>
  h H _ s fun v H1 s1 r => ⟨small1000 (Nat.le_of_ble_eq_true rfl), fun p hp => q _ _ (s1.trans (same_new hp)) ⟨p, v, rfl, upd_same, r.same (same_new hp)⟩⟩
/-- a row of a toss -/
def RwAt (n : Nat) (H : Hp) (v : V) (r : Int × Bd) : Prop := ∃ p x, v = .ref p ∧ H p = some (.tup [.int r.1, x]) ∧ BdAt n H x r.2
theorem ev_row {n : Nat} {i : Int} {te : L2.TE} {b : Bd} (h : Ev te σ H0 fun H v => BdAt n H v b) : Ev (tTup (tCons (tC (.int i)) (tCons te tNil))) σ H0 fun H v => RwAt n H v (i, b) := fun H Q s q =>
  h H _ s fun v H1 s1 r => ⟨small1000 (Nat.le_of_ble_eq_true rfl), fun p hp => q _ _ (s1.trans (same_new hp)) ⟨p, v, rfl, upd_same, r.same (same_new hp)⟩⟩
theorem evr_nil {n : Nat} : EvL tNil σ H0 fun H vs => AG (RwAt n H) vs [] := evl_nil (R := fun H v r => RwAt n H v r)
theorem evr_cons {n : Nat} {te : L2.TE} {ta : L2.TA} {r : Int × Bd} {rs : List (Int × Bd)} (h1 : Ev te σ H0 fun H v => RwAt n H v r) (h2 : EvL ta σ H0 fun H vs => AG (RwAt n H) vs rs) : EvL (tCons te ta) σ H0 fun H vs => AG (RwAt n H) vs (r :: rs) :=
  evl_cons (R := fun H v r => RwAt n H v r) (fun _ _ _ _ s ⟨p, x, e, h1, h2⟩ => ⟨p, x, e, s _ _ h1, h2.same s⟩) h1 h2
theorem ev_toss {n : Nat} {ta : L2.TA} {rs : List (Int × Bd)} (h : EvL ta σ H0 fun H vs => AG (RwAt n H) vs rs) (l : rs.length + 1 ≤ 1000) : Ev (tTup (tCons (tC (.str "toss")) ta)) σ H0 fun H v => StAt n H v (.toss rs) := fun H Q s q =>
  h H _ s fun vs H1 s1 r => ⟨Nat.le_of_lt (small1000 (by rw [List.length_cons, r.1]; exact l)), fun p hp => q _ _ (s1.trans (same_new hp)) ⟨p, vs, rfl, upd_same, r.imp fun _ _ ⟨p', x, e, h1, h2⟩ => ⟨p', x, e, same_new hp _ _ h1, h2.same (same_new hp)⟩⟩⟩
theorem evb_nil {n : Nat} : EvL tNil σ H0 fun H vs => AG (fun v b => BdAt n H v b) vs [] := evl_nil (R := fun H v b => BdAt n H v b)
theorem evb_cons {n : Nat} {te : L2.TE} {ta : L2.TA} {b : Bd} {bs : List Bd} (h1 : Ev te σ H0 fun H v => BdAt n H v b) (h2 : EvL ta σ H0 fun H vs => AG (fun v b => BdAt n H v b) vs bs) : EvL (tCons te ta) σ H0 fun H vs => AG (fun v b => BdAt n H v b) vs (b :: bs) :=
  evl_cons (R := fun H v b => BdAt n H v b) (fun _ _ _ _ s r => BdAt.same r s) h1 h2
theorem ev_choose {n : Nat} {ta : L2.TA} {bs : List Bd} (h : EvL ta σ H0 fun H vs => AG (fun v b => BdAt n H v b) vs bs) (l : bs.length + 1 ≤ 1000) : Ev (tTup (tCons (tC (.str "choose")) ta)) σ H0 fun H v => StAt n H v (.choose bs) := fun H Q s q =>
  h H _ s fun vs H1 s1 r => ⟨Nat.le_of_lt (small1000 (by rw [List.length_cons, r.1]; exact l)), fun p hp => q _ _ (s1.trans (same_new hp)) ⟨p, vs, rfl, upd_same, r.imp fun _ _ h => BdAt.same h (same_new hp)⟩⟩
/-- a call that stands in a list -/
def CallAt (H : Hp) (v : V) (z : Str) : Prop := ∃ a, v = .ref a ∧ H a = some (.tup [.str "call", .str z])
def CallsAt (H : Hp) (L : Addr) (zs : List Str) : Prop := ∃ ts, H L = some (.lst ts) ∧ AG (CallAt H) ts zs
theorem CallsAt.same {H H' : Hp} {L : Addr} {zs : List Str} (h : CallsAt H L zs) (s : Same H H') : CallsAt H' L zs := by
  obtain ⟨ts, a, b⟩ := h
  exact ⟨ts, s _ _ a, b.imp fun _ _ ⟨x, e, z⟩ => ⟨x, e, s _ _ z⟩⟩
theorem ev_ix {K : PySem.W.Frag} {n i : Nat} {k : Int} {j : Nat} {L : Addr} {zs : List Str} {z : Str} (h : σ[i]? = some (some (.ref L))) (c : CallsAt H0 L zs) (hk : k = (j : Int)) (hz : zs[j]? = some z) : Ev (tOp (rIxL K) (tVar i) (tC (.int k))) σ H0 fun H v => StAt n H v (.call z) := fun H Q s q => by
  obtain ⟨ts, a, b⟩ := c.same s
  have lj : j < ts.length := by rw [b.1]; exact (List.getElem?_eq_some_iff.mp hz).1
  obtain ⟨y, hy, x, e, hx⟩ := b.2 j ts[j] (List.getElem?_eq_getElem lj)
  rw [hz] at hy
  cases hy
  refine ⟨_, h, L, ts, k, ts[j], rfl, rfl, SqL.of a, by rw [hk]; exact atI_nat (List.getElem?_eq_getElem lj), q _ _ (Same.refl _) ⟨x, e, hx⟩⟩
/-- programs -/
def PrV (K : PySem.W.Frag) (C : Addr) (p : Pg) (H : Hp) (v : V) : Prop := ∃ x, v = .ref x ∧ IsPg K C H x p
theorem PrV.same {K : PySem.W.Frag} {C : Addr} {p : Pg} {H H' : Hp} {v : V} (h : PrV K C p H v) (s : Same H H') : PrV K C p H' v := by
  obtain ⟨x, e, i⟩ := h
  exact ⟨x, e, i.same s⟩
theorem prg_kw {H : Hp} : ∀ {ks : List Str} {vs : List V} {bs : List Bd}, ks.length = bs.length → AG (fun v b => BdAt 5 H v b) vs bs → PrgK H (dkOf ks vs) (ks.zip bs)
  | [], _, [], _, _ => by unfold dkOf; exact PrgK.nil
  | [], _, _ :: _, e, _ => by cases e
  | _ :: _, _, [], e, _ => by cases e
  | _ :: _, [], _ :: _, _, g => by simp [AG] at g
  | k :: ks, v :: vs, b :: bs, e, g => by
    show PrgK H ((.inr k, v) :: dkOf ks vs) ((k, b) :: ks.zip bs)
    have t := prg_kw (Nat.succ.inj e) (AG.uncons g).2
    refine ⟨by simp [t.1], fun i k' u z => ?_⟩
    cases i with
    | zero => cases z; exact ⟨k, b, rfl, rfl, (AG.uncons g).1⟩
    | succ i => exact t.2 i k' u z
theorem dk_keys {vs : List V} : ∀ {ks : List Str} {kv : Key × V}, kv ∈ dkOf ks vs → ∃ y, kv.1 = .inr y ∧ y ∈ ks := fun {ks kv} h => by
  obtain ⟨p, hp, rfl⟩ := List.mem_map.mp h
  exact ⟨p.1, rfl, (List.of_mem_zip hp).1⟩
variable {K : PySem.W.Frag} {C CG : Addr}
theorem ev_make {ks ns : List Str} {tk : L2.TA} {bs : List Bd} {p' : Pg} {T : List (List Str)} (L : LitK p' T) (h : EvL tk σ H0 fun H vs => AG (fun v b => BdAt 5 H v b) vs bs) (g : prgB (ks.zip bs) = true) (hn : (names (ks.zip bs)).Nodup) (hl : ks.length = bs.length)
    (pm : (names (ks.zip bs)).isPerm ns = true) (ep : (ns.map fun z => (z, bodyOf (ks.zip bs) z)) = p') (ng : ("_given" : Str) ∉ ks) : Ev (tMakeRs C ks (spPi K C CG) tk) σ H0 (PrV K C p') := fun H Q s q => by
  refine h H _ s fun vs H1 s1 r => ⟨by rw [r.1, hl], fun x dx nx ndx ne d nd => ?_⟩
  have pm2 := eta_perm hn (List.isPerm_iff.mp pm)
  rw [ep] at pm2
  exact new_pi (H := H1) (Same.refl H1) nx ndx ne nd (prg_kw hl r) (prgB_ok g) hn (.inr ⟨rfl, valV_no fun kv hk => by
    obtain ⟨y, e, hy⟩ := dk_keys hk
    exact ⟨y, e, by simpa using fun (c : y = "_given") => ng (c ▸ hy)⟩⟩) (fun q0 x0 H' hp hs nx0 s0 i0 f0 => by
      obtain rfl := pg_eq (hp.trans pm2) L.nd L.so hs
      exact q _ _ (s1.trans s0) ⟨x0, rfl, i0⟩)
end
end FR
set_option Elab.async false
set_option linter.all false
set_option maxRecDepth 100000
set_option maxHeartbeats 1000000
/-! knots of written programs as data, by the structure of the text -/
namespace FR
open PySem PySem.Spec PyProof.Rows L2
mutual
theorem dp_same {K : PySem.W.Frag} {H H' : Hp} (s : Same H H') : ∀ {v : V} {d : PyData}, Dp K H v d → Dp K H' v d
  | _, _, .non => .non
  | _, _, .bl b => .bl b
  | _, _, .int i => .int i
  | _, _, .str x => .str x
  | _, _, .lst h g => .lst (s.seq h) (dpAll_same s g)
  | _, _, .tup h g => .tup ((Tk.same s).seqT h) (dpAll_same s g)
theorem dpAll_same {K : PySem.W.Frag} {H H' : Hp} (s : Same H H') : ∀ {vs : List V} {ds : List PyData}, DpAll K H vs ds → DpAll K H' vs ds
  | _, _, .nil => .nil
  | _, _, .cons h g => .cons (dp_same s h) (dpAll_same s g)
end
theorem dpAll_len {K : PySem.W.Frag} {H : Hp} : ∀ {vs : List V} {ds : List PyData}, DpAll K H vs ds → vs.length = ds.length
  | _, _, .nil => rfl
  | _, _, .cons _ g => congrArg (· + 1) (dpAll_len g)
theorem dpAll_app {K : PySem.W.Frag} {H : Hp} : ∀ {vs ws : List V} {ds es : List PyData}, DpAll K H vs ds → DpAll K H ws es → DpAll K H (vs ++ ws) (ds ++ es)
  | _, _, _, _, .nil, g => g
  | _, _, _, _, .cons h t, g => .cons h (dpAll_app t g)
abbrev dT (k : List Str) : PyData := .tuple (k.map PyData.str)
abbrev dKs (T : List (List Str)) : PyData := .tuple (T.map fun k => .tuple (k.map PyData.str))
/-- a list of data -/
def LsD (K : PySem.W.Frag) (ds : List PyData) (H : Hp) (v : V) : Prop := ∃ a xs, v = .ref a ∧ H a = some (.lst xs) ∧ DpAll K H xs ds
theorem LsD.same {K : PySem.W.Frag} {ds : List PyData} {H H' : Hp} {v : V} (h : LsD K ds H v) (s : Same H H') : LsD K ds H' v := by
  obtain ⟨a, xs, e, h1, h2⟩ := h
  exact ⟨a, xs, e, s _ _ h1, dpAll_same s h2⟩
theorem LsD.dp {K : PySem.W.Frag} {ds : List PyData} {H : Hp} {v : V} (h : LsD K ds H v) : Dp K H v (.list ds) := by
  obtain ⟨a, xs, rfl, h1, h2⟩ := h
  exact .lst (SqL.of h1) h2
section
variable {σ : L2.St} {H0 : Hp} {K : PySem.W.Frag} {C : Addr} {E : XK}
theorem ev_knots {te : L2.TE} {p : Pg} {T : List (List Str)} (L : LitK p T) (h : Ev te σ H0 (PrV K C p)) : Ev (tCall (spKs K C) [] E (tCons te tNil)) σ H0 fun H v => Dp K H v (dKs T) := fun H Q s q =>
  h H _ s fun v H1 s1 ⟨x, e, i⟩ => by
    subst e
    exact ⟨x, p, rcL p, rfl, i, L.prg, L.nd, L.rc, fun t us H' nt s2 ht g => q _ _ (s1.trans s2) (by rw [L.tot] at g; exact .tup (SqT.of ht) (dpKs g))⟩
theorem ev_ra {te : L2.TE} {p : Pg} {T : List (List Str)} {z : Str} {k : List Str} (L : LitK p T) (h : Ev te σ H0 (PrV K C p)) (hz : z ∈ names p) (hk : rcL p z = k) : Ev (tCall (spRa K C) [] E (tCons te (tCons (tC (.str z)) tNil))) σ H0 fun H v => Dp K H v (dT k) := fun H Q s q =>
  h H _ s fun v H1 s1 ⟨x, e, i⟩ => by
    subst e
    exact ⟨x, z, p, rfl, i, L.prg, L.nd, hz, fun t es H' nt s2 ht g => q _ _ (s1.trans s2) (by rw [← hk, ← g.eq (L.rc z hz)]; exact .tup (SqT.of ht) (dpStrs es))⟩
theorem ev_ko {te : L2.TE} {p : Pg} {T : List (List Str)} {z : Str} {k : List Str} (L : LitK p T) (h : Ev te σ H0 (PrV K C p)) (hz : z ∈ names p) (hk : kn (rcL p) z = k) : Ev (tCall (spKo K C) [] E (tCons te (tCons (tC (.str z)) tNil))) σ H0 fun H v => Dp K H v (dT k) := fun H Q s q =>
  h H _ s fun v H1 s1 ⟨x, e, i⟩ => by
    subst e
    exact ⟨x, z, p, rcL p, rfl, i, L.prg, L.nd, L.rc, hz, fun t H' s2 g => q _ _ (s1.trans s2) (by
      obtain ⟨t', e, ht⟩ := g
      cases e
      rw [← hk]
      exact .tup (SqT.of ht) (dpStrs _))⟩
theorem newq {p p' : Pg} {T : List (List Str)} (L : LitK p' T) (hn : (names p).Nodup) {ns : List Str} (pm : (names p).isPerm ns = true) (ep : (ns.map fun z => (z, bodyOf p z)) = p') {H : Hp} {Q : VK} (q : ∀ v H', Same H H' → PrV K C p' H' v → Q v H') : NewQ K C H p Q := fun q0 y H' hp hs ny s i => by
  have pm2 := eta_perm hn (List.isPerm_iff.mp pm)
  rw [ep] at pm2
  obtain rfl := pg_eq (hp.trans pm2) L.nd L.so hs
  exact q _ _ s ⟨y, rfl, i⟩
/-- the place of a whole body -/
theorem ev_place {z : Str} : Ev (tTup (tCons (tC (.str z)) (tCons (tTup tNil) tNil))) σ H0 fun H v => ∃ pl pa, v = .ref pl ∧ H pl = some (.tup [.str z, .ref pa]) ∧ H pa = some (.tup []) := fun H Q s q =>
  ⟨Nat.zero_le _, fun pa hpa => ⟨small1000 (Nat.le_of_ble_eq_true rfl), fun pl hpl => q _ _ ((same_new hpa).trans (same_new hpl)) ⟨pl, pa, rfl, upd_same, same_new hpl _ _ upd_same⟩⟩⟩
theorem ev_put {te tp : L2.TE} {p p' : Pg} {T T' : List (List Str)} {z : Str} {b : Bd} {ns : List Str} (L : LitK p T) (L' : LitK p' T') (h : Ev te σ H0 (PrV K C p)) (hb : Ev tp σ H0 fun H v => BdAt 5 H v b) (hz : z ∈ names p) (nz : nameB z = true) (g : prgB (setP p z b) = true) (hn : (names (setP p z b)).Nodup)
    (pm : (names (setP p z b)).isPerm ns = true) (ep : (ns.map fun y => (y, bodyOf (setP p z b) y)) = p') : Ev (tCall (spPut K C) [] E (tCons te (tCons (tTup (tCons (tC (.str z)) (tCons (tTup tNil) tNil))) (tCons tp tNil)))) σ H0 (PrV K C p') := fun H Q s q =>
  h H _ s fun v H1 s1 ⟨x, e, i⟩ => by
    subst e
    refine ev_place (z := z) (σ := σ) H1 _ (Same.refl _) fun v2 H2 s2 ⟨pl, pa, e2, h1, h2⟩ => ?_
    subst e2
    refine hb H2 _ (s.trans (s1.trans s2)) fun u H3 s3 r3 => ?_
    exact ⟨x, pl, u, p, z, b, rfl, ⟨pa, i.same (s2.trans s3), L.nd, hz, s3 _ _ h1, s3 _ _ h2⟩, L.prg.1.2, nz, r3, prgB_ok g, newq L' hn pm ep fun v H' s4 r => q _ _ (s1.trans (s2.trans (s3.trans s4))) r⟩
theorem ev_or {te tp : L2.TE} {p r p' : Pg} {T1 T2 T' : List (List Str)} {ns : List Str} (L1 : LitK p T1) (L2 : LitK r T2) (L' : LitK p' T') (h : Ev te σ H0 (PrV K C p)) (hb : Ev tp σ H0 (PrV K C r)) (g : prgB (p ++ r) = true) (hn : (names (p ++ r)).Nodup)
    (pm : (names (p ++ r)).isPerm ns = true) (ep : (ns.map fun y => (y, bodyOf (p ++ r) y)) = p') : Ev (tOp (rOw2 C (spOro K C) E) te tp) σ H0 (PrV K C p') := fun H Q s q =>
  h H _ s fun v H1 s1 ⟨x, e, i⟩ => by
    subst e
    refine hb H1 _ (s.trans s1) fun u H2 s2 ⟨y, e2, j⟩ => ?_
    subst e2
    have i2 := i.same s2
    obtain ⟨dx, _, _, _, _, _, _, hx, _⟩ := i2
    obtain ⟨dy, _, _, _, _, _, _, hy, _⟩ := id j
    exact ⟨x, y, dx, dy, _, _, rfl, rfl, hx, hy, x, y, p, r, rfl, i.same s2, j, hn, prgB_ok g, newq L' hn pm ep fun v H' s4 r => q _ _ (s1.trans (s2.trans s4)) r⟩
theorem ev_wtt {te : L2.TE} {p p' : Pg} {T T' : List (List Str)} {z : Str} {ns : List Str} (L : LitK p T) (L' : LitK p' T') (h : Ev te σ H0 (PrV K C p)) (hz : z ∈ names p) (g : prgB (lessP p z) = true) (hc : ((lessP p z).all fun y => !decide (z ∈ callsOf y.2)) = true) (hn : (names (lessP p z)).Nodup)
    (pm : (names (lessP p z)).isPerm ns = true) (ep : (ns.map fun y => (y, bodyOf (lessP p z) y)) = p') : Ev (tMeth C "without" (spWtt K C) [] E te (tCons (tC (.str z)) tNil)) σ H0 (PrV K C p') := fun H Q s q =>
  h H _ s fun v H1 s1 ⟨x, e, i⟩ => by
    subst e
    obtain ⟨dx, _, _, _, _, _, _, hx, _⟩ := id i
    have nc : ∀ y ∈ lessP p z, z ∉ callsOf y.2 := fun y hy c => by
      have := List.all_eq_true.mp hc y hy
      rw [decide_eq_true c] at this
      cases this
    exact ⟨x, dx, _, rfl, hx, rfl, x, z, p, rfl, i, L.nd, hz, L.prg, prgB_ok g, nc, newq L' hn pm ep fun v H' s4 r => q _ _ (s1.trans s4) r⟩
/-- data that is written -/
theorem evd_str (z : Str) : Ev (tC (.str z)) σ H0 fun H v => Dp K H v (.str z) := fun H Q s q => q _ _ (Same.refl _) (.str z)
theorem evd_nil : EvL tNil σ H0 fun H vs => DpAll K H vs [] := fun H Q _ q => q [] H (Same.refl _) .nil
theorem evd_cons {te : L2.TE} {ta : L2.TA} {d : PyData} {ds : List PyData} (h1 : Ev te σ H0 fun H v => Dp K H v d) (h2 : EvL ta σ H0 fun H vs => DpAll K H vs ds) : EvL (tCons te ta) σ H0 fun H vs => DpAll K H vs (d :: ds) := fun H Q s q =>
  h1 H _ s fun v H1 s1 r1 => h2 H1 _ (s.trans s1) fun vs H2 s2 r2 => q (v :: vs) H2 (s1.trans s2) (.cons (dp_same s2 r1) r2)
theorem evd_tup {ta : L2.TA} {ds : List PyData} (h : EvL ta σ H0 fun H vs => DpAll K H vs ds) (l : ds.length ≤ 1000) : Ev (tTup ta) σ H0 fun H v => Dp K H v (.tuple ds) := fun H Q s q =>
  h H _ s fun vs H1 s1 r => ⟨Nat.le_of_lt (small1000 (by rw [dpAll_len r]; exact l)), fun p hp => q _ _ (s1.trans (same_new hp)) (.tup (SqT.of upd_same) (dpAll_same (same_new hp) r))⟩
theorem evd_lst {ta : L2.TA} {ds : List PyData} (h : EvL ta σ H0 fun H vs => DpAll K H vs ds) (l : ds.length ≤ 1000) : Ev (tLst ta) σ H0 (LsD K ds) := fun H Q s q =>
  h H _ s fun vs H1 s1 r => ⟨Nat.le_of_lt (small1000 (by rw [dpAll_len r]; exact l)), fun p hp => q _ _ (s1.trans (same_new hp)) ⟨p, vs, rfl, upd_same, dpAll_same (same_new hp) r⟩⟩
theorem evd_cat {te tp : L2.TE} {ds es : List PyData} (h : Ev te σ H0 (LsD K ds)) (h2 : Ev tp σ H0 (LsD K es)) (l : ds.length + es.length ≤ 1000) : Ev (tOp rCat te tp) σ H0 (LsD K (ds ++ es)) := fun H Q s q =>
  h H _ s fun v H1 s1 r1 => h2 H1 _ (s.trans s1) fun u H2 s2 r2 => by
    obtain ⟨a, xs, rfl, ha, ga⟩ := r1.same s2
    obtain ⟨b, ys, rfl, hb, gb⟩ := r2
    exact ⟨a, b, xs, ys, rfl, rfl, ha, hb, Nat.le_of_lt (small1000 (by rw [dpAll_len ga, dpAll_len gb]; exact l)), fun p hp => q _ _ (s1.trans (s2.trans (same_new hp))) ⟨p, _, rfl, upd_same, dpAll_same (same_new hp) (dpAll_app ga gb)⟩⟩
theorem evd_dp {te : L2.TE} {ds : List PyData} (h : Ev te σ H0 (LsD K ds)) : Ev te σ H0 fun H v => Dp K H v (.list ds) := h.imp fun _ _ r => r.dp
theorem evd_eq {te tp : L2.TE} {d : PyData} (h : Ev te σ H0 fun H v => Dp K H v d) (h2 : Ev tp σ H0 fun H v => Dp K H v d) (pl : PlainD d) : Ev (tOp (rEqP K) te tp) σ H0 fun _ v => v = .bl true := fun H Q s q =>
  h H _ s fun v H1 s1 r1 => h2 H1 _ (s.trans s1) fun u H2 s2 r2 => ⟨d, d, dp_same s2 r1, r2, pl, pl, q _ _ (s1.trans s2) (by rw [eqv_self pl.1])⟩
/-- tests that are false -/
def EvF (tt : L2.TT) (σ : L2.St) (H0 : Hp) : Prop := ∀ (H : Hp) (Q : Bool → Hp → Prop), Same H0 H → (∀ H', Same H H' → Q false H') → tt σ H Q
theorem evf_ne {te tp : L2.TE} {d : PyData} (h : Ev te σ H0 fun H v => Dp K H v d) (h2 : Ev tp σ H0 fun H v => Dp K H v d) (pl : PlainD d) : EvF (tTest (tOp (rNeP K) te tp)) σ H0 := fun H Q s q =>
  h H _ s fun v H1 s1 r1 => h2 H1 _ (s.trans s1) fun u H2 s2 r2 => ⟨d, d, dp_same s2 r1, r2, pl, pl, _, rfl, by rw [eqv_self pl.1]; exact q _ (s1.trans s2)⟩
theorem evf_or {t u : L2.TT} (h : EvF t σ H0) (h2 : EvF u σ H0) : EvF (tOr t u) σ H0 := fun H Q s q =>
  h H _ s fun H1 s1 => iteF (h2 H1 _ (s.trans s1) fun H2 s2 => q _ (s1.trans s2))
theorem seq_if {tt : L2.TT} {t u : TS} {D : Ends} {H : Hp} (h : EvF tt σ H) (k : ∀ H', Same H H' → u D σ H') : tSeq (tIfS tt t tNext) u D σ H := h H _ (Same.refl _) fun H' s => iteF (k H' s)
theorem seq_set {u : TS} {D : Ends} {H : Hp} {i : Nat} {te : L2.TE} {R : Hp → V → Prop} (h : Ev te σ H R) (k : ∀ v H', Same H H' → R H' v → u D (σ.set i (some v)) H') : tSeq (tAsg te (gName i)) u D σ H := h H _ (Same.refl _) k
theorem seq_par {u : TS} {D : Ends} {H : Hp} {i j : Nat} {ta tb : L2.TE} {Ra Rb : Hp → V → Prop} (h : Ev ta σ H Ra) (h2 : Ev tb σ H Rb) (k : ∀ v w H1 H2, Same H H1 → Same H1 H2 → Ra H1 v → Rb H2 w → u D ((σ.set i (some v)).set j (some w)) H2) : tSeq (tPar i j (tCons ta (tCons tb tNil))) u D σ H :=
  h H _ (Same.refl _) fun v H1 s1 r1 => h2 H1 _ s1 fun w H2 s2 r2 => ⟨v, w, rfl, k v w H1 H2 s1 s2 r1 r2⟩
theorem ret_ev {D : Ends} {H : Hp} {te : L2.TE} {R : Hp → V → Prop} (h : Ev te σ H R) (k : ∀ v H', Same H H' → R H' v → D.rt v H') : tRet te D σ H := h H _ (Same.refl _) k
end
end FR
set_option Elab.async false
set_option pp.maxSteps 700
set_option linter.all false
set_option maxRecDepth 100000
set_option maxHeartbeats 1000000
/-! law -/
namespace FR
open PySem PySem.Spec PyProof.Rows L2 LD
abbrev sLaw : Stmt := FR.top 61
abbrev NLaw : List Str := ["_law_script", "_law_at", "_law_dice_here", "_law_bodies_here", "_law_thing", "_law_calls", "_law_ladder", "_law_apart", "_law_deep", "_law_old", "_law_one", "_law_told_here", "_law_due"]
theorem scLaw : FnScope NLaw ["_law_script"] (defScope sLaw) := ⟨rfl, rfl, rfl, by decide +kernel, rfl, by decide +kernel, by decide +kernel⟩
abbrev abcd : List Str := ["a", "b", "c", "d"]
theorem abcd_at {i : Nat} {c} (h : ("abcd" : Str).cps[i]? = some c) : abcd[i]? = some ⟨#[c]⟩ := by
  have n : ("abcd" : Str).cps.size = 4 := by decide +kernel
  have li : i < 4 := by rw [← n]; exact (Array.getElem?_eq_some_iff.mp h).1
  have key : ((List.range 4).all fun i => match ("abcd" : Str).cps[i]? with
    | some c => decide (abcd[i]? = some ⟨#[c]⟩)
    | none => true) = true := by decide +kernel
  have := List.all_eq_true.mp key i (List.mem_range.mpr li)
  rw [h] at this
  exact of_decide_eq_true this
/-- != of two dicts of the same bodies -/
theorem ne_perm {K : PySem.W.Frag} {H : Hp} {a b : Addr} {ks ls : List (Key × V)} {q p : Pg} {Q : VK} (ha : H a = some (.dK ks)) (hb : H b = some (.dK ls)) (hk : PrgK H ks q) (hl : PrgK H ls p) (hn : (names p).Nodup) (pm : q.Perm p) (qq : Q (.bl false) H) : rNeKD K (.ref a) (.ref b) H Q := by
  obtain ⟨r, hits, hr⟩ := PrgK.eq_hits (K := K) hl hn hk
  have er : r = true := hr.mpr fun x hx => ⟨List.mem_map.mpr ⟨x, pm.mem_iff.mp hx, rfl⟩, by rw [bodyOf_mem hn (pm.mem_iff.mp hx)]; exact eqv_self (plainB 5 _)⟩
  refine ⟨a, b, ks, ls, r, rfl, rfl, ha, hb, fun _ => hits, ?_⟩
  rw [er, hk.1, hl.1, pm.length_eq, beq_self_eq_true]
  exact qq
section
variable {P : Program} {w : World} {K : PySem.W.Frag} {mg : Str → Option Value} {base : Heap}
structure TxtLw (mg : Str → Option Value) : Prop where
  range : mg "range" = none
  max : mg "max" = none
  min : mg "min" = none
  len : mg "len" = none
def spLaw (K : PySem.W.Frag) : Sp := fun vs H Q _ => ∃ (a : Addr) (ns : List Int), vs = [.ref a] ∧ SqL K H a (ns.map V.int) ∧ ∀ H', Q (.bl true) H'
theorem ok_law {f fi C CG : Addr} {fd : FuncData} (F : Fun K "law" "law" sLaw f fd) (R : PgC K C) (T : TxtLw mg) (mC : mg "Program" = some (.ref C)) (M : Mk K C fi) (sf : PySem.W.selfFirst K C = true)
    (G1 : FnRs P w K mg base 13 fi ["d", "c", "a", "b"] (spPi K C CG)) (G2 : FnRs P w K mg base 13 fi ["c", "b", "d", "a"] (spPi K C CG)) (G3 : FnRs P w K mg base 13 fi ["a", "c"] (spPi K C CG)) (G4 : FnRs P w K mg base 13 fi ["b", "c", "d"] (spPi K C CG)) (G5 : FnRs P w K mg base 13 fi ["a", "b"] (spPi K C CG)) (G6 : FnRs P w K mg base 13 fi ["c"] (spPi K C CG))
    (gO : OfG P w K mg base C) (gD : Glo P w K mg base "_law_dice" 1 ["_law_script", "_law_at"] (spDice K)) (gLo : Glo P w K mg base "_law_bodies" 10 ["_law_dice_here", "_law_much", "_law_extra"] spLo) (gHn : Glo P w K mg base "_law_chain" 3 ["_law_dice_here"] spHn)
    (gTl : Glo P w K mg base "_law_told" 14 ["_law_thing", "_law_bodies_here"] (spTl K C)) (pB : PMet P w K mg base C "bodies" 1 ["self"] (spBo K C)) (gKs : Glo P w K mg base "knots" 12 ["free"] (spKs K C)) (gRa : Glo P w K mg base "reaches" 10 ["free", "name"] (spRa K C)) (gKo : Glo P w K mg base "knot_of" 13 ["free", "name"] (spKo K C))
    (gPut : Glo P w K mg base "put_at" 17 ["free", "place", "part"] (spPut K C)) (mOr : Met P w K mg base C "__or__" 16 ["self", "other"] (spOro K C)) (mWt : Met P w K mg base C "without" 16 ["self", "name"] (spWtt K C)) : FnOk P w K mg base CX0 18 f fd ["_law_script"] (spLaw K) := by
  refine F.ok scLaw (fun vs H Q E h => ?_) (fun cdv A outer s H vs Q E hr h => ?_)
  · obtain ⟨a, ns, rfl, _⟩ := h
    rfl
  · obtain ⟨a, ns, rfl, hs, q⟩ := h
    refine ⟨_, (pss_cons (ps_for PassesOwn.never rfl (pi_range1 (by rfl) T.range (pa_cons (pe_callB (call_max2 rfl) (by rfl) T.max (by decide +kernel) (pa_cons pe_int (pa_cons (pe_callB (call_min2 rfl) (by rfl) T.min (by decide +kernel) (pa_cons pe_int (pa_cons (pe_callB call_len_seq (by rfl) T.len PySem.boot_len (pa_cons (pv 0) pa_nil)) pa_nil))) pa_nil))) pa_nil)) (pg_name (i := 1) scLaw.nd rfl (.inl rfl)) (pss_cons (ps_set (i := 2) scLaw.nd rfl (Or.inl rfl) (pe_call gD.G (hr.mono (by decide)) (by rfl) gD.m gD.k gD.b .nil pass0 (pa_cons (pv 0) (pa_cons (pv 1) pa_nil))))
      (pss_one (ps_for PassesOwn.never rfl (pi_tup (pe_tup (pa_cons (pe_call gLo.G (hr.mono (by decide)) (by rfl) gLo.m gLo.k gLo.b .nil pass0 (pa_cons (pv 2) (pa_cons pe_int (pa_cons (pe_lst (pa_cons pe_str (pa_cons pe_str pa_nil))) pa_nil)))) (pa_cons (pe_call gHn.G (hr.mono (by decide)) (by rfl) gHn.m gHn.k gHn.b .nil pass0 (pa_cons (pv 2) pa_nil)) pa_nil)))) (pg_name (i := 3) scLaw.nd rfl (.inl rfl)) (pss_cons (ps_set (i := 4) scLaw.nd rfl (Or.inl rfl) (pe_smeth (pe_glob (v := .ref C) (by rfl) mC rfl) gO.rC gO.sO gO.G (hr.mono (by decide)) gO.b .nil pass0 (pa_cons (pv 3) pa_nil)))
      (pss_one (ps_if (PW.pt (pw_or (pt_not (pt_val (pe_call gTl.G (hr.mono (by decide)) (by rfl) gTl.m gTl.k gTl.b .nil pass0 (pa_cons (pv 4) (pa_cons (pv 3) pa_nil))))) (pw_or1 (pt_cmpR (op_neKD (K := K) rfl hr.units) (pe_prop (pv 4) R.cl pB.o pB.G (hr.mono (by decide)) pB.b .nil pass0 rfl) (pv 3) (nomark _))))) (pss_one (ps_ret pe_bl)) pss_nil)))))))
      (pss_cons (ps_setLc (i := 5) (X := (cxOf CX0 P w K mg base NLaw "law" (defScope sLaw) f cdv A outer s H E).nox) (own := [("_law_one", 10)]) (g := (gName 10)) (tt := tYes) rfl scLaw.nd rfl rfl (sw_true rfl rfl rfl (by decide +kernel)) (pi_str pe_str) (blkOk_by (N := NLaw) (sc := defScope sLaw) (by decide +kernel)) (fun _ _ _ _ _ => (pg_name (i := 10) scLaw.nd rfl (.inl rfl))) (fun _ _ _ _ _ => pts_nil) (fun _ _ _ _ _ => (pe_tup (pa_cons pe_str (pa_cons (pv 10) pa_nil)))))
      (pss_cons (ps_set (i := 6) scLaw.nd rfl (Or.inl rfl) (pe_makeRs M G1 (hr.mono (by decide)) (by rfl) mC (pk_cons (pe_tup (pa_cons (pe_ix ix_list (pv 5) pe_int (fun _ _ => rfl)) pa_nil)) (pk_cons (pe_tup (pa_cons (pe_ix ix_list (pv 5) pe_int (fun _ _ => rfl)) (pa_cons (pe_ix ix_list (pv 5) pe_int (fun _ _ => rfl)) pa_nil))) (pk_cons (pe_tup pa_nil) (pk_cons (pe_tup (pa_cons (pe_ix ix_list (pv 5) pe_int (fun _ _ => rfl)) (pa_cons (pe_ix ix_list (pv 5) pe_int (fun _ _ => rfl)) pa_nil))) pk_nil))))))
      (pss_cons (ps_if (PW.pt (pw_or (pt_cmpR (op_neP (K := K) rfl hr.units) (pe_call gKs.G (hr.mono (by decide)) (by rfl) gKs.m gKs.k gKs.b .nil pass0 (pa_cons (pv 6) pa_nil)) (pe_tup (pa_cons (pe_tup (pa_cons pe_str pa_nil)) (pa_cons (pe_tup (pa_cons pe_str (pa_cons pe_str pa_nil))) (pa_cons (pe_tup (pa_cons pe_str pa_nil)) pa_nil)))) (nomark _)) (pw_or1 (pt_cmpR (op_neP (K := K) rfl hr.units) (pe_call gRa.G (hr.mono (by decide)) (by rfl) gRa.m gRa.k gRa.b .nil pass0 (pa_cons (pv 6) (pa_cons pe_str pa_nil))) (pe_tup (pa_cons pe_str (pa_cons pe_str (pa_cons pe_str (pa_cons pe_str pa_nil))))) (nomark _))))) (pss_one (ps_ret pe_bl)) pss_nil)
      (pss_cons (ps_set (i := 7) scLaw.nd rfl (Or.inl rfl) (pe_makeRs M G2 (hr.mono (by decide)) (by rfl) mC (pk_cons (pe_tup (pa_cons (pe_ix ix_list (pv 5) pe_int (fun _ _ => rfl)) pa_nil)) (pk_cons (pe_tup (pa_cons (pe_ix ix_list (pv 5) pe_int (fun _ _ => rfl)) pa_nil)) (pk_cons (pe_tup (pa_cons (pe_ix ix_list (pv 5) pe_int (fun _ _ => rfl)) pa_nil)) (pk_cons (pe_tup (pa_cons (pe_tup (pa_cons pe_str (pa_cons (pe_tup pa_nil) (pa_cons (pe_tup (pa_cons (pe_ix ix_list (pv 5) pe_int (fun _ _ => rfl)) pa_nil)) pa_nil)))) pa_nil)) pk_nil))))))
      (pss_cons (ps_if (PW.pt (pw_or (pt_cmpR (op_neP (K := K) rfl hr.units) (pe_call gKs.G (hr.mono (by decide)) (by rfl) gKs.m gKs.k gKs.b .nil pass0 (pa_cons (pv 7) pa_nil)) (pe_tup (pa_cons (pe_tup (pa_cons pe_str pa_nil)) (pa_cons (pe_tup (pa_cons pe_str pa_nil)) (pa_cons (pe_tup (pa_cons pe_str pa_nil)) (pa_cons (pe_tup (pa_cons pe_str pa_nil)) pa_nil))))) (nomark _)) (pw_or1 (pt_cmpR (op_neP (K := K) rfl hr.units) (pe_call gKo.G (hr.mono (by decide)) (by rfl) gKo.m gKo.k gKo.b .nil pass0 (pa_cons (pv 6) (pa_cons pe_str pa_nil))) (pe_tup (pa_cons pe_str (pa_cons pe_str pa_nil))) (nomark _))))) (pss_one (ps_ret pe_bl)) pss_nil)
      (pss_cons (ps_if (PW.pt (pw_or (pt_cmpR (op_neP (K := K) rfl hr.units) (pe_call gRa.G (hr.mono (by decide)) (by rfl) gRa.m gRa.k gRa.b .nil pass0 (pa_cons (pv 7) (pa_cons pe_str pa_nil))) (pe_tup (pa_cons pe_str pa_nil)) (nomark _)) (pw_or (pt_cmpR (op_neP (K := K) rfl hr.units) (pe_call gKo.G (hr.mono (by decide)) (by rfl) gKo.m gKo.k gKo.b .nil pass0 (pa_cons (pv 7) (pa_cons pe_str pa_nil))) (pe_tup (pa_cons pe_str pa_nil)) (nomark _)) (pw_or1 (pt_cmpR (op_neP (K := K) rfl hr.units) (pe_call gRa.G (hr.mono (by decide)) (by rfl) gRa.m gRa.k gRa.b .nil pass0 (pa_cons (pv 7) (pa_cons pe_str pa_nil))) (pe_tup (pa_cons pe_str (pa_cons pe_str pa_nil))) (nomark _)))))) (pss_one (ps_ret pe_bl)) pss_nil)
      (pss_cons (ps_set (i := 8) scLaw.nd rfl (Or.inl rfl) (pe_tup (pa_cons pe_str (pa_cons (pe_tup (pa_cons pe_int (pa_cons (pe_tup pa_nil) pa_nil))) (pa_cons (pe_tup (pa_cons pe_int (pa_cons (pe_tup (pa_cons (pe_tup (pa_cons pe_str (pa_cons pe_int (pa_cons pe_int (pa_cons (pe_tup (pa_cons (pe_tup (pa_cons pe_str (pa_cons (pe_tup pa_nil) (pa_cons (pe_tup (pa_cons (pe_tup (pa_cons pe_str (pa_cons (pe_tup (pa_cons pe_int (pa_cons (pe_tup pa_nil) pa_nil))) (pa_cons (pe_tup (pa_cons pe_int (pa_cons (pe_tup (pa_cons (pe_ix ix_list (pv 5) pe_int (fun _ _ => rfl)) pa_nil)) pa_nil))) pa_nil)))) pa_nil)) pa_nil)))) pa_nil)) pa_nil))))) pa_nil)) pa_nil))) pa_nil)))))
      (pss_cons (ps_if (pt_cmpR (op_neP (K := K) rfl hr.units) (pe_call gKs.G (hr.mono (by decide)) (by rfl) gKs.m gKs.k gKs.b .nil pass0 (pa_cons (pe_makeRs M G3 (hr.mono (by decide)) (by rfl) mC (pk_cons (pe_tup (pa_cons (pv 8) pa_nil)) (pk_cons (pe_tup (pa_cons (pe_ix ix_list (pv 5) pe_int (fun _ _ => rfl)) pa_nil)) pk_nil))) pa_nil)) (pe_tup (pa_cons (pe_tup (pa_cons pe_str (pa_cons pe_str pa_nil))) pa_nil)) (nomark _)) (pss_one (ps_ret pe_bl)) pss_nil)
      (pss_cons (ps_if (pt_cmpR (op_neP (K := K) rfl hr.units) (pe_call gKs.G (hr.mono (by decide)) (by rfl) gKs.m gKs.k gKs.b .nil pass0 (pa_cons (pe_makeRs M G4 (hr.mono (by decide)) (by rfl) mC (pk_cons (pe_tup (pa_cons (pe_ix ix_list (pv 5) pe_int (fun _ _ => rfl)) pa_nil)) (pk_cons (pe_tup pa_nil) (pk_cons (pe_tup pa_nil) pk_nil)))) pa_nil)) (pe_tup (pa_cons (pe_tup (pa_cons pe_str pa_nil)) (pa_cons (pe_tup (pa_cons pe_str pa_nil)) (pa_cons (pe_tup (pa_cons pe_str pa_nil)) pa_nil)))) (nomark _)) (pss_one (ps_ret pe_bl)) pss_nil)
      (pss_cons (ps_par (i := 9) (j := 10) (by rfl) scLaw.nd rfl rfl (by decide) rfl rfl (pa_cons (pe_makeRs M G5 (hr.mono (by decide)) (by rfl) mC (pk_cons (pe_tup (pa_cons (pe_ix ix_list (pv 5) pe_int (fun _ _ => rfl)) pa_nil)) (pk_cons (pe_tup pa_nil) pk_nil))) (pa_cons (pe_makeRs M G6 (hr.mono (by decide)) (by rfl) mC (pk_cons (pe_tup pa_nil) pk_nil)) pa_nil)) (by rfl))
      (pss_cons (ps_set (i := 11) scLaw.nd rfl (Or.inl rfl) (pe_lst (pa_cons (pe_call gKs.G (hr.mono (by decide)) (by rfl) gKs.m gKs.k gKs.b .nil pass0 (pa_cons (pv 9) pa_nil)) (pa_cons (pe_call gKs.G (hr.mono (by decide)) (by rfl) gKs.m gKs.k gKs.b .nil pass0 (pa_cons (pe_call gPut.G (hr.mono (by decide)) (by rfl) gPut.m gPut.k gPut.b .nil pass0 (pa_cons (pv 9) (pa_cons (pe_tup (pa_cons pe_str (pa_cons (pe_tup pa_nil) pa_nil))) (pa_cons (pe_tup (pa_cons (pe_ix ix_list (pv 5) pe_int (fun _ _ => rfl)) pa_nil)) pa_nil)))) pa_nil)) (pa_cons (pe_call gKs.G (hr.mono (by decide)) (by rfl) gKs.m gKs.k gKs.b .nil pass0 (pa_cons (pe_op (op_own2 mOr.D sf mOr.G (hr.mono (by decide)) mOr.b pass0) (pv 9) (pv 10)) pa_nil)) (pa_cons (pe_call gKs.G (hr.mono (by decide)) (by rfl) gKs.m gKs.k gKs.b .nil pass0 (pa_cons (pv 10) pa_nil)) (pa_cons (pe_call gKs.G (hr.mono (by decide)) (by rfl) gKs.m gKs.k gKs.b .nil pass0 (pa_cons (pe_op (op_own2 mOr.D sf mOr.G (hr.mono (by decide)) mOr.b pass0) (pv 10) (pv 9)) pa_nil)) pa_nil)))))))
      (pss_cons (ps_set (i := 11) scLaw.nd rfl (Or.inl rfl) (pe_op op_cat (pv 11) (pe_lst (pa_cons (pe_call gKs.G (hr.mono (by decide)) (by rfl) gKs.m gKs.k gKs.b .nil pass0 (pa_cons (pe_meth (pv 9) R.cl ⟨mWt.D.at_, mWt.D.fn, mWt.kp⟩ mWt.G (hr.mono (by decide)) mWt.b .nil pass0 (pa_cons pe_str pa_nil)) pa_nil)) (pa_cons (pe_call gRa.G (hr.mono (by decide)) (by rfl) gRa.m gRa.k gRa.b .nil pass0 (pa_cons (pe_call gPut.G (hr.mono (by decide)) (by rfl) gPut.m gPut.k gPut.b .nil pass0 (pa_cons (pv 9) (pa_cons (pe_tup (pa_cons pe_str (pa_cons (pe_tup pa_nil) pa_nil))) (pa_cons (pe_tup (pa_cons (pe_ix ix_list (pv 5) pe_int (fun _ _ => rfl)) pa_nil)) pa_nil)))) (pa_cons pe_str pa_nil))) (pa_cons (pe_call gRa.G (hr.mono (by decide)) (by rfl) gRa.m gRa.k gRa.b .nil pass0 (pa_cons (pv 9) (pa_cons pe_str pa_nil))) pa_nil))))))
      (pss_cons (ps_set (i := 12) scLaw.nd rfl (Or.inl rfl) (pe_lst (pa_cons (pe_tup (pa_cons (pe_tup (pa_cons pe_str pa_nil)) (pa_cons (pe_tup (pa_cons pe_str pa_nil)) pa_nil))) (pa_cons (pe_tup (pa_cons (pe_tup (pa_cons pe_str (pa_cons pe_str pa_nil))) pa_nil)) (pa_cons (pe_tup (pa_cons (pe_tup (pa_cons pe_str pa_nil)) (pa_cons (pe_tup (pa_cons pe_str pa_nil)) (pa_cons (pe_tup (pa_cons pe_str pa_nil)) pa_nil)))) (pa_cons (pe_tup (pa_cons (pe_tup (pa_cons pe_str pa_nil)) pa_nil)) (pa_cons (pe_tup (pa_cons (pe_tup (pa_cons pe_str pa_nil)) (pa_cons (pe_tup (pa_cons pe_str pa_nil)) (pa_cons (pe_tup (pa_cons pe_str pa_nil)) pa_nil)))) pa_nil)))))))
      (pss_one (ps_ret (pe_cmpR (op_eqP (K := K) rfl hr.units) (pv 11) (pe_op op_cat (pv 12) (pe_lst (pa_cons (pe_tup (pa_cons (pe_tup (pa_cons pe_str pa_nil)) pa_nil)) (pa_cons (pe_tup (pa_cons pe_str (pa_cons pe_str pa_nil))) (pa_cons (pe_tup (pa_cons pe_str pa_nil)) pa_nil))))) (nomark _)))))))))))))))))), ?_⟩
    refine ⟨_, rfl, a, _, rfl, .inl hs, _, _, rfl, _, _, rfl, _, rfl, by split <;> (try split) <;> omega, by split <;> (try split) <;> omega, ?_⟩
    refine for_range (fun i σ Hc => (∃ x1 x2 x3 x4 : Option V, σ = [some (.ref a), x1, x2, x3, x4, none, none, none, none, none, none, none, none]) ∧ Same H Hc) ⟨⟨_, _, _, _, rfl⟩, Same.refl H⟩ ?_ ?_
    · rintro i σ Hc hi ⟨⟨x1, x2, x3, x4, rfl⟩, sm⟩
      refine ⟨_, rfl, _, rfl, a, ns, i, _, rfl, by omega, sm.seq hs, fun d x y z nd => ?_⟩
      have r0 : Rl d (upd Hc d (.lst (dxs x y z))) (upd Hc d (.lst (dxs x y z))) := Rl.refl ⟨_, _, _, upd_same⟩
      refine ⟨_, rfl, small1000 (Nat.le_of_ble_eq_true rfl), fun le hle => ?_⟩
      have r1 := r0.same (same_new (o := .lst ((["stay", "choose"] : List Str).map V.str)) hle)
      refine ⟨d, le, 5, ["stay", "choose"], rfl, by decide, by decide, r1.1, upd_same, by decide, fun b0 kvs0 p0 H1 nb0 r2 hb0 hk0 dr => ?_⟩
      refine ⟨_, rfl, d, rfl, r2.1, fun b1 kvs1 p1 H2 nb1 r3 hb1 hk1 hp1 hn1 => ?_⟩
      refine ⟨small1000 (Nat.le_of_ble_eq_true rfl), fun t ht => ?_⟩
      have hb0' : H2 b0 = some (.dK kvs0) := r3.2 _ _ (fun c => by
        obtain ⟨u1, u2, u3, e⟩ := r2.1
        rw [c, e] at hb0
        cases hb0) hb0
      have hk0' := (r3.tk r2.1).pg hk0
      have rA := r1.trans (r2.trans (r3.same (same_new (o := .tup [.ref b0, .ref b1]) ht)))
      have st := same_new (o := .tup [.ref b0, .ref b1]) ht
      have et : upd H2 t (.tup [.ref b0, .ref b1]) t = some (.tup [.ref b0, .ref b1]) := upd_same
      have both : ∀ (j : Nat) (v : V), ([V.ref b0, V.ref b1] : List V)[j]? = some v → ∃ b kvs p, v = .ref b ∧ upd H2 t (.tup [.ref b0, .ref b1]) b = some (.dK kvs) ∧ PrgK (upd H2 t (.tup [.ref b0, .ref b1])) kvs p ∧ Prg p ∧ (names p).Nodup := fun j v e => by
        match j, e with
        | 0, e => cases e; exact ⟨b0, kvs0, p0, rfl, st _ _ hb0', (Tk.same st).pg hk0', dr.prg, dr.nd⟩
        | 1, e => cases e; exact ⟨b1, kvs1, p1, rfl, st _ _ hb1, (Tk.same st).pg hk1, hp1, hn1⟩
      generalize upd H2 t (.tup [.ref b0, .ref b1]) = H3 at rA st et both ⊢
      refine ⟨t, rfl, ⟨_, SqT.of et⟩, ?_⟩
      refine for_it (walk_tup (xs := [V.ref b0, V.ref b1])) (fun j σ Hx => Same H3 Hx ∧ ∃ x3 x4 : Option V, σ = [some (.ref a), some (.int (0 + (i : Int))), some (.ref d), x3, x4, none, none, none, none, none, none, none, none]) ⟨Same.refl _, _, _, rfl⟩ (fun j σ Hx _ p' => SqT.of (p'.1 _ _ et)) ?_ ?_
      · rintro j v σ Hx0 Hx hj ⟨sx, x3, x4, rfl⟩ ⟨rfl, hv⟩
        obtain ⟨b, kvs, p, rfl, hb, hk, hp, hn⟩ := both j v hv
        have hb := sx _ _ hb
        have hk := (Tk.same sx).pg hk
        refine ⟨rfl, _, rfl, b, kvs, p, rfl, hb, hk, hp, hn, fun q1 x H4 q1p q1s nx s4 i4 f4 => ?_⟩
        have ap : Apart H4 x b := by
          obtain ⟨d', C', dx', r', e, n⟩ := f4
          exact ⟨d', C', dx', r', e, fun c => by rw [c, hb] at n; cases n⟩
        refine ⟨_, rfl, _, rfl, x, b, kvs, p, q1, rfl, i4, s4 _ _ hb, (Tk.same s4).pg hk, hp, hn, q1p, q1s, ap, fun H5 s5 => ?_⟩
        refine ⟨_, rfl, iteF ?_⟩
        have i5 := i4.same s5
        obtain ⟨dx, _, _, _, _, _, _, hx, _⟩ := id i5
        refine ⟨_, rfl, x, dx, _, rfl, hx, ?_⟩
        refine ⟨x, q1, rfl, i5, fun t2 kvs2 H6 nt2 s6 ht2 hk2 => ?_⟩
        have s46 := s4.trans (s5.trans s6)
        refine ⟨_, rfl, ne_perm ht2 (s46 _ _ hb) hk2 ((Tk.same s46).pg hk) hn q1p ⟨_, rfl, iteF ?_⟩⟩
        exact ⟨sx.trans s46, _, _, rfl⟩
      · rintro σ Hd ⟨sx, x3, x4, rfl⟩
        refine ⟨⟨_, _, _, _, rfl⟩, fun b o e => ?_⟩
        have hd0 : H d = none := none_of_same sm nd
        exact (rA.same sx).2 b o (ne_of_none e hd0) (same_new nd _ _ (sm _ _ e))
    rintro σ HA ⟨⟨x1, x2, x3, x4, rfl⟩, sm0⟩
    clear sm0 hs
    refine ⟨_, rfl, fun D hD => ?_⟩
    refine lc_it walk_str (fun i Hx => Same HA Hx ∧ ∃ ts, Hx D = some (.lst ts) ∧ AG (CallAt Hx) ts (abcd.take i)) ⟨same_new hD, [], upd_same, AG.nil⟩ (fun _ _ _ _ => True.intro) ?_ ?_
    · rintro i x Hx0 Hx hi ⟨sx, ts, hDx, g⟩ ⟨rfl, c, hc, rfl⟩
      have ez := abcd_at hc
      have l4 : ts.length ≤ 4 := by rw [g.1]; exact Nat.le_trans (List.length_take_le' _ _) (by decide)
      refine ⟨rfl, _, rfl, small1000 (Nat.le_of_ble_eq_true rfl), fun p hp => ?_⟩
      have sp := same_new (o := .tup [V.str "call", .str ⟨#[c]⟩]) hp
      refine ⟨_, sp _ _ hDx, small1000 (by omega), same_upd hD (sx.trans sp), _, upd_same, ?_⟩
      rw [take_snoc ez]
      have hl := sp _ _ hDx
      refine AG.snoc (g.imp fun v z ⟨y, e, hy⟩ => ⟨y, e, ?_⟩) ⟨p, rfl, ?_⟩
      · rw [upd_ne (fun c => by rw [c, hDx] at hy; cases hy)]
        exact sp _ _ hy
      · rw [upd_ne (fun c => by rw [c, hDx] at hp; cases hp)]
        exact upd_same
    rintro H1 ⟨sx, ts, hDx, g⟩
    rw [List.take_of_length_le (Nat.le_of_ble_eq_true (by decide +kernel))] at g
    have cA : CallsAt H1 D abcd := ⟨ts, hDx, g⟩
    clear sx hDx g hD
    refine seq_set (ev_make (ns := ["a", "b", "c", "d"]) lLad (evb_cons (ev_body (n := 4) (evs_cons (ev_ix (i := 5) (j := 2) (z := "c") rfl cA rfl rfl) evs_nil) (Nat.le_of_ble_eq_true rfl)) (evb_cons (ev_body (n := 4) (evs_cons (ev_ix (i := 5) (j := 3) (z := "d") rfl cA rfl rfl) (evs_cons (ev_ix (i := 5) (j := 0) (z := "a") rfl cA rfl rfl) evs_nil)) (Nat.le_of_ble_eq_true rfl)) (evb_cons (ev_body (n := 4) evs_nil (Nat.le_of_ble_eq_true rfl)) (evb_cons (ev_body (n := 4) (evs_cons (ev_ix (i := 5) (j := 2) (z := "c") rfl cA rfl rfl) (evs_cons (ev_ix (i := 5) (j := 1) (z := "b") rfl cA rfl rfl) evs_nil)) (Nat.le_of_ble_eq_true rfl)) evb_nil)))) (by decide +kernel) (by decide +kernel) rfl (by decide +kernel) rfl (by decide +kernel)) fun z6 H2 s2 rL => ?_
    replace cA := cA.same s2
    clear s2
    refine seq_if (evf_or (evf_ne  (ev_knots lLad (ev_var (i := 6) (R := PrV K C pLad) rfl fun _ h => rL.same h)) (evd_tup (evd_cons (evd_tup (evd_cons (evd_str "a") evd_nil) (Nat.le_of_ble_eq_true rfl)) (evd_cons (evd_tup (evd_cons (evd_str "c") (evd_cons (evd_str "d") evd_nil)) (Nat.le_of_ble_eq_true rfl)) (evd_cons (evd_tup (evd_cons (evd_str "b") evd_nil) (Nat.le_of_ble_eq_true rfl)) evd_nil))) (Nat.le_of_ble_eq_true rfl)) ⟨rfl, (by decide +kernel)⟩) (evf_ne (d := dT ["a", "b", "c", "d"]) (ev_ra (z := "b") (k := ["a", "b", "c", "d"]) lLad (ev_var (i := 6) (R := PrV K C pLad) rfl fun _ h => rL.same h) (by decide +kernel) (by decide +kernel)) (evd_tup (evd_cons (evd_str "a") (evd_cons (evd_str "b") (evd_cons (evd_str "c") (evd_cons (evd_str "d") evd_nil)))) (Nat.le_of_ble_eq_true rfl)) ⟨rfl, (by decide +kernel)⟩)) fun H3 s3 => ?_
    replace cA := cA.same s3
    replace rL := rL.same s3
    clear s3
    refine seq_set (ev_make (ns := ["a", "b", "c", "d"]) lApa (evb_cons (ev_body (n := 4) (evs_cons (ev_ix (i := 5) (j := 0) (z := "a") rfl cA rfl rfl) evs_nil) (Nat.le_of_ble_eq_true rfl)) (evb_cons (ev_body (n := 4) (evs_cons (ev_ix (i := 5) (j := 3) (z := "d") rfl cA rfl rfl) evs_nil) (Nat.le_of_ble_eq_true rfl)) (evb_cons (ev_body (n := 4) (evs_cons (ev_ix (i := 5) (j := 3) (z := "d") rfl cA rfl rfl) evs_nil) (Nat.le_of_ble_eq_true rfl)) (evb_cons (ev_body (n := 4) (evs_cons (ev_choose (evb_cons (ev_body (n := 3) evs_nil (Nat.le_of_ble_eq_true rfl)) (evb_cons (ev_body (n := 3) (evs_cons (ev_ix (i := 5) (j := 0) (z := "a") rfl cA rfl rfl) evs_nil) (Nat.le_of_ble_eq_true rfl)) evb_nil)) (Nat.le_of_ble_eq_true rfl)) evs_nil) (Nat.le_of_ble_eq_true rfl)) evb_nil)))) (by decide +kernel) (by decide +kernel) rfl (by decide +kernel) rfl (by decide +kernel)) fun z7 H4 s4 rA => ?_
    replace cA := cA.same s4
    replace rL := rL.same s4
    clear s4
    refine seq_if (evf_or (evf_ne  (ev_knots lApa (ev_var (i := 7) (R := PrV K C pApa) rfl fun _ h => rA.same h)) (evd_tup (evd_cons (evd_tup (evd_cons (evd_str "a") evd_nil) (Nat.le_of_ble_eq_true rfl)) (evd_cons (evd_tup (evd_cons (evd_str "c") evd_nil) (Nat.le_of_ble_eq_true rfl)) (evd_cons (evd_tup (evd_cons (evd_str "d") evd_nil) (Nat.le_of_ble_eq_true rfl)) (evd_cons (evd_tup (evd_cons (evd_str "b") evd_nil) (Nat.le_of_ble_eq_true rfl)) evd_nil)))) (Nat.le_of_ble_eq_true rfl)) ⟨rfl, (by decide +kernel)⟩) (evf_ne (d := dT ["c", "d"]) (ev_ko (z := "d") (k := ["c", "d"]) lLad (ev_var (i := 6) (R := PrV K C pLad) rfl fun _ h => rL.same h) (by decide +kernel) (by decide +kernel)) (evd_tup (evd_cons (evd_str "c") (evd_cons (evd_str "d") evd_nil)) (Nat.le_of_ble_eq_true rfl)) ⟨rfl, (by decide +kernel)⟩)) fun H5 s5 => ?_
    replace cA := cA.same s5
    replace rL := rL.same s5
    replace rA := rA.same s5
    clear s5
    refine seq_if (evf_or (evf_ne (d := dT ["a"]) (ev_ra (z := "a") (k := ["a"]) lApa (ev_var (i := 7) (R := PrV K C pApa) rfl fun _ h => rA.same h) (by decide +kernel) (by decide +kernel)) (evd_tup (evd_cons (evd_str "a") evd_nil) (Nat.le_of_ble_eq_true rfl)) ⟨rfl, (by decide +kernel)⟩) (evf_or (evf_ne (d := dT ["b"]) (ev_ko (z := "b") (k := ["b"]) lApa (ev_var (i := 7) (R := PrV K C pApa) rfl fun _ h => rA.same h) (by decide +kernel) (by decide +kernel)) (evd_tup (evd_cons (evd_str "b") evd_nil) (Nat.le_of_ble_eq_true rfl)) ⟨rfl, (by decide +kernel)⟩) (evf_ne (d := dT ["b", "d"]) (ev_ra (z := "b") (k := ["b", "d"]) lApa (ev_var (i := 7) (R := PrV K C pApa) rfl fun _ h => rA.same h) (by decide +kernel) (by decide +kernel)) (evd_tup (evd_cons (evd_str "b") (evd_cons (evd_str "d") evd_nil)) (Nat.le_of_ble_eq_true rfl)) ⟨rfl, (by decide +kernel)⟩))) fun H6 s6 => ?_
    replace cA := cA.same s6
    clear s6 rL rA
    refine seq_set (R := fun H v => StAt 4 H v sDeep) (ev_toss (evr_cons (ev_row (ev_body (n := 3) evs_nil (Nat.le_of_ble_eq_true rfl))) (evr_cons (ev_row (ev_body (n := 3) (evs_cons (ev_again (ev_body (n := 2) (evs_cons (ev_choose (evb_cons (ev_body (n := 1) evs_nil (Nat.le_of_ble_eq_true rfl)) (evb_cons (ev_body (n := 1) (evs_cons (ev_toss (evr_cons (ev_row (ev_body (n := 0) evs_nil (Nat.le_of_ble_eq_true rfl))) (evr_cons (ev_row (ev_body (n := 0) (evs_cons (ev_ix (i := 5) (j := 2) (z := "c") rfl cA rfl rfl) evs_nil) (Nat.le_of_ble_eq_true rfl))) evr_nil)) (Nat.le_of_ble_eq_true rfl)) evs_nil) (Nat.le_of_ble_eq_true rfl)) evb_nil)) (Nat.le_of_ble_eq_true rfl)) evs_nil) (Nat.le_of_ble_eq_true rfl))) evs_nil) (Nat.le_of_ble_eq_true rfl))) evr_nil)) (Nat.le_of_ble_eq_true rfl)) fun z8 H7 s7 rD => ?_
    replace cA := cA.same s7
    clear s7
    refine seq_if (evf_ne  (ev_knots lDee (ev_make (ns := ["a", "c"]) lDee (evb_cons (ev_body (n := 4) (evs_cons (ev_var (i := 8) (R := fun H v => StAt 4 H v sDeep) rfl fun _ h => rD.same h) evs_nil) (Nat.le_of_ble_eq_true rfl)) (evb_cons (ev_body (n := 4) (evs_cons (ev_ix (i := 5) (j := 0) (z := "a") rfl cA rfl rfl) evs_nil) (Nat.le_of_ble_eq_true rfl)) evb_nil)) (by decide +kernel) (by decide +kernel) rfl (by decide +kernel) rfl (by decide +kernel))) (evd_tup (evd_cons (evd_tup (evd_cons (evd_str "a") (evd_cons (evd_str "c") evd_nil)) (Nat.le_of_ble_eq_true rfl)) evd_nil) (Nat.le_of_ble_eq_true rfl)) ⟨rfl, (by decide +kernel)⟩) fun H8 s8 => ?_
    replace cA := cA.same s8
    clear s8 rD
    refine seq_if (evf_ne  (ev_knots lTri (ev_make (ns := ["b", "c", "d"]) lTri (evb_cons (ev_body (n := 4) (evs_cons (ev_ix (i := 5) (j := 2) (z := "c") rfl cA rfl rfl) evs_nil) (Nat.le_of_ble_eq_true rfl)) (evb_cons (ev_body (n := 4) evs_nil (Nat.le_of_ble_eq_true rfl)) (evb_cons (ev_body (n := 4) evs_nil (Nat.le_of_ble_eq_true rfl)) evb_nil))) (by decide +kernel) (by decide +kernel) rfl (by decide +kernel) rfl (by decide +kernel))) (evd_tup (evd_cons (evd_tup (evd_cons (evd_str "c") evd_nil) (Nat.le_of_ble_eq_true rfl)) (evd_cons (evd_tup (evd_cons (evd_str "b") evd_nil) (Nat.le_of_ble_eq_true rfl)) (evd_cons (evd_tup (evd_cons (evd_str "d") evd_nil) (Nat.le_of_ble_eq_true rfl)) evd_nil))) (Nat.le_of_ble_eq_true rfl)) ⟨rfl, (by decide +kernel)⟩) fun H9 s9 => ?_
    replace cA := cA.same s9
    clear s9
    refine seq_par (ev_make (ns := ["a", "b"]) lOld (evb_cons (ev_body (n := 4) (evs_cons (ev_ix (i := 5) (j := 1) (z := "b") rfl cA rfl rfl) evs_nil) (Nat.le_of_ble_eq_true rfl)) (evb_cons (ev_body (n := 4) evs_nil (Nat.le_of_ble_eq_true rfl)) evb_nil)) (by decide +kernel) (by decide +kernel) rfl (by decide +kernel) rfl (by decide +kernel)) (ev_make (ns := ["c"]) lOne (evb_cons (ev_body (n := 4) evs_nil (Nat.le_of_ble_eq_true rfl)) evb_nil) (by decide +kernel) (by decide +kernel) rfl (by decide +kernel) rfl (by decide +kernel)) fun z9 z10 H10 H11 s10 s11 rO rN => ?_
    replace cA := cA.same s10
    replace cA := cA.same s11
    replace rO := rO.same s11
    clear s10 s11
    refine seq_set (evd_lst (evd_cons (ev_knots lOld (ev_var (i := 9) (R := PrV K C pOld) rfl fun _ h => rO.same h)) (evd_cons (ev_knots lPut (ev_put (z := "b") (ns := ["a", "b"]) lOld lPut (ev_var (i := 9) (R := PrV K C pOld) rfl fun _ h => rO.same h) (ev_body (n := 4) (evs_cons (ev_ix (i := 5) (j := 0) (z := "a") rfl cA rfl rfl) evs_nil) (Nat.le_of_ble_eq_true rfl)) (by decide +kernel) (by decide +kernel) (by decide +kernel) (by decide +kernel) (by decide +kernel) rfl)) (evd_cons (ev_knots lAll (ev_or (ns := ["a", "b", "c"]) lOld lOne lAll (ev_var (i := 9) (R := PrV K C pOld) rfl fun _ h => rO.same h) (ev_var (i := 10) (R := PrV K C pOne) rfl fun _ h => rN.same h) (by decide +kernel) (by decide +kernel) (by decide +kernel) rfl)) (evd_cons (ev_knots lOne (ev_var (i := 10) (R := PrV K C pOne) rfl fun _ h => rN.same h)) (evd_cons (ev_knots lAll (ev_or (ns := ["a", "b", "c"]) lOne lOld lAll (ev_var (i := 10) (R := PrV K C pOne) rfl fun _ h => rN.same h) (ev_var (i := 9) (R := PrV K C pOld) rfl fun _ h => rO.same h) (by decide +kernel) (by decide +kernel) (by decide +kernel) rfl)) evd_nil))))) (Nat.le_of_ble_eq_true rfl)) fun z11 H12 s12 rT => ?_
    replace cA := cA.same s12
    replace rO := rO.same s12
    replace rN := rN.same s12
    clear s12
    refine seq_set (evd_cat (ev_var (i := 11) (R := LsD K _) rfl fun _ h => rT.same h) (evd_lst (evd_cons (ev_knots lBee (ev_wtt (z := "a") (ns := ["b"]) lOld lBee (ev_var (i := 9) (R := PrV K C pOld) rfl fun _ h => rO.same h) (by decide +kernel) (by decide +kernel) (by decide +kernel) (by decide +kernel) (by decide +kernel) rfl)) (evd_cons (ev_ra (z := "b") (k := ["a", "b"]) lPut (ev_put (z := "b") (ns := ["a", "b"]) lOld lPut (ev_var (i := 9) (R := PrV K C pOld) rfl fun _ h => rO.same h) (ev_body (n := 4) (evs_cons (ev_ix (i := 5) (j := 0) (z := "a") rfl cA rfl rfl) evs_nil) (Nat.le_of_ble_eq_true rfl)) (by decide +kernel) (by decide +kernel) (by decide +kernel) (by decide +kernel) (by decide +kernel) rfl) (by decide +kernel) (by decide +kernel)) (evd_cons (ev_ra (z := "b") (k := ["b"]) lOld (ev_var (i := 9) (R := PrV K C pOld) rfl fun _ h => rO.same h) (by decide +kernel) (by decide +kernel)) evd_nil))) (Nat.le_of_ble_eq_true rfl)) (Nat.le_of_ble_eq_true rfl)) fun z12 H13 s13 rU => ?_
    clear s13 rT cA rO rN
    refine seq_set (R := LsD K _) (evd_lst (evd_cons (evd_tup (evd_cons (evd_tup (evd_cons (evd_str "b") evd_nil) (Nat.le_of_ble_eq_true rfl)) (evd_cons (evd_tup (evd_cons (evd_str "a") evd_nil) (Nat.le_of_ble_eq_true rfl)) evd_nil)) (Nat.le_of_ble_eq_true rfl)) (evd_cons (evd_tup (evd_cons (evd_tup (evd_cons (evd_str "a") (evd_cons (evd_str "b") evd_nil)) (Nat.le_of_ble_eq_true rfl)) evd_nil) (Nat.le_of_ble_eq_true rfl)) (evd_cons (evd_tup (evd_cons (evd_tup (evd_cons (evd_str "b") evd_nil) (Nat.le_of_ble_eq_true rfl)) (evd_cons (evd_tup (evd_cons (evd_str "a") evd_nil) (Nat.le_of_ble_eq_true rfl)) (evd_cons (evd_tup (evd_cons (evd_str "c") evd_nil) (Nat.le_of_ble_eq_true rfl)) evd_nil))) (Nat.le_of_ble_eq_true rfl)) (evd_cons (evd_tup (evd_cons (evd_tup (evd_cons (evd_str "c") evd_nil) (Nat.le_of_ble_eq_true rfl)) evd_nil) (Nat.le_of_ble_eq_true rfl)) (evd_cons (evd_tup (evd_cons (evd_tup (evd_cons (evd_str "b") evd_nil) (Nat.le_of_ble_eq_true rfl)) (evd_cons (evd_tup (evd_cons (evd_str "a") evd_nil) (Nat.le_of_ble_eq_true rfl)) (evd_cons (evd_tup (evd_cons (evd_str "c") evd_nil) (Nat.le_of_ble_eq_true rfl)) evd_nil))) (Nat.le_of_ble_eq_true rfl)) evd_nil))))) (Nat.le_of_ble_eq_true rfl)) fun z13 H14 s14 rV => ?_
    replace rU := rU.same s14
    clear s14
    refine ret_ev (evd_eq (evd_dp (ev_var (i := 11) (R := LsD K _) rfl fun _ h => rU.same h)) (evd_dp (evd_cat (ev_var (i := 12) (R := LsD K _) rfl fun _ h => rV.same h) (evd_lst (evd_cons (evd_tup (evd_cons (evd_tup (evd_cons (evd_str "b") evd_nil) (Nat.le_of_ble_eq_true rfl)) evd_nil) (Nat.le_of_ble_eq_true rfl)) (evd_cons (evd_tup (evd_cons (evd_str "a") (evd_cons (evd_str "b") evd_nil)) (Nat.le_of_ble_eq_true rfl)) (evd_cons (evd_tup (evd_cons (evd_str "b") evd_nil) (Nat.le_of_ble_eq_true rfl)) evd_nil))) (Nat.le_of_ble_eq_true rfl)) (Nat.le_of_ble_eq_true rfl))) ⟨rfl, (by decide +kernel)⟩) fun v H15 s15 e => ?_
    subst e
    exact q _
end
end FR
set_option Elab.async false
set_option linter.all false
set_option maxRecDepth 100000
set_option maxHeartbeats 4000000
/-! what the written part says of the classes, by computation -/
namespace FR
open PySem PySem.Spec PyProof.Rows L2 LD
section
variable {P : Program} {w : World} {K : PySem.W.Frag} {mg : Str → Option Value} {base : Heap}
theorem ok_pis {f fp dT : Addr} {fd fdp : FuncData} (GP : FnOk P w K mg base CX0 6 fp fdp ["body", "path"] (spPls K 5)) (mP : mg "placed_statements" = some (.ref fp)) (kP : PySem.W.keepIn K (.ref fp) = true) {ds : List Value} (bP : Binds K fdp ["body", "path"] ds) (vP : Vals [V.ref dT] ds) (hT : ∀ H, SqT K H dT []) {C CG : Addr} (R : PgC K C) (oG : OwnTy K CG) (nG : NoAttr K CG "table") (kNo : PySem.W.kitOne K (.type "NoneType") (.ref CG) = some false) (kYes : PySem.W.kitOne K (.ref CG) (.ref CG) = some true) (T : TxtP mg) (mG : mg "Given" = some (.ref CG)) (gA : Glo P w K mg base "_are_program" 12 ["bodies"] spAp) (F : Fun K "__init__" "Program.__init__" sPi f fd) {ks : List Str} (hk : ∀ k ∈ ks, ¬ k = "self") (hn : ks.Nodup) (hf : ks.length ≤ 900) : FnRs P w K mg base 13 f ks (spPi K C CG) := by
  refine rests_ok F (x := ⟨"self", _, _⟩) (y := ⟨"bodies", _, _⟩) rfl scPi hk hn hf (fun vs H Q E h => ?_) fun cdv A outer s H vs Q E hr h => ?_
  · obtain ⟨x, d, dx, kvs, p, rfl, _⟩ := h
    rfl
  · exact pi_read (k := 12) GP mP kP bP vP hT R.cl R.nb R.ns R.ne R.nc oG.cl nG oG kNo kYes T mG gA hr h
end
theorem pls_binds {K : PySem.W.Frag} {f dT : Addr} {fd : FuncData} (F : FunD K "placed_statements" "placed_statements" (defArgs sPls) (defBody sPls) (defScope sPls) [V.ref dT] [] f fd) :
    (∃ ds, Vals [V.ref dT] ds ∧ Binds K fd ["body", "path"] ds) ∧ Binds K fd ["body", "path"] [] := by
  have b1 := F.binds1 (ps := ["body", "path"]) 1 0 (by simp) rfl fun T kV doc pm an cdv ct us its hu hi => match us, its, hu, hi with | [_], [_], _, _ => ⟨_, rfl, rfl⟩
  have b2 := F.binds1 (ps := ["body", "path"]) 2 1 (by simp) rfl fun T kV doc pm an cdv ct us its hu hi => match us, its, hu, hi with | [_, _], [_], _, _ => ⟨_, rfl, rfl⟩
  obtain ⟨ds, v, b⟩ := b2
  cases v
  exact ⟨b1, b⟩
def clsB (K : PySem.W.Frag) (C : Addr) : Bool := PySem.W.plainGet K C Str.empty && (PySem.W.hasDictIn K C && (PySem.W.plainOver K C && (PySem.W.findIn K (.ref C) "__setattr__" == some (some (.builtin "object.__setattr__")))))
theorem cls_of {K : PySem.W.Frag} {C : Addr} (h : clsB K C = true) : Cls K C := by
  simp only [clsB, Bool.and_eq_true, beq_iff_eq] at h
  exact ⟨h.1, h.2.1, h.2.2.1, h.2.2.2⟩
def ownB (K : PySem.W.Frag) (C : Addr) : Bool := clsB K C && ((PySem.W.findIn K (.ref C) "__class__" == some (some (.builtin "object.__class__"))) &&
  ((PySem.W.specialIn K (.builtin "object.__class__") "__get__" == some (some (.builtin "getset_descriptor.__get__"))) && ((PySem.W.takesIn K (.builtin "object.__class__") == some true) && (PySem.W.mroIn K C (.type "object") == some true))))
theorem own_of {K : PySem.W.Frag} {C : Addr} (h : ownB K C = true) : OwnTy K C := by
  simp only [ownB, Bool.and_eq_true, beq_iff_eq] at h
  exact ⟨cls_of h.1, h.2.1, h.2.2.1, h.2.2.2.1, h.2.2.2.2⟩
def pgCB (K : PySem.W.Frag) (C : Addr) : Bool := ownB K C && ((PySem.W.findIn K (.ref C) "_bodies" == some none) && ((PySem.W.findIn K (.ref C) "_size" == some none) && ((PySem.W.findIn K (.ref C) "_events" == some none) && (PySem.W.findIn K (.ref C) "_choices" == some none))))
theorem pg_of {K : PySem.W.Frag} {C : Addr} (h : pgCB K C = true) : PgC K C := by
  simp only [pgCB, Bool.and_eq_true, beq_iff_eq] at h
  have o := own_of h.1
  exact ⟨o.cl, h.2.1, h.2.2.1, h.2.2.2.1, h.2.2.2.2, o⟩
def mkB (K : PySem.W.Frag) (C : Addr) : Bool := PySem.W.makesIn K C && PySem.W.keepIn K (.ref C)
def sfB (K : PySem.W.Frag) (C : Addr) : Bool := PySem.W.selfFirst K C
def kitB (K : PySem.W.Frag) (C CG : Addr) : Bool := (PySem.W.kitOne K (.type "NoneType") (.ref CG) == some false) && ((PySem.W.kitOne K (.ref CG) (.ref CG) == some true) && ((PySem.W.kitOne K (.ref C) (.ref C) == some true) && (PySem.W.findIn K (.ref CG) "table" == some none)))
def smB (K : PySem.W.Frag) (C : Addr) (mc : Value) (p g : Addr) : Bool := (PySem.W.readsIn K C mc && ((PySem.W.specialIn K (.ref C) "__getattribute__" == some (some (.builtin "type.__getattribute__"))))) && (PySem.W.handedIn (.ref g) && PySem.W.keepIn K (.ref g))
end FR
set_option Elab.async false
set_option linter.all false
set_option maxRecDepth 100000
set_option maxHeartbeats 4000000
namespace FR
open PySem PySem.Spec PyProof.Rows L2 LD
theorem all_mk {l : PySem.W.OpenLaw} {w : World} {K : PySem.W.Frag} {h : Heap} {mg : Str → Option Value} {fa C CG : Addr} (X : K.In h) (G : h.Ns mainGlobals mg) (hfa : mg "law" = some (.ref fa))
    (aC : PySem.W.nsIn K mainGlobals "Program" = some (some (.ref C)))
    (aG : PySem.W.nsIn K mainGlobals "Given" = some (some (.ref CG)))
    {tkP tkS tkD tkW tkL tkT : Tok}
    (aMP : PySem.W.nsIn K mainGlobals "MAX_PROCEDURES" = some (some (.int 8 tkP)))
    (aMS : PySem.W.nsIn K mainGlobals "MAX_STATEMENTS" = some (some (.int 60 tkS)))
    (aMD : PySem.W.nsIn K mainGlobals "MAX_DEPTH" = some (some (.int 4 tkD)))
    (aMW : PySem.W.nsIn K mainGlobals "MAX_WEIGHT" = some (some (.int 99 tkW)))
    (aML : PySem.W.nsIn K mainGlobals "MAX_LETTERS" = some (some (.int 8 tkL)))
    (aLT : PySem.W.nsIn K mainGlobals "LETTERS" = some (some (.str lets tkT)))
    {f_bin : Addr} {oc_bin kV_bin dc_bin pm_bin cd_bin ct_bin : Value} {od_bin an_bin : Option Addr} {sl_bin : Array (Option Value)}
    (n_bin : PySem.W.nsIn K mainGlobals "bodies_in" = some (some (.ref f_bin)))
    (l_bin : K.lookup f_bin = some ⟨oc_bin, od_bin, .func (PySem.W.fnOf "bodies_in" "bodies_in" (defArgs sBin) (defBody sBin) (defScope sBin) .none kV_bin dc_bin pm_bin an_bin cd_bin ct_bin), sl_bin⟩)
    (d_bin : PySem.W.codeIn K cd_bin "bodies_in" = true)
    (k_bin : PySem.W.keepIn K (.ref f_bin) = true)
    {f_sof : Addr} {oc_sof kV_sof dc_sof pm_sof cd_sof ct_sof : Value} {od_sof an_sof : Option Addr} {sl_sof : Array (Option Value)}
    (n_sof : PySem.W.nsIn K mainGlobals "statements_of" = some (some (.ref f_sof)))
    (l_sof : K.lookup f_sof = some ⟨oc_sof, od_sof, .func (PySem.W.fnOf "statements_of" "statements_of" (defArgs sSof) (defBody sSof) (defScope sSof) .none kV_sof dc_sof pm_sof an_sof cd_sof ct_sof), sl_sof⟩)
    (d_sof : PySem.W.codeIn K cd_sof "statements_of" = true)
    (k_sof : PySem.W.keepIn K (.ref f_sof) = true)
    {f_pw : Addr} {oc_pw kV_pw dc_pw pm_pw cd_pw ct_pw : Value} {od_pw an_pw : Option Addr} {sl_pw : Array (Option Value)}
    (n_pw : PySem.W.nsIn K mainGlobals "part_within" = some (some (.ref f_pw)))
    (l_pw : K.lookup f_pw = some ⟨oc_pw, od_pw, .func (PySem.W.fnOf "part_within" "part_within" (defArgs sPw) (defBody sPw) (defScope sPw) .none kV_pw dc_pw pm_pw an_pw cd_pw ct_pw), sl_pw⟩)
    (d_pw : PySem.W.codeIn K cd_pw "part_within" = true)
    (k_pw : PySem.W.keepIn K (.ref f_pw) = true)
    {f_wp : Addr} {oc_wp kV_wp dc_wp pm_wp cd_wp ct_wp : Value} {od_wp an_wp : Option Addr} {sl_wp : Array (Option Value)}
    (n_wp : PySem.W.nsIn K mainGlobals "with_part" = some (some (.ref f_wp)))
    (l_wp : K.lookup f_wp = some ⟨oc_wp, od_wp, .func (PySem.W.fnOf "with_part" "with_part" (defArgs sWp) (defBody sWp) (defScope sWp) .none kV_wp dc_wp pm_wp an_wp cd_wp ct_wp), sl_wp⟩)
    (d_wp : PySem.W.codeIn K cd_wp "with_part" = true)
    (k_wp : PySem.W.keepIn K (.ref f_wp) = true)
    {f_plain : Addr} {oc_plain kV_plain dc_plain pm_plain cd_plain ct_plain : Value} {od_plain an_plain : Option Addr} {sl_plain : Array (Option Value)}
    (n_plain : PySem.W.nsIn K mainGlobals "is_plain_integer" = some (some (.ref f_plain)))
    (l_plain : K.lookup f_plain = some ⟨oc_plain, od_plain, .func (PySem.W.fnOf "is_plain_integer" "is_plain_integer" (defArgs sPlain) (defBody sPlain) (defScope sPlain) .none kV_plain dc_plain pm_plain an_plain cd_plain ct_plain), sl_plain⟩)
    (d_plain : PySem.W.codeIn K cd_plain "is_plain_integer" = true)
    (k_plain : PySem.W.keepIn K (.ref f_plain) = true)
    {f_bet : Addr} {oc_bet kV_bet dc_bet pm_bet cd_bet ct_bet : Value} {od_bet an_bet : Option Addr} {sl_bet : Array (Option Value)}
    (n_bet : PySem.W.nsIn K mainGlobals "is_between" = some (some (.ref f_bet)))
    (l_bet : K.lookup f_bet = some ⟨oc_bet, od_bet, .func (PySem.W.fnOf "is_between" "is_between" (defArgs sBet) (defBody sBet) (defScope sBet) .none kV_bet dc_bet pm_bet an_bet cd_bet ct_bet), sl_bet⟩)
    (d_bet : PySem.W.codeIn K cd_bet "is_between" = true)
    (k_bet : PySem.W.keepIn K (.ref f_bet) = true)
    {f_nm : Addr} {oc_nm kV_nm dc_nm pm_nm cd_nm ct_nm : Value} {od_nm an_nm : Option Addr} {sl_nm : Array (Option Value)}
    (n_nm : PySem.W.nsIn K mainGlobals "is_name" = some (some (.ref f_nm)))
    (l_nm : K.lookup f_nm = some ⟨oc_nm, od_nm, .func (PySem.W.fnOf "is_name" "is_name" (defArgs sNm) (defBody sNm) (defScope sNm) .none kV_nm dc_nm pm_nm an_nm cd_nm ct_nm), sl_nm⟩)
    (d_nm : PySem.W.codeIn K cd_nm "is_name" = true)
    (k_nm : PySem.W.keepIn K (.ref f_nm) = true)
    {f_wt : Addr} {oc_wt kV_wt dc_wt pm_wt cd_wt ct_wt : Value} {od_wt an_wt : Option Addr} {sl_wt : Array (Option Value)}
    (n_wt : PySem.W.nsIn K mainGlobals "_is_weight" = some (some (.ref f_wt)))
    (l_wt : K.lookup f_wt = some ⟨oc_wt, od_wt, .func (PySem.W.fnOf "_is_weight" "_is_weight" (defArgs sWt) (defBody sWt) (defScope sWt) .none kV_wt dc_wt pm_wt an_wt cd_wt ct_wt), sl_wt⟩)
    (d_wt : PySem.W.codeIn K cd_wt "_is_weight" = true)
    (k_wt : PySem.W.keepIn K (.ref f_wt) = true)
    {f_br : Addr} {oc_br kV_br dc_br pm_br cd_br ct_br : Value} {od_br an_br : Option Addr} {sl_br : Array (Option Value)}
    (n_br : PySem.W.nsIn K mainGlobals "_is_branch" = some (some (.ref f_br)))
    (l_br : K.lookup f_br = some ⟨oc_br, od_br, .func (PySem.W.fnOf "_is_branch" "_is_branch" (defArgs sBr) (defBody sBr) (defScope sBr) .none kV_br dc_br pm_br an_br cd_br ct_br), sl_br⟩)
    (d_br : PySem.W.codeIn K cd_br "_is_branch" = true)
    (k_br : PySem.W.keepIn K (.ref f_br) = true)
    {f_inn : Addr} {oc_inn kV_inn dc_inn pm_inn cd_inn ct_inn : Value} {od_inn an_inn : Option Addr} {sl_inn : Array (Option Value)}
    (n_inn : PySem.W.nsIn K mainGlobals "_inner_of" = some (some (.ref f_inn)))
    (l_inn : K.lookup f_inn = some ⟨oc_inn, od_inn, .func (PySem.W.fnOf "_inner_of" "_inner_of" (defArgs sInn) (defBody sInn) (defScope sInn) .none kV_inn dc_inn pm_inn an_inn cd_inn ct_inn), sl_inn⟩)
    (d_inn : PySem.W.codeIn K cd_inn "_inner_of" = true)
    (k_inn : PySem.W.keepIn K (.ref f_inn) = true)
    {f_lb : Addr} {oc_lb kV_lb dc_lb pm_lb cd_lb ct_lb : Value} {od_lb an_lb : Option Addr} {sl_lb : Array (Option Value)}
    (n_lb : PySem.W.nsIn K mainGlobals "_left_behind" = some (some (.ref f_lb)))
    (l_lb : K.lookup f_lb = some ⟨oc_lb, od_lb, .func (PySem.W.fnOf "_left_behind" "_left_behind" (defArgs sLb) (defBody sLb) (defScope sLb) .none kV_lb dc_lb pm_lb an_lb cd_lb ct_lb), sl_lb⟩)
    (d_lb : PySem.W.codeIn K cd_lb "_left_behind" = true)
    (k_lb : PySem.W.keepIn K (.ref f_lb) = true)
    {f_ib : Addr} {oc_ib kV_ib dc_ib pm_ib cd_ib ct_ib : Value} {od_ib an_ib : Option Addr} {sl_ib : Array (Option Value)}
    (n_ib : PySem.W.nsIn K mainGlobals "is_body" = some (some (.ref f_ib)))
    (l_ib : K.lookup f_ib = some ⟨oc_ib, od_ib, .func (PySem.W.fnOf "is_body" "is_body" (defArgs sIb) (defBody sIb) (defScope sIb) .none kV_ib dc_ib pm_ib an_ib cd_ib ct_ib), sl_ib⟩)
    (d_ib : PySem.W.codeIn K cd_ib "is_body" = true)
    (k_ib : PySem.W.keepIn K (.ref f_ib) = true)
    {f_nc : Addr} {oc_nc kV_nc dc_nc pm_nc cd_nc ct_nc : Value} {od_nc an_nc : Option Addr} {sl_nc : Array (Option Value)}
    (n_nc : PySem.W.nsIn K mainGlobals "_names_called" = some (some (.ref f_nc)))
    (l_nc : K.lookup f_nc = some ⟨oc_nc, od_nc, .func (PySem.W.fnOf "_names_called" "_names_called" (defArgs sNc) (defBody sNc) (defScope sNc) .none kV_nc dc_nc pm_nc an_nc cd_nc ct_nc), sl_nc⟩)
    (d_nc : PySem.W.codeIn K cd_nc "_names_called" = true)
    (k_nc : PySem.W.keepIn K (.ref f_nc) = true)
    {f_ap : Addr} {oc_ap kV_ap dc_ap pm_ap cd_ap ct_ap : Value} {od_ap an_ap : Option Addr} {sl_ap : Array (Option Value)}
    (n_ap : PySem.W.nsIn K mainGlobals "_are_program" = some (some (.ref f_ap)))
    (l_ap : K.lookup f_ap = some ⟨oc_ap, od_ap, .func (PySem.W.fnOf "_are_program" "_are_program" (defArgs sAp) (defBody sAp) (defScope sAp) .none kV_ap dc_ap pm_ap an_ap cd_ap ct_ap), sl_ap⟩)
    (d_ap : PySem.W.codeIn K cd_ap "_are_program" = true)
    (k_ap : PySem.W.keepIn K (.ref f_ap) = true)
    {f_cn : Addr} {oc_cn kV_cn dc_cn pm_cn cd_cn ct_cn : Value} {od_cn an_cn : Option Addr} {sl_cn : Array (Option Value)}
    (n_cn : PySem.W.nsIn K mainGlobals "check_name" = some (some (.ref f_cn)))
    (l_cn : K.lookup f_cn = some ⟨oc_cn, od_cn, .func (PySem.W.fnOf "check_name" "check_name" (defArgs sCn) (defBody sCn) (defScope sCn) .none kV_cn dc_cn pm_cn an_cn cd_cn ct_cn), sl_cn⟩)
    (d_cn : PySem.W.codeIn K cd_cn "check_name" = true)
    (k_cn : PySem.W.keepIn K (.ref f_cn) = true)
    {f_cf : Addr} {oc_cf kV_cf dc_cf pm_cf cd_cf ct_cf : Value} {od_cf an_cf : Option Addr} {sl_cf : Array (Option Value)}
    (n_cf : PySem.W.nsIn K mainGlobals "check_free" = some (some (.ref f_cf)))
    (l_cf : K.lookup f_cf = some ⟨oc_cf, od_cf, .func (PySem.W.fnOf "check_free" "check_free" (defArgs sCf) (defBody sCf) (defScope sCf) .none kV_cf dc_cf pm_cf an_cf cd_cf ct_cf), sl_cf⟩)
    (d_cf : PySem.W.codeIn K cd_cf "check_free" = true)
    (k_cf : PySem.W.keepIn K (.ref f_cf) = true)
    {f_pf : Addr} {oc_pf kV_pf dc_pf pm_pf cd_pf ct_pf : Value} {od_pf an_pf : Option Addr} {sl_pf : Array (Option Value)}
    (n_pf : PySem.W.nsIn K mainGlobals "_part_of" = some (some (.ref f_pf)))
    (l_pf : K.lookup f_pf = some ⟨oc_pf, od_pf, .func (PySem.W.fnOf "_part_of" "_part_of" (defArgs sPf) (defBody sPf) (defScope sPf) .none kV_pf dc_pf pm_pf an_pf cd_pf ct_pf), sl_pf⟩)
    (d_pf : PySem.W.codeIn K cd_pf "_part_of" = true)
    (k_pf : PySem.W.keepIn K (.ref f_pf) = true)
    {f_put : Addr} {oc_put kV_put dc_put pm_put cd_put ct_put : Value} {od_put an_put : Option Addr} {sl_put : Array (Option Value)}
    (n_put : PySem.W.nsIn K mainGlobals "put_at" = some (some (.ref f_put)))
    (l_put : K.lookup f_put = some ⟨oc_put, od_put, .func (PySem.W.fnOf "put_at" "put_at" (defArgs sPu) (defBody sPu) (defScope sPu) .none kV_put dc_put pm_put an_put cd_put ct_put), sl_put⟩)
    (d_put : PySem.W.codeIn K cd_put "put_at" = true)
    (k_put : PySem.W.keepIn K (.ref f_put) = true)
    {f_co : Addr} {oc_co kV_co dc_co pm_co cd_co ct_co : Value} {od_co an_co : Option Addr} {sl_co : Array (Option Value)}
    (n_co : PySem.W.nsIn K mainGlobals "calls_of" = some (some (.ref f_co)))
    (l_co : K.lookup f_co = some ⟨oc_co, od_co, .func (PySem.W.fnOf "calls_of" "calls_of" (defArgs sCo) (defBody sCo) (defScope sCo) .none kV_co dc_co pm_co an_co cd_co ct_co), sl_co⟩)
    (d_co : PySem.W.codeIn K cd_co "calls_of" = true)
    (k_co : PySem.W.keepIn K (.ref f_co) = true)
    {f_ra : Addr} {oc_ra kV_ra dc_ra pm_ra cd_ra ct_ra : Value} {od_ra an_ra : Option Addr} {sl_ra : Array (Option Value)}
    (n_ra : PySem.W.nsIn K mainGlobals "reaches" = some (some (.ref f_ra)))
    (l_ra : K.lookup f_ra = some ⟨oc_ra, od_ra, .func (PySem.W.fnOf "reaches" "reaches" (defArgs sRa) (defBody sRa) (defScope sRa) .none kV_ra dc_ra pm_ra an_ra cd_ra ct_ra), sl_ra⟩)
    (d_ra : PySem.W.codeIn K cd_ra "reaches" = true)
    (k_ra : PySem.W.keepIn K (.ref f_ra) = true)
    {f_ks : Addr} {oc_ks kV_ks dc_ks pm_ks cd_ks ct_ks : Value} {od_ks an_ks : Option Addr} {sl_ks : Array (Option Value)}
    (n_ks : PySem.W.nsIn K mainGlobals "knots" = some (some (.ref f_ks)))
    (l_ks : K.lookup f_ks = some ⟨oc_ks, od_ks, .func (PySem.W.fnOf "knots" "knots" (defArgs sKs) (defBody sKs) (defScope sKs) .none kV_ks dc_ks pm_ks an_ks cd_ks ct_ks), sl_ks⟩)
    (d_ks : PySem.W.codeIn K cd_ks "knots" = true)
    (k_ks : PySem.W.keepIn K (.ref f_ks) = true)
    {f_uk : Addr} {oc_uk kV_uk dc_uk pm_uk cd_uk ct_uk : Value} {od_uk an_uk : Option Addr} {sl_uk : Array (Option Value)}
    (n_uk : PySem.W.nsIn K mainGlobals "_unordered_knots" = some (some (.ref f_uk)))
    (l_uk : K.lookup f_uk = some ⟨oc_uk, od_uk, .func (PySem.W.fnOf "_unordered_knots" "_unordered_knots" (defArgs sUk) (defBody sUk) (defScope sUk) .none kV_uk dc_uk pm_uk an_uk cd_uk ct_uk), sl_uk⟩)
    (d_uk : PySem.W.codeIn K cd_uk "_unordered_knots" = true)
    (k_uk : PySem.W.keepIn K (.ref f_uk) = true)
    {f_cs : Addr} {oc_cs kV_cs dc_cs pm_cs cd_cs ct_cs : Value} {od_cs an_cs : Option Addr} {sl_cs : Array (Option Value)}
    (n_cs : PySem.W.nsIn K mainGlobals "_calls_only" = some (some (.ref f_cs)))
    (l_cs : K.lookup f_cs = some ⟨oc_cs, od_cs, .func (PySem.W.fnOf "_calls_only" "_calls_only" (defArgs sCs) (defBody sCs) (defScope sCs) .none kV_cs dc_cs pm_cs an_cs cd_cs ct_cs), sl_cs⟩)
    (d_cs : PySem.W.codeIn K cd_cs "_calls_only" = true)
    (k_cs : PySem.W.keepIn K (.ref f_cs) = true)
    {f_ko : Addr} {oc_ko kV_ko dc_ko pm_ko cd_ko ct_ko : Value} {od_ko an_ko : Option Addr} {sl_ko : Array (Option Value)}
    (n_ko : PySem.W.nsIn K mainGlobals "knot_of" = some (some (.ref f_ko)))
    (l_ko : K.lookup f_ko = some ⟨oc_ko, od_ko, .func (PySem.W.fnOf "knot_of" "knot_of" (defArgs sKo) (defBody sKo) (defScope sKo) .none kV_ko dc_ko pm_ko an_ko cd_ko ct_ko), sl_ko⟩)
    (d_ko : PySem.W.codeIn K cd_ko "knot_of" = true)
    (k_ko : PySem.W.keepIn K (.ref f_ko) = true)
    {f_dice : Addr} {oc_dice kV_dice dc_dice pm_dice cd_dice ct_dice : Value} {od_dice an_dice : Option Addr} {sl_dice : Array (Option Value)}
    (n_dice : PySem.W.nsIn K mainGlobals "_law_dice" = some (some (.ref f_dice)))
    (l_dice : K.lookup f_dice = some ⟨oc_dice, od_dice, .func (PySem.W.fnOf "_law_dice" "_law_dice" (defArgs LD.sDice) (defBody LD.sDice) (defScope LD.sDice) .none kV_dice dc_dice pm_dice an_dice cd_dice ct_dice), sl_dice⟩)
    (d_dice : PySem.W.codeIn K cd_dice "_law_dice" = true)
    (k_dice : PySem.W.keepIn K (.ref f_dice) = true)
    {f_roll : Addr} {oc_roll kV_roll dc_roll pm_roll cd_roll ct_roll : Value} {od_roll an_roll : Option Addr} {sl_roll : Array (Option Value)}
    (n_roll : PySem.W.nsIn K mainGlobals "_law_roll" = some (some (.ref f_roll)))
    (l_roll : K.lookup f_roll = some ⟨oc_roll, od_roll, .func (PySem.W.fnOf "_law_roll" "_law_roll" (defArgs LD.sRoll) (defBody LD.sRoll) (defScope LD.sRoll) .none kV_roll dc_roll pm_roll an_roll cd_roll ct_roll), sl_roll⟩)
    (d_roll : PySem.W.codeIn K cd_roll "_law_roll" = true)
    (k_roll : PySem.W.keepIn K (.ref f_roll) = true)
    {f_one : Addr} {oc_one kV_one dc_one pm_one cd_one ct_one : Value} {od_one an_one : Option Addr} {sl_one : Array (Option Value)}
    (n_one : PySem.W.nsIn K mainGlobals "_law_one_of" = some (some (.ref f_one)))
    (l_one : K.lookup f_one = some ⟨oc_one, od_one, .func (PySem.W.fnOf "_law_one_of" "_law_one_of" (defArgs LD.sOneOf) (defBody LD.sOneOf) (defScope LD.sOneOf) .none kV_one dc_one pm_one an_one cd_one ct_one), sl_one⟩)
    (d_one : PySem.W.codeIn K cd_one "_law_one_of" = true)
    (k_one : PySem.W.keepIn K (.ref f_one) = true)
    {f_mx : Addr} {oc_mx kV_mx dc_mx pm_mx cd_mx ct_mx : Value} {od_mx an_mx : Option Addr} {sl_mx : Array (Option Value)}
    (n_mx : PySem.W.nsIn K mainGlobals "_law_mixed" = some (some (.ref f_mx)))
    (l_mx : K.lookup f_mx = some ⟨oc_mx, od_mx, .func (PySem.W.fnOf "_law_mixed" "_law_mixed" (defArgs sMx) (defBody sMx) (defScope sMx) .none kV_mx dc_mx pm_mx an_mx cd_mx ct_mx), sl_mx⟩)
    (d_mx : PySem.W.codeIn K cd_mx "_law_mixed" = true)
    (k_mx : PySem.W.keepIn K (.ref f_mx) = true)
    {f_we : Addr} {oc_we kV_we dc_we pm_we cd_we ct_we : Value} {od_we an_we : Option Addr} {sl_we : Array (Option Value)}
    (n_we : PySem.W.nsIn K mainGlobals "_law_weight" = some (some (.ref f_we)))
    (l_we : K.lookup f_we = some ⟨oc_we, od_we, .func (PySem.W.fnOf "_law_weight" "_law_weight" (defArgs sWe) (defBody sWe) (defScope sWe) .none kV_we dc_we pm_we an_we cd_we ct_we), sl_we⟩)
    (d_we : PySem.W.codeIn K cd_we "_law_weight" = true)
    (k_we : PySem.W.keepIn K (.ref f_we) = true)
    {f_ls : Addr} {oc_ls kV_ls dc_ls pm_ls cd_ls ct_ls : Value} {od_ls an_ls : Option Addr} {sl_ls : Array (Option Value)}
    (n_ls : PySem.W.nsIn K mainGlobals "_law_statement" = some (some (.ref f_ls)))
    (l_ls : K.lookup f_ls = some ⟨oc_ls, od_ls, .func (PySem.W.fnOf "_law_statement" "_law_statement" (defArgs sLs) (defBody sLs) (defScope sLs) .none kV_ls dc_ls pm_ls an_ls cd_ls ct_ls), sl_ls⟩)
    (d_ls : PySem.W.codeIn K cd_ls "_law_statement" = true)
    (k_ls : PySem.W.keepIn K (.ref f_ls) = true)
    {f_ly : Addr} {oc_ly kV_ly dc_ly pm_ly cd_ly ct_ly : Value} {od_ly an_ly : Option Addr} {sl_ly : Array (Option Value)}
    (n_ly : PySem.W.nsIn K mainGlobals "_law_body" = some (some (.ref f_ly)))
    (l_ly : K.lookup f_ly = some ⟨oc_ly, od_ly, .func (PySem.W.fnOf "_law_body" "_law_body" (defArgs sLy) (defBody sLy) (defScope sLy) .none kV_ly dc_ly pm_ly an_ly cd_ly ct_ly), sl_ly⟩)
    (d_ly : PySem.W.codeIn K cd_ly "_law_body" = true)
    (k_ly : PySem.W.keepIn K (.ref f_ly) = true)
    {f_lo : Addr} {oc_lo kV_lo dc_lo pm_lo cd_lo ct_lo : Value} {od_lo an_lo : Option Addr} {sl_lo : Array (Option Value)}
    (n_lo : PySem.W.nsIn K mainGlobals "_law_bodies" = some (some (.ref f_lo)))
    (l_lo : K.lookup f_lo = some ⟨oc_lo, od_lo, .func (PySem.W.fnOf "_law_bodies" "_law_bodies" (defArgs sLo) (defBody sLo) (defScope sLo) .none kV_lo dc_lo pm_lo an_lo cd_lo ct_lo), sl_lo⟩)
    (d_lo : PySem.W.codeIn K cd_lo "_law_bodies" = true)
    (k_lo : PySem.W.keepIn K (.ref f_lo) = true)
    {f_li : Addr} {oc_li kV_li dc_li pm_li cd_li ct_li : Value} {od_li an_li : Option Addr} {sl_li : Array (Option Value)}
    (n_li : PySem.W.nsIn K mainGlobals "_law_inner" = some (some (.ref f_li)))
    (l_li : K.lookup f_li = some ⟨oc_li, od_li, .func (PySem.W.fnOf "_law_inner" "_law_inner" (defArgs sLi) (defBody sLi) (defScope sLi) .none kV_li dc_li pm_li an_li cd_li ct_li), sl_li⟩)
    (d_li : PySem.W.codeIn K cd_li "_law_inner" = true)
    (k_li : PySem.W.keepIn K (.ref f_li) = true)
    {f_lr : Addr} {oc_lr kV_lr dc_lr pm_lr cd_lr ct_lr : Value} {od_lr an_lr : Option Addr} {sl_lr : Array (Option Value)}
    (n_lr : PySem.W.nsIn K mainGlobals "_law_sorts" = some (some (.ref f_lr)))
    (l_lr : K.lookup f_lr = some ⟨oc_lr, od_lr, .func (PySem.W.fnOf "_law_sorts" "_law_sorts" (defArgs sLr) (defBody sLr) (defScope sLr) .none kV_lr dc_lr pm_lr an_lr cd_lr ct_lr), sl_lr⟩)
    (d_lr : PySem.W.codeIn K cd_lr "_law_sorts" = true)
    (k_lr : PySem.W.keepIn K (.ref f_lr) = true)
    {f_qc : Addr} {oc_qc kV_qc dc_qc pm_qc cd_qc ct_qc : Value} {od_qc an_qc : Option Addr} {sl_qc : Array (Option Value)}
    (n_qc : PySem.W.nsIn K mainGlobals "_law_called" = some (some (.ref f_qc)))
    (l_qc : K.lookup f_qc = some ⟨oc_qc, od_qc, .func (PySem.W.fnOf "_law_called" "_law_called" (defArgs sQc) (defBody sQc) (defScope sQc) .none kV_qc dc_qc pm_qc an_qc cd_qc ct_qc), sl_qc⟩)
    (d_qc : PySem.W.codeIn K cd_qc "_law_called" = true)
    (k_qc : PySem.W.keepIn K (.ref f_qc) = true)
    {f_re : Addr} {oc_re kV_re dc_re pm_re cd_re ct_re : Value} {od_re an_re : Option Addr} {sl_re : Array (Option Value)}
    (n_re : PySem.W.nsIn K mainGlobals "_law_reached" = some (some (.ref f_re)))
    (l_re : K.lookup f_re = some ⟨oc_re, od_re, .func (PySem.W.fnOf "_law_reached" "_law_reached" (defArgs sRe) (defBody sRe) (defScope sRe) .none kV_re dc_re pm_re an_re cd_re ct_re), sl_re⟩)
    (d_re : PySem.W.codeIn K cd_re "_law_reached" = true)
    (k_re : PySem.W.keepIn K (.ref f_re) = true)
    {f_dk : Addr} {oc_dk kV_dk dc_dk pm_dk cd_dk ct_dk : Value} {od_dk an_dk : Option Addr} {sl_dk : Array (Option Value)}
    (n_dk : PySem.W.nsIn K mainGlobals "_law_due_knots" = some (some (.ref f_dk)))
    (l_dk : K.lookup f_dk = some ⟨oc_dk, od_dk, .func (PySem.W.fnOf "_law_due_knots" "_law_due_knots" (defArgs sDk) (defBody sDk) (defScope sDk) .none kV_dk dc_dk pm_dk an_dk cd_dk ct_dk), sl_dk⟩)
    (d_dk : PySem.W.codeIn K cd_dk "_law_due_knots" = true)
    (k_dk : PySem.W.keepIn K (.ref f_dk) = true)
    {f_tl : Addr} {oc_tl kV_tl dc_tl pm_tl cd_tl ct_tl : Value} {od_tl an_tl : Option Addr} {sl_tl : Array (Option Value)}
    (n_tl : PySem.W.nsIn K mainGlobals "_law_told" = some (some (.ref f_tl)))
    (l_tl : K.lookup f_tl = some ⟨oc_tl, od_tl, .func (PySem.W.fnOf "_law_told" "_law_told" (defArgs sTl) (defBody sTl) (defScope sTl) .none kV_tl dc_tl pm_tl an_tl cd_tl ct_tl), sl_tl⟩)
    (d_tl : PySem.W.codeIn K cd_tl "_law_told" = true)
    (k_tl : PySem.W.keepIn K (.ref f_tl) = true)
    {f_hn : Addr} {oc_hn kV_hn dc_hn pm_hn cd_hn ct_hn : Value} {od_hn an_hn : Option Addr} {sl_hn : Array (Option Value)}
    (n_hn : PySem.W.nsIn K mainGlobals "_law_chain" = some (some (.ref f_hn)))
    (l_hn : K.lookup f_hn = some ⟨oc_hn, od_hn, .func (PySem.W.fnOf "_law_chain" "_law_chain" (defArgs sHn) (defBody sHn) (defScope sHn) .none kV_hn dc_hn pm_hn an_hn cd_hn ct_hn), sl_hn⟩)
    (d_hn : PySem.W.codeIn K cd_hn "_law_chain" = true)
    (k_hn : PySem.W.keepIn K (.ref f_hn) = true)
    {f_law : Addr} {oc_law kV_law dc_law pm_law cd_law ct_law : Value} {od_law an_law : Option Addr} {sl_law : Array (Option Value)}
    (n_law : PySem.W.nsIn K mainGlobals "law" = some (some (.ref f_law)))
    (l_law : K.lookup f_law = some ⟨oc_law, od_law, .func (PySem.W.fnOf "law" "law" (defArgs sLaw) (defBody sLaw) (defScope sLaw) .none kV_law dc_law pm_law an_law cd_law ct_law), sl_law⟩)
    (d_law : PySem.W.codeIn K cd_law "law" = true)
    (k_law : PySem.W.keepIn K (.ref f_law) = true)
    {f_gi : Addr} {oc_gi kV_gi dc_gi pm_gi cd_gi ct_gi : Value} {od_gi an_gi : Option Addr} {sl_gi : Array (Option Value)}
    (n_gi : PySem.W.findIn K (.ref CG) "__init__" = some (some (.ref f_gi)))
    (l_gi : K.lookup f_gi = some ⟨oc_gi, od_gi, .func (PySem.W.fnOf "__init__" "Given.__init__" (defArgs sGi) (defBody sGi) (defScope sGi) .none kV_gi dc_gi pm_gi an_gi cd_gi ct_gi), sl_gi⟩)
    (d_gi : PySem.W.codeIn K cd_gi "Given.__init__" = true)
    (k_gi : PySem.W.keepIn K (.ref f_gi) = true)
    (i_gi : PySem.W.isFn K (.ref f_gi) = true)
    {f_gt : Addr} {oc_gt kV_gt dc_gt pm_gt cd_gt ct_gt : Value} {od_gt an_gt : Option Addr} {sl_gt : Array (Option Value)}
    (n_gt : PySem.W.findIn K (.ref C) "__getitem__" = some (some (.ref f_gt)))
    (l_gt : K.lookup f_gt = some ⟨oc_gt, od_gt, .func (PySem.W.fnOf "__getitem__" "Program.__getitem__" (defArgs sGt) (defBody sGt) (defScope sGt) .none kV_gt dc_gt pm_gt an_gt cd_gt ct_gt), sl_gt⟩)
    (d_gt : PySem.W.codeIn K cd_gt "Program.__getitem__" = true)
    (k_gt : PySem.W.keepIn K (.ref f_gt) = true)
    (i_gt : PySem.W.isFn K (.ref f_gt) = true)
    {f_ct : Addr} {oc_ct kV_ct dc_ct pm_ct cd_ct ct_ct : Value} {od_ct an_ct : Option Addr} {sl_ct : Array (Option Value)}
    (n_ct : PySem.W.findIn K (.ref C) "__contains__" = some (some (.ref f_ct)))
    (l_ct : K.lookup f_ct = some ⟨oc_ct, od_ct, .func (PySem.W.fnOf "__contains__" "Program.__contains__" (defArgs sCt) (defBody sCt) (defScope sCt) .none kV_ct dc_ct pm_ct an_ct cd_ct ct_ct), sl_ct⟩)
    (d_ct : PySem.W.codeIn K cd_ct "Program.__contains__" = true)
    (k_ct : PySem.W.keepIn K (.ref f_ct) = true)
    (i_ct : PySem.W.isFn K (.ref f_ct) = true)
    {f_wy : Addr} {oc_wy kV_wy dc_wy pm_wy cd_wy ct_wy : Value} {od_wy an_wy : Option Addr} {sl_wy : Array (Option Value)}
    (n_wy : PySem.W.findIn K (.ref C) "with_body" = some (some (.ref f_wy)))
    (l_wy : K.lookup f_wy = some ⟨oc_wy, od_wy, .func (PySem.W.fnOf "with_body" "Program.with_body" (defArgs sWy) (defBody sWy) (defScope sWy) .none kV_wy dc_wy pm_wy an_wy cd_wy ct_wy), sl_wy⟩)
    (d_wy : PySem.W.codeIn K cd_wy "Program.with_body" = true)
    (k_wy : PySem.W.keepIn K (.ref f_wy) = true)
    (i_wy : PySem.W.isFn K (.ref f_wy) = true)
    {f_wtt : Addr} {oc_wtt kV_wtt dc_wtt pm_wtt cd_wtt ct_wtt : Value} {od_wtt an_wtt : Option Addr} {sl_wtt : Array (Option Value)}
    (n_wtt : PySem.W.findIn K (.ref C) "without" = some (some (.ref f_wtt)))
    (l_wtt : K.lookup f_wtt = some ⟨oc_wtt, od_wtt, .func (PySem.W.fnOf "without" "Program.without" (defArgs sWtt) (defBody sWtt) (defScope sWtt) .none kV_wtt dc_wtt pm_wtt an_wtt cd_wtt ct_wtt), sl_wtt⟩)
    (d_wtt : PySem.W.codeIn K cd_wtt "Program.without" = true)
    (k_wtt : PySem.W.keepIn K (.ref f_wtt) = true)
    (i_wtt : PySem.W.isFn K (.ref f_wtt) = true)
    {f_oro : Addr} {oc_oro kV_oro dc_oro pm_oro cd_oro ct_oro : Value} {od_oro an_oro : Option Addr} {sl_oro : Array (Option Value)}
    (n_oro : PySem.W.findIn K (.ref C) "__or__" = some (some (.ref f_oro)))
    (l_oro : K.lookup f_oro = some ⟨oc_oro, od_oro, .func (PySem.W.fnOf "__or__" "Program.__or__" (defArgs sOro) (defBody sOro) (defScope sOro) .none kV_oro dc_oro pm_oro an_oro cd_oro ct_oro), sl_oro⟩)
    (d_oro : PySem.W.codeIn K cd_oro "Program.__or__" = true)
    (k_oro : PySem.W.keepIn K (.ref f_oro) = true)
    (i_oro : PySem.W.isFn K (.ref f_oro) = true)
    {f_pi : Addr} {oc_pi kV_pi dc_pi pm_pi cd_pi ct_pi : Value} {od_pi an_pi : Option Addr} {sl_pi : Array (Option Value)}
    (n_pi : PySem.W.findIn K (.ref C) "__init__" = some (some (.ref f_pi)))
    (l_pi : K.lookup f_pi = some ⟨oc_pi, od_pi, .func (PySem.W.fnOf "__init__" "Program.__init__" (defArgs sPi) (defBody sPi) (defScope sPi) .none kV_pi dc_pi pm_pi an_pi cd_pi ct_pi), sl_pi⟩)
    (d_pi : PySem.W.codeIn K cd_pi "Program.__init__" = true)
    (k_pi : PySem.W.keepIn K (.ref f_pi) = true)
    (i_pi : PySem.W.isFn K (.ref f_pi) = true)
    (fi_gt : PySem.W.fnIn K f_gt = true)
    {f_na : Addr} {oc_na kV_na dc_na pm_na cd_na ct_na : Value} {od_na an_na : Option Addr} {sl_na : Array (Option Value)}
    {p_na : Addr} {r_na : List Value}
    (n_na : PySem.W.findIn K (.ref C) "names" = some (some (.ref p_na)))
    (g_na : PySem.W.specialIn K (.ref p_na) "__get__" = some (some (.builtin "property.__get__")))
    (t_na : PySem.W.takesIn K (.ref p_na) = some true)
    (r_nax : PySem.W.recIn K p_na "property" = some (.ref f_na :: r_na))
    (l_na : K.lookup f_na = some ⟨oc_na, od_na, .func (PySem.W.fnOf "names" "Program.names" (defArgs sNa) (defBody sNa) (defScope sNa) .none kV_na dc_na pm_na an_na cd_na ct_na), sl_na⟩)
    (d_na : PySem.W.codeIn K cd_na "Program.names" = true)
    (k_na : PySem.W.keepIn K (.ref f_na) = true)
    {f_bo : Addr} {oc_bo kV_bo dc_bo pm_bo cd_bo ct_bo : Value} {od_bo an_bo : Option Addr} {sl_bo : Array (Option Value)}
    {p_bo : Addr} {r_bo : List Value}
    (n_bo : PySem.W.findIn K (.ref C) "bodies" = some (some (.ref p_bo)))
    (g_bo : PySem.W.specialIn K (.ref p_bo) "__get__" = some (some (.builtin "property.__get__")))
    (t_bo : PySem.W.takesIn K (.ref p_bo) = some true)
    (r_box : PySem.W.recIn K p_bo "property" = some (.ref f_bo :: r_bo))
    (l_bo : K.lookup f_bo = some ⟨oc_bo, od_bo, .func (PySem.W.fnOf "bodies" "Program.bodies" (defArgs sBo) (defBody sBo) (defScope sBo) .none kV_bo dc_bo pm_bo an_bo cd_bo ct_bo), sl_bo⟩)
    (d_bo : PySem.W.codeIn K cd_bo "Program.bodies" = true)
    (k_bo : PySem.W.keepIn K (.ref f_bo) = true)
    {f_of : Addr} {oc_of kV_of dc_of pm_of cd_of ct_of : Value} {od_of an_of : Option Addr} {sl_of : Array (Option Value)}
    {p_of : Addr} {r_of : List Value} {mc : Value}
    (y_of : PySem.W.typeIn K (.ref C) = some mc)
    (n_of : PySem.W.findCls K (.ref C) mc "of" = some (.get (.builtin "staticmethod.__get__") (.ref p_of) .none (.ref C)))
    (r_ofx : PySem.W.recIn K p_of "staticmethod" = some (.ref f_of :: r_of))
    (l_of : K.lookup f_of = some ⟨oc_of, od_of, .func (PySem.W.fnOf "of" "Program.of" (defArgs sPo) (defBody sPo) (defScope sPo) .none kV_of dc_of pm_of an_of cd_of ct_of), sl_of⟩)
    (d_of : PySem.W.codeIn K cd_of "Program.of" = true)
    (k_of : PySem.W.keepIn K (.ref f_of) = true)
    (s_of : smB K C mc p_of f_of = true)
    {f_pls : Addr} {oc_pls kV_pls dc_pls pm_pls cd_pls ct_pls : Value} {od_pls an_pls : Option Addr} {sl_pls : Array (Option Value)}
    {T_pls dT : Addr} {tc_pls : Value} {td_pls : Option Addr} {ti_pls : Array Value} {tn_pls : Nat} {ts_pls : Array (Option Value)} {te_pls : Option Addr} {tf_pls : Array Value} {tm_pls : Nat} {tq_pls : Array (Option Value)}
    (n_pls : PySem.W.nsIn K mainGlobals "placed_statements" = some (some (.ref f_pls)))
    (l_pls : K.lookup f_pls = some ⟨oc_pls, od_pls, .func (PySem.W.fnOf "placed_statements" "placed_statements" (defArgs sPls) (defBody sPls) (defScope sPls) (.ref T_pls) kV_pls dc_pls pm_pls an_pls cd_pls ct_pls), sl_pls⟩)
    (d_pls : PySem.W.codeIn K cd_pls "placed_statements" = true)
    (k_pls : PySem.W.keepIn K (.ref f_pls) = true)
    (T_plsx : K.lookup T_pls = some ⟨tc_pls, td_pls, .seq ti_pls tn_pls, ts_pls⟩)
    (v_pls : ti_pls = [Value.ref dT].toArray)
    (T_plsy : K.lookup dT = some ⟨.type "tuple", te_pls, .seq tf_pls tm_pls, tq_pls⟩)
    (w_pls : tf_pls = [].toArray)
    (z_int : PySem.W.nsIn K mainGlobals "int" = some none)
    (z_len : PySem.W.nsIn K mainGlobals "len" = some none)
    (z_abs : PySem.W.nsIn K mainGlobals "abs" = some none)
    (z_max : PySem.W.nsIn K mainGlobals "max" = some none)
    (z_min : PySem.W.nsIn K mainGlobals "min" = some none)
    (z_isinstance : PySem.W.nsIn K mainGlobals "isinstance" = some none)
    (z_range : PySem.W.nsIn K mainGlobals "range" = some none)
    (z_bool : PySem.W.nsIn K mainGlobals "bool" = some none)
    (z_tuple : PySem.W.nsIn K mainGlobals "tuple" = some none)
    (z_all : PySem.W.nsIn K mainGlobals "all" = some none)
    (z_any : PySem.W.nsIn K mainGlobals "any" = some none)
    (z_sum : PySem.W.nsIn K mainGlobals "sum" = some none)
    (z_enumerate : PySem.W.nsIn K mainGlobals "enumerate" = some none)
    (z_list : PySem.W.nsIn K mainGlobals "list" = some none)
    (z_str : PySem.W.nsIn K mainGlobals "str" = some none)
    (z_sorted : PySem.W.nsIn K mainGlobals "sorted" = some none)
    (z_set : PySem.W.nsIn K mainGlobals "set" = some none)
    (z_dict : PySem.W.nsIn K mainGlobals "dict" = some none)
    (rC : pgCB K C = true)
    (rG : ownB K CG = true)
    (mkC : mkB K C = true)
    (mkG : mkB K CG = true)
    (sC : sfB K C = true)
    (kC : kitB K C CG = true) :
    ∃ fd : FuncData, (∀ (s : Shared) (v : Value), BindsTo s fd ⟨[v], []⟩ [("_law_script", v)]) ∧ ∀ base : Heap, K.In base → base.Ns mainGlobals mg → FnOk l.prog w K mg base CX0 18 fa fd ["_law_script"] (spLaw K) := by
  have e := hfa.symm.trans (PySem.W.mg_of X G n_law)
  cases e
  have no : ∀ {x : Str}, PySem.W.nsIn K mainGlobals x = some none → mg x = none := fun z => PySem.W.mg_none_of X G z
  have at_ : ∀ {x : Str} {v : Value}, PySem.W.nsIn K mainGlobals x = some (some v) → mg x = some v := fun z => PySem.W.mg_of X G z
  have F_bin := fun_mk (st := sBin) l_bin d_bin k_bin
  have b_bin := F_bin.binds (ps := ["statement"]) fun _ _ _ _ _ _ us hl => match us, hl with | [_], _ => rfl
  have F_sof := fun_mk (st := sSof) l_sof d_sof k_sof
  have b_sof := F_sof.binds (ps := ["body", "word"]) fun _ _ _ _ _ _ us hl => match us, hl with | [_, _], _ => rfl
  have F_pw := fun_mk (st := sPw) l_pw d_pw k_pw
  have b_pw := F_pw.binds (ps := ["body", "path"]) fun _ _ _ _ _ _ us hl => match us, hl with | [_, _], _ => rfl
  have F_wp := fun_mk (st := sWp) l_wp d_wp k_wp
  have b_wp := F_wp.binds (ps := ["body", "path", "part"]) fun _ _ _ _ _ _ us hl => match us, hl with | [_, _, _], _ => rfl
  have F_plain := fun_mk (st := sPlain) l_plain d_plain k_plain
  have b_plain := F_plain.binds (ps := ["value"]) fun _ _ _ _ _ _ us hl => match us, hl with | [_], _ => rfl
  have F_bet := fun_mk (st := sBet) l_bet d_bet k_bet
  have b_bet := F_bet.binds (ps := ["value", "least", "greatest"]) fun _ _ _ _ _ _ us hl => match us, hl with | [_, _, _], _ => rfl
  have F_nm := fun_mk (st := sNm) l_nm d_nm k_nm
  have b_nm := F_nm.binds (ps := ["value"]) fun _ _ _ _ _ _ us hl => match us, hl with | [_], _ => rfl
  have F_wt := fun_mk (st := sWt) l_wt d_wt k_wt
  have b_wt := F_wt.binds (ps := ["value"]) fun _ _ _ _ _ _ us hl => match us, hl with | [_], _ => rfl
  have F_br := fun_mk (st := sBr) l_br d_br k_br
  have b_br := F_br.binds (ps := ["value"]) fun _ _ _ _ _ _ us hl => match us, hl with | [_], _ => rfl
  have F_inn := fun_mk (st := sInn) l_inn d_inn k_inn
  have b_inn := F_inn.binds (ps := ["value"]) fun _ _ _ _ _ _ us hl => match us, hl with | [_], _ => rfl
  have F_lb := fun_mk (st := sLb) l_lb d_lb k_lb
  have b_lb := F_lb.binds (ps := ["value", "depth", "left"]) fun _ _ _ _ _ _ us hl => match us, hl with | [_, _, _], _ => rfl
  have F_ib := fun_mk (st := sIb) l_ib d_ib k_ib
  have b_ib := F_ib.binds (ps := ["value"]) fun _ _ _ _ _ _ us hl => match us, hl with | [_], _ => rfl
  have F_nc := fun_mk (st := sNc) l_nc d_nc k_nc
  have b_nc := F_nc.binds (ps := ["body"]) fun _ _ _ _ _ _ us hl => match us, hl with | [_], _ => rfl
  have F_ap := fun_mk (st := sAp) l_ap d_ap k_ap
  have b_ap := F_ap.binds (ps := ["bodies"]) fun _ _ _ _ _ _ us hl => match us, hl with | [_], _ => rfl
  have F_cn := fun_mk (st := sCn) l_cn d_cn k_cn
  have b_cn := F_cn.binds (ps := ["free", "name"]) fun _ _ _ _ _ _ us hl => match us, hl with | [_, _], _ => rfl
  have F_cf := fun_mk (st := sCf) l_cf d_cf k_cf
  have b_cf := F_cf.binds (ps := ["free"]) fun _ _ _ _ _ _ us hl => match us, hl with | [_], _ => rfl
  have F_pf := fun_mk (st := sPf) l_pf d_pf k_pf
  have b_pf := F_pf.binds (ps := ["free", "place"]) fun _ _ _ _ _ _ us hl => match us, hl with | [_, _], _ => rfl
  have F_put := fun_mk (st := sPu) l_put d_put k_put
  have b_put := F_put.binds (ps := ["free", "place", "part"]) fun _ _ _ _ _ _ us hl => match us, hl with | [_, _, _], _ => rfl
  have F_co := fun_mk (st := sCo) l_co d_co k_co
  have b_co := F_co.binds (ps := ["free", "name"]) fun _ _ _ _ _ _ us hl => match us, hl with | [_, _], _ => rfl
  have F_ra := fun_mk (st := sRa) l_ra d_ra k_ra
  have b_ra := F_ra.binds (ps := ["free", "name"]) fun _ _ _ _ _ _ us hl => match us, hl with | [_, _], _ => rfl
  have F_ks := fun_mk (st := sKs) l_ks d_ks k_ks
  have b_ks := F_ks.binds (ps := ["free"]) fun _ _ _ _ _ _ us hl => match us, hl with | [_], _ => rfl
  have F_uk := fun_mk (st := sUk) l_uk d_uk k_uk
  have b_uk := F_uk.binds (ps := ["free"]) fun _ _ _ _ _ _ us hl => match us, hl with | [_], _ => rfl
  have F_cs := fun_mk (st := sCs) l_cs d_cs k_cs
  have b_cs := F_cs.binds (ps := ["free", "knot", "ahead"]) fun _ _ _ _ _ _ us hl => match us, hl with | [_, _, _], _ => rfl
  have F_ko := fun_mk (st := sKo) l_ko d_ko k_ko
  have b_ko := F_ko.binds (ps := ["free", "name"]) fun _ _ _ _ _ _ us hl => match us, hl with | [_, _], _ => rfl
  have F_dice := fun_mk (st := LD.sDice) l_dice d_dice k_dice
  have b_dice := F_dice.binds (ps := ["_law_script", "_law_at"]) fun _ _ _ _ _ _ us hl => match us, hl with | [_, _], _ => rfl
  have F_roll := fun_mk (st := LD.sRoll) l_roll d_roll k_roll
  have b_roll := F_roll.binds (ps := ["_law_dice_here", "_law_total"]) fun _ _ _ _ _ _ us hl => match us, hl with | [_, _], _ => rfl
  have F_one := fun_mk (st := LD.sOneOf) l_one d_one k_one
  have b_one := F_one.binds (ps := ["_law_dice_here", "_law_items"]) fun _ _ _ _ _ _ us hl => match us, hl with | [_, _], _ => rfl
  have F_mx := fun_mk (st := sMx) l_mx d_mx k_mx
  have b_mx := F_mx.binds (ps := ["_law_dice_here", "_law_items"]) fun _ _ _ _ _ _ us hl => match us, hl with | [_, _], _ => rfl
  have F_we := fun_mk (st := sWe) l_we d_we k_we
  have b_we := F_we.binds (ps := ["_law_dice_here"]) fun _ _ _ _ _ _ us hl => match us, hl with | [_], _ => rfl
  have F_ls := fun_mk (st := sLs) l_ls d_ls k_ls
  have b_ls := F_ls.binds (ps := ["_law_dice_here", "_law_deep", "_law_names", "_law_room", "_law_extra"]) fun _ _ _ _ _ _ us hl => match us, hl with | [_, _, _, _, _], _ => rfl
  have F_ly := fun_mk (st := sLy) l_ly d_ly k_ly
  have b_ly := F_ly.binds (ps := ["_law_dice_here", "_law_deep", "_law_names", "_law_room", "_law_extra"]) fun _ _ _ _ _ _ us hl => match us, hl with | [_, _, _, _, _], _ => rfl
  have F_lo := fun_mk (st := sLo) l_lo d_lo k_lo
  have b_lo := F_lo.binds (ps := ["_law_dice_here", "_law_much", "_law_extra"]) fun _ _ _ _ _ _ us hl => match us, hl with | [_, _, _], _ => rfl
  have F_li := fun_mk (st := sLi) l_li d_li k_li
  have b_li := F_li.binds (ps := ["_law_statement_here"]) fun _ _ _ _ _ _ us hl => match us, hl with | [_], _ => rfl
  have F_lr := fun_mk (st := sLr) l_lr d_lr k_lr
  have b_lr := F_lr.binds (ps := ["_law_body_here"]) fun _ _ _ _ _ _ us hl => match us, hl with | [_], _ => rfl
  have F_qc := fun_mk (st := sQc) l_qc d_qc k_qc
  have b_qc := F_qc.binds (ps := ["_law_body_here"]) fun _ _ _ _ _ _ us hl => match us, hl with | [_], _ => rfl
  have F_re := fun_mk (st := sRe) l_re d_re k_re
  have b_re := F_re.binds (ps := ["_law_bodies_here", "_law_start"]) fun _ _ _ _ _ _ us hl => match us, hl with | [_, _], _ => rfl
  have F_dk := fun_mk (st := sDk) l_dk d_dk k_dk
  have b_dk := F_dk.binds (ps := ["_law_bodies_here"]) fun _ _ _ _ _ _ us hl => match us, hl with | [_], _ => rfl
  have F_tl := fun_mk (st := sTl) l_tl d_tl k_tl
  have b_tl := F_tl.binds (ps := ["_law_thing", "_law_bodies_here"]) fun _ _ _ _ _ _ us hl => match us, hl with | [_, _], _ => rfl
  have F_hn := fun_mk (st := sHn) l_hn d_hn k_hn
  have b_hn := F_hn.binds (ps := ["_law_dice_here"]) fun _ _ _ _ _ _ us hl => match us, hl with | [_], _ => rfl
  have F_law := fun_mk (st := sLaw) l_law d_law k_law
  have b_law := F_law.binds (ps := ["_law_script"]) fun _ _ _ _ _ _ us hl => match us, hl with | [_], _ => rfl
  have F_gi := fun_mk (st := sGi) l_gi d_gi k_gi
  have b_gi := F_gi.binds (ps := ["self", "table"]) fun _ _ _ _ _ _ us hl => match us, hl with | [_, _], _ => rfl
  have F_gt := fun_mk (st := sGt) l_gt d_gt k_gt
  have b_gt := F_gt.binds (ps := ["self", "at"]) fun _ _ _ _ _ _ us hl => match us, hl with | [_, _], _ => rfl
  have F_ct := fun_mk (st := sCt) l_ct d_ct k_ct
  have b_ct := F_ct.binds (ps := ["self", "value"]) fun _ _ _ _ _ _ us hl => match us, hl with | [_, _], _ => rfl
  have F_wy := fun_mk (st := sWy) l_wy d_wy k_wy
  have b_wy := F_wy.binds (ps := ["self", "name", "body"]) fun _ _ _ _ _ _ us hl => match us, hl with | [_, _, _], _ => rfl
  have F_wtt := fun_mk (st := sWtt) l_wtt d_wtt k_wtt
  have b_wtt := F_wtt.binds (ps := ["self", "name"]) fun _ _ _ _ _ _ us hl => match us, hl with | [_, _], _ => rfl
  have F_oro := fun_mk (st := sOro) l_oro d_oro k_oro
  have b_oro := F_oro.binds (ps := ["self", "other"]) fun _ _ _ _ _ _ us hl => match us, hl with | [_, _], _ => rfl
  have F_na := fun_mk (st := sNa) l_na d_na k_na
  have b_na := F_na.binds (ps := ["self"]) fun _ _ _ _ _ _ us hl => match us, hl with | [_], _ => rfl
  have F_bo := fun_mk (st := sBo) l_bo d_bo k_bo
  have b_bo := F_bo.binds (ps := ["self"]) fun _ _ _ _ _ _ us hl => match us, hl with | [_], _ => rfl
  have F_of := fun_mk (st := sPo) l_of d_of k_of
  have b_of := F_of.binds (ps := ["bodies"]) fun _ _ _ _ _ _ us hl => match us, hl with | [_], _ => rfl
  have F_pi := fun_mk (st := sPi) l_pi d_pi k_pi
  have R := pg_of rC
  have oG := own_of rG
  have sf : PySem.W.selfFirst K C = true := sC
  simp only [mkB, Bool.and_eq_true] at mkC mkG
  simp only [kitB, Bool.and_eq_true, beq_iff_eq] at kC
  obtain ⟨kt1, kt2, kt3, kt4⟩ := kC
  simp only [smB, Bool.and_eq_true, beq_iff_eq] at s_of
  have TD : LD.TxtD mg := ⟨no z_int, no z_len, no z_abs, no z_max⟩
  have TD8 : FR.TxtD mg := ⟨no z_isinstance, no z_dict, no z_len, no z_all, no z_sum⟩
  have TN : TxtN mg := ⟨no z_isinstance, no z_str, no z_len, no z_all, ⟨_, at_ aML⟩, ⟨_, at_ aLT⟩⟩
  have TI : TxtI mg := ⟨no z_isinstance, no z_tuple, no z_str, no z_len, no z_all⟩
  have TP : TxtP mg := ⟨no z_isinstance, no z_sorted, no z_len, no z_tuple⟩
  have TQ : TxtQ mg := ⟨no z_isinstance, no z_str, no z_len, no z_tuple, no z_dict⟩
  have TX : TxtX mg := ⟨no z_len, no z_any⟩
  have TG : TxtG mg := ⟨no z_isinstance, no z_tuple, no z_len⟩
  have TL : TxtLw mg := ⟨no z_range, no z_max, no z_min, no z_len⟩
  subst v_pls w_pls
  have F_pls : FunD K "placed_statements" "placed_statements" (defArgs sPls) (defBody sPls) (defScope sPls) [V.ref dT] [] f_pls _ := ⟨⟨oc_pls, od_pls, .ref T_pls, kV_pls, dc_pls, pm_pls, an_pls, cd_pls, ct_pls, sl_pls, rfl, l_pls, d_pls, .inr ⟨List.cons_ne_nil _ _, T_pls, _, [.ref dT], tn_pls, rfl, T_plsx, rfl, .cons rfl .nil⟩, .inl rfl⟩, k_pls⟩
  obtain ⟨⟨ds_pls, v_pls, b1_pls⟩, b2_pls⟩ := pls_binds F_pls
  have hT : ∀ H, SqT K H dT [] := fun H => .inr ⟨_, _, _, T_plsy, rfl, rfl, Nat.zero_le _, .nil⟩
  refine ⟨PySem.W.fnOf "law" "law" (defArgs sLaw) (defBody sLaw) (defScope sLaw) .none kV_law dc_law pm_law an_law cd_law ct_law, fun s v => .of_eq rfl, fun base _ _ => ?_⟩
  have GPl : FnOk l.prog w K mg base CX0 1 f_plain _ ["value"] (spPlain K) := ok_plain F_plain (no z_isinstance) (no z_int) (no z_bool)
  have gBet : Glo l.prog w K mg base "is_between" 2 ["value", "least", "greatest"] spBetX := ⟨_, _, ok_betX F_bet GPl (at_ n_plain) k_plain b_plain, at_ n_bet, k_bet, b_bet⟩
  have gNm : Glo l.prog w K mg base "is_name" 3 ["value"] (spNm K) := ⟨_, _, ok_nm F_nm TN gBet, at_ n_nm, k_nm, b_nm⟩
  have gWt : Glo l.prog w K mg base "_is_weight" 3 ["value"] spWt := ⟨_, _, ok_wt F_wt (at_ aMW) gBet, at_ n_wt, k_wt, b_wt⟩
  have gBr : Glo l.prog w K mg base "_is_branch" 4 ["value"] spBr := ⟨_, _, ok_br F_br TI gWt, at_ n_br, k_br, b_br⟩
  have gInn : ∀ n, Glo l.prog w K mg base "_inner_of" 5 ["value"] (spInn n) := fun n => ⟨_, _, ok_inn F_inn TI gBet gNm gWt gBr, at_ n_inn, k_inn, b_inn⟩
  have gLb : Glo l.prog w K mg base "_left_behind" 10 ["value", "depth", "left"] (spLb 5) := ⟨_, _, ok_left F_lb TI gInn (at_ n_lb) k_lb b_lb 5, at_ n_lb, k_lb, b_lb⟩
  have gIb : Glo l.prog w K mg base "is_body" 11 ["value"] spIb := ⟨_, _, ok_ib F_ib (at_ aMD) (at_ aMS) gLb, at_ n_ib, k_ib, b_ib⟩
  have gBin : ∀ n, Glo l.prog w K mg base "bodies_in" 1 ["statement"] (spBin n) := fun n => ⟨_, _, ok_bin F_bin (no z_tuple), at_ n_bin, k_bin, b_bin⟩
  have GPls : FnOk l.prog w K mg base CX0 6 f_pls _ ["body", "path"] (spPls K 5) := ok_placed F_pls gBin (at_ n_pls) k_pls b2_pls (no z_enumerate) 5
  have gSof : Glo l.prog w K mg base "statements_of" 7 ["body", "word"] (spSof K 5) := ⟨_, _, ok_sof F_sof GPls (at_ n_pls) k_pls b1_pls v_pls hT, at_ n_sof, k_sof, b_sof⟩
  have gNc : Glo l.prog w K mg base "_names_called" 8 ["body"] (spNc K) := ⟨_, _, ok_nc F_nc gSof, at_ n_nc, k_nc, b_nc⟩
  have gAp : Glo l.prog w K mg base "_are_program" 12 ["bodies"] spAp := ⟨_, _, ok_ap F_ap TD8 (at_ aMP) (at_ aMS) gBet gNm gIb gNc GPls (at_ n_pls) k_pls b1_pls v_pls hT, at_ n_ap, k_ap, b_ap⟩
  have M : Mk K C f_pi := ⟨mkC.1, n_pi, i_pi, mkC.2⟩
  have MG : Mk K CG f_gi := ⟨mkG.1, n_gi, i_gi, mkG.2⟩
  have GG : FnOk l.prog w K mg base CX0 1 f_gi _ ["self", "table"] (spGi CG) := ok_gi F_gi oG.cl kt4
  have GR1 : FnRs l.prog w K mg base 13 f_pi ["_given"] (spPi K C CG) := ok_pis GPls (at_ n_pls) k_pls b1_pls v_pls hT R oG kt4 kt1 kt2 TP (at_ aG) gAp F_pi (by decide +kernel) (by decide +kernel) (by decide)
  have Ga : FnRs l.prog w K mg base 13 f_pi ["d", "c", "a", "b"] (spPi K C CG) := ok_pis GPls (at_ n_pls) k_pls b1_pls v_pls hT R oG kt4 kt1 kt2 TP (at_ aG) gAp F_pi (by decide +kernel) (by decide +kernel) (by decide)
  have Gb : FnRs l.prog w K mg base 13 f_pi ["c", "b", "d", "a"] (spPi K C CG) := ok_pis GPls (at_ n_pls) k_pls b1_pls v_pls hT R oG kt4 kt1 kt2 TP (at_ aG) gAp F_pi (by decide +kernel) (by decide +kernel) (by decide)
  have Gc : FnRs l.prog w K mg base 13 f_pi ["a", "c"] (spPi K C CG) := ok_pis GPls (at_ n_pls) k_pls b1_pls v_pls hT R oG kt4 kt1 kt2 TP (at_ aG) gAp F_pi (by decide +kernel) (by decide +kernel) (by decide)
  have Gd : FnRs l.prog w K mg base 13 f_pi ["b", "c", "d"] (spPi K C CG) := ok_pis GPls (at_ n_pls) k_pls b1_pls v_pls hT R oG kt4 kt1 kt2 TP (at_ aG) gAp F_pi (by decide +kernel) (by decide +kernel) (by decide)
  have Ge : FnRs l.prog w K mg base 13 f_pi ["a", "b"] (spPi K C CG) := ok_pis GPls (at_ n_pls) k_pls b1_pls v_pls hT R oG kt4 kt1 kt2 TP (at_ aG) gAp F_pi (by decide +kernel) (by decide +kernel) (by decide)
  have Gf : FnRs l.prog w K mg base 13 f_pi ["c"] (spPi K C CG) := ok_pis GPls (at_ n_pls) k_pls b1_pls v_pls hT R oG kt4 kt1 kt2 TP (at_ aG) gAp F_pi (by decide +kernel) (by decide +kernel) (by decide)
  have gOf : OfG l.prog w K mg base C := ⟨f_of, _, ok_of F_of M GR1 (at_ aC) MG GG (at_ aG) b_gi, b_of, mc, p_of, ⟨s_of.1.1, s_of.1.2⟩, ⟨n_of, ⟨_, r_ofx⟩, s_of.2.1, s_of.2.2⟩⟩
  have mCt : Met l.prog w K mg base C "__contains__" 1 ["self", "value"] (spCt K C) := ⟨_, _, ⟨n_ct, i_ct⟩, k_ct, ok_ct F_ct R TQ, b_ct⟩
  have pna : PMet l.prog w K mg base C "names" 1 ["self"] (spNa K C) := ⟨p_na, f_na, _, ⟨n_na, g_na, t_na, ⟨_, r_nax⟩⟩, ok_na F_na R TQ, b_na⟩
  have pbo : PMet l.prog w K mg base C "bodies" 1 ["self"] (spBo K C) := ⟨p_bo, f_bo, _, ⟨n_bo, g_bo, t_bo, ⟨_, r_box⟩⟩, ok_bo F_bo R TQ, b_bo⟩
  have gCn : Glo l.prog w K mg base "check_name" 2 ["free", "name"] (spCn K C) := ⟨_, _, ok_cn F_cn mCt, at_ n_cn, k_cn, b_cn⟩
  have GGt : FnOk l.prog w K mg base CX0 3 f_gt _ ["self", "at"] (spGt K C) := ok_gt F_gt R gCn
  obtain ⟨mGt, eGt⟩ : ∃ m : Met l.prog w K mg base C "__getitem__" 3 ["self", "at"] (spGt K C), m.f = f_gt := ⟨⟨f_gt, _, ⟨n_gt, i_gt⟩, k_gt, GGt, b_gt⟩, rfl⟩
  have hfi : PySem.W.fnIn K mGt.f = true := by rw [eGt]; exact fi_gt
  have gCf : Glo l.prog w K mg base "check_free" 1 ["free"] (spCf K C) := ⟨_, _, ok_cf F_cf R (no z_isinstance) (at_ aC) kt3, at_ n_cf, k_cf, b_cf⟩
  have gCo : Glo l.prog w K mg base "calls_of" 9 ["free", "name"] (spCo K C) := ⟨_, _, ok_co F_co (no z_tuple) (no z_sorted) (no z_set) gCf gCn gNc mGt hfi, at_ n_co, k_co, b_co⟩
  have gRa : Glo l.prog w K mg base "reaches" 10 ["free", "name"] (spRa K C) := ⟨_, _, ok_ra F_ra (no z_len) (no z_tuple) (no z_sorted) gCf gCn gCo, at_ n_ra, k_ra, b_ra⟩
  have gUk : Glo l.prog w K mg base "_unordered_knots" 11 ["free"] (spUk K C) := ⟨_, _, ok_uk F_uk R (no z_tuple) pna gRa, at_ n_uk, k_uk, b_uk⟩
  have gCs : Glo l.prog w K mg base "_calls_only" 10 ["free", "knot", "ahead"] (spCs K C) := ⟨_, _, ok_cs F_cs (no z_all) gCo, at_ n_cs, k_cs, b_cs⟩
  have gKs : Glo l.prog w K mg base "knots" 12 ["free"] (spKs K C) := ⟨_, _, ok_ks F_ks (no z_len) (no z_tuple) gCf gUk gCs, at_ n_ks, k_ks, b_ks⟩
  have gKo : Glo l.prog w K mg base "knot_of" 13 ["free", "name"] (spKo K C) := ⟨_, _, ok_ko F_ko gCf gCn gKs, at_ n_ko, k_ko, b_ko⟩
  have gPw : Glo l.prog w K mg base "part_within" 1 ["body", "path"] spPw := ⟨_, _, ok_pw F_pw, at_ n_pw, k_pw, b_pw⟩
  have gWp : Glo l.prog w K mg base "with_part" 1 ["body", "path", "part"] spWp := ⟨_, _, ok_wp F_wp (no z_len), at_ n_wp, k_wp, b_wp⟩
  have gPf : Glo l.prog w K mg base "_part_of" 5 ["free", "place"] (spPf K C) := ⟨_, _, ok_pf F_pf TG mCt mGt hfi gPw, at_ n_pf, k_pf, b_pf⟩
  have mWy : Met l.prog w K mg base C "with_body" 16 ["self", "name", "body"] (spWy K C) := ⟨_, _, ⟨n_wy, i_wy⟩, k_wy, ok_wy F_wy R (at_ aC) gOf gNm, b_wy⟩
  have mWt : Met l.prog w K mg base C "without" 16 ["self", "name"] (spWtt K C) := ⟨_, _, ⟨n_wtt, i_wtt⟩, k_wtt, ok_wtt F_wtt R TX (at_ aC) gCn gNc gOf, b_wtt⟩
  have mOr : Met l.prog w K mg base C "__or__" 16 ["self", "other"] (spOro K C) := ⟨_, _, ⟨n_oro, i_oro⟩, k_oro, ok_oro F_oro R kt3 (no z_isinstance) (no z_any) (at_ aC) gOf pna mCt, b_oro⟩
  have gPut : Glo l.prog w K mg base "put_at" 17 ["free", "place", "part"] (spPut K C) := ⟨_, _, ok_put F_put R gCf gPf gWp mGt hfi mWy, at_ n_put, k_put, b_put⟩
  have gR : Glo l.prog w K mg base "_law_roll" 1 ["_law_dice_here", "_law_total"] spRoll := ⟨_, _, ok_roll F_roll TD.mI, at_ n_roll, k_roll, b_roll⟩
  have gO : Glo l.prog w K mg base "_law_one_of" 2 ["_law_dice_here", "_law_items"] spOneOf := ⟨_, _, ok_oneOf F_one TD F_roll (at_ n_roll) k_roll b_roll, at_ n_one, k_one, b_one⟩
  have gD : Glo l.prog w K mg base "_law_dice" 1 ["_law_script", "_law_at"] (spDice K) := ⟨_, _, ok_dice F_dice TD, at_ n_dice, k_dice, b_dice⟩
  have gX : Glo l.prog w K mg base "_law_mixed" 2 ["_law_dice_here", "_law_items"] spMx := ⟨_, _, ok_mx F_mx TD (no z_list) (no z_range) gR, at_ n_mx, k_mx, b_mx⟩
  have gWe : Glo l.prog w K mg base "_law_weight" 3 ["_law_dice_here"] spWe := ⟨_, _, ok_we F_we gO, at_ n_we, k_we, b_we⟩
  have dr := ok_draw F_ls F_ly (no z_range) (no z_tuple) gR gO gWe (at_ n_ly) k_ly b_ly (at_ n_ls) k_ls b_ls
  have GLy : FnOk l.prog w K mg base CX0 9 f_ly _ P5 spLyA := fn_or ((dr 2).1.mono (by decide)) (dr 3).1
  have gLo : Glo l.prog w K mg base "_law_bodies" 10 ["_law_dice_here", "_law_much", "_law_extra"] spLo := ⟨_, _, ok_lo F_lo (no z_sorted) gR gX GLy (at_ n_ly) k_ly b_ly, at_ n_lo, k_lo, b_lo⟩
  have gLi : ∀ n, Glo l.prog w K mg base "_law_inner" 1 ["_law_statement_here"] (spLi n) := fun n => ⟨_, _, ok_li F_li (no z_list), at_ n_li, k_li, b_li⟩
  have gLr : Glo l.prog w K mg base "_law_sorts" 6 ["_law_body_here"] (spLr 5) := ⟨_, _, ok_sorts F_lr gLi (at_ n_lr) k_lr b_lr 5, at_ n_lr, k_lr, b_lr⟩
  have gQc : Glo l.prog w K mg base "_law_called" 7 ["_law_body_here"] spQc := ⟨_, _, ok_qc F_qc (no z_sorted) (no z_set) gLr, at_ n_qc, k_qc, b_qc⟩
  have gRe : Glo l.prog w K mg base "_law_reached" 8 ["_law_bodies_here", "_law_start"] spRe := ⟨_, _, ok_re F_re (no z_sorted) gQc, at_ n_re, k_re, b_re⟩
  have gDk : Glo l.prog w K mg base "_law_due_knots" 9 ["_law_bodies_here"] spDk := ⟨_, _, ok_dk F_dk (no z_dict) (no z_sorted) (no z_set) (no z_tuple) (no z_list) gRe, at_ n_dk, k_dk, b_dk⟩
  have gTl : Glo l.prog w K mg base "_law_told" 14 ["_law_thing", "_law_bodies_here"] (spTl K C) := ⟨_, _, ok_tl F_tl (no z_list) (no z_enumerate) gKs gDk gRa gRe gKo, at_ n_tl, k_tl, b_tl⟩
  have gHn : Glo l.prog w K mg base "_law_chain" 3 ["_law_dice_here"] spHn := ⟨_, _, ok_hn F_hn (no z_enumerate) (no z_range) (no z_tuple) gR gX gO, at_ n_hn, k_hn, b_hn⟩
  exact ok_law F_law R TL (at_ aC) M sf Ga Gb Gc Gd Ge Gf gOf gD gLo gHn gTl pbo gKs gRa gKo gPut mOr mWt
end FR
set_option Elab.async false
set_option linter.all false
set_option maxRecDepth 100000
set_option maxHeartbeats 4000000
/-! the facts that the head tells -/
namespace FR
open PySem PySem.Spec PyProof.Rows L2 LD
theorem all_of {l : PySem.W.OpenLaw} {w : World} {K : PySem.W.Frag} {h : Heap} {mg : Str → Option Value} {fa : Addr} (X : K.In h) (G : h.Ns mainGlobals mg) (hfa : mg "law" = some (.ref fa)) (c : HX.Tells HB.dns HB.fcs K) :
    ∃ fd : FuncData, (∀ (s : Shared) (v : Value), BindsTo s fd ⟨[v], []⟩ [("_law_script", v)]) ∧ ∀ base : Heap, K.In base → base.Ns mainGlobals mg → FnOk l.prog w K mg base CX0 18 fa fd ["_law_script"] (spLaw K) := by
  have aC : PySem.W.nsIn K mainGlobals "Program" = some (some (.ref (He.ga K "Program"))) := c.is 0 rfl
  have aG : PySem.W.nsIn K mainGlobals "Given" = some (some (.ref (He.ga K "Given"))) := c.is 1 rfl
  have aMP : PySem.W.nsIn K mainGlobals "MAX_PROCEDURES" = some (some (.int 8 (HX.tokOf K "MAX_PROCEDURES"))) := c.is 2 rfl
  have aMS : PySem.W.nsIn K mainGlobals "MAX_STATEMENTS" = some (some (.int 60 (HX.tokOf K "MAX_STATEMENTS"))) := c.is 3 rfl
  have aMD : PySem.W.nsIn K mainGlobals "MAX_DEPTH" = some (some (.int 4 (HX.tokOf K "MAX_DEPTH"))) := c.is 4 rfl
  have aMW : PySem.W.nsIn K mainGlobals "MAX_WEIGHT" = some (some (.int 99 (HX.tokOf K "MAX_WEIGHT"))) := c.is 5 rfl
  have aML : PySem.W.nsIn K mainGlobals "MAX_LETTERS" = some (some (.int 8 (HX.tokOf K "MAX_LETTERS"))) := c.is 6 rfl
  have aLT : PySem.W.nsIn K mainGlobals "LETTERS" = some (some (.str lets (HX.tokOf K "LETTERS"))) := c.is 7 rfl
  have n_bin : PySem.W.nsIn K mainGlobals "bodies_in" = some (some (.ref (He.ga K "bodies_in"))) := c.is 8 rfl
  obtain ⟨oc_bin, kV_bin, dc_bin, pm_bin, cd_bin, ct_bin, od_bin, an_bin, sl_bin, l_bin, d_bin, k_bin⟩ := c.fn 0 HB.dn_bin rfl
  have l_bin : K.lookup (He.ga K "bodies_in") = some ⟨oc_bin, od_bin, .func (PySem.W.fnOf "bodies_in" "bodies_in" (defArgs sBin) (defBody sBin) (defScope sBin) (HX.dfOf K (He.ga K "bodies_in")) kV_bin dc_bin pm_bin an_bin cd_bin ct_bin), sl_bin⟩ := l_bin
  rw [show HX.dfOf K (He.ga K "bodies_in") = .none from c.is 9 rfl] at l_bin
  have n_sof : PySem.W.nsIn K mainGlobals "statements_of" = some (some (.ref (He.ga K "statements_of"))) := c.is 10 rfl
  obtain ⟨oc_sof, kV_sof, dc_sof, pm_sof, cd_sof, ct_sof, od_sof, an_sof, sl_sof, l_sof, d_sof, k_sof⟩ := c.fn 1 HB.dn_sof rfl
  have l_sof : K.lookup (He.ga K "statements_of") = some ⟨oc_sof, od_sof, .func (PySem.W.fnOf "statements_of" "statements_of" (defArgs sSof) (defBody sSof) (defScope sSof) (HX.dfOf K (He.ga K "statements_of")) kV_sof dc_sof pm_sof an_sof cd_sof ct_sof), sl_sof⟩ := l_sof
  rw [show HX.dfOf K (He.ga K "statements_of") = .none from c.is 11 rfl] at l_sof
  have n_pw : PySem.W.nsIn K mainGlobals "part_within" = some (some (.ref (He.ga K "part_within"))) := c.is 12 rfl
  obtain ⟨oc_pw, kV_pw, dc_pw, pm_pw, cd_pw, ct_pw, od_pw, an_pw, sl_pw, l_pw, d_pw, k_pw⟩ := c.fn 2 HB.dn_pw rfl
  have l_pw : K.lookup (He.ga K "part_within") = some ⟨oc_pw, od_pw, .func (PySem.W.fnOf "part_within" "part_within" (defArgs sPw) (defBody sPw) (defScope sPw) (HX.dfOf K (He.ga K "part_within")) kV_pw dc_pw pm_pw an_pw cd_pw ct_pw), sl_pw⟩ := l_pw
  rw [show HX.dfOf K (He.ga K "part_within") = .none from c.is 13 rfl] at l_pw
  have n_wp : PySem.W.nsIn K mainGlobals "with_part" = some (some (.ref (He.ga K "with_part"))) := c.is 14 rfl
  obtain ⟨oc_wp, kV_wp, dc_wp, pm_wp, cd_wp, ct_wp, od_wp, an_wp, sl_wp, l_wp, d_wp, k_wp⟩ := c.fn 3 HB.dn_wp rfl
  have l_wp : K.lookup (He.ga K "with_part") = some ⟨oc_wp, od_wp, .func (PySem.W.fnOf "with_part" "with_part" (defArgs sWp) (defBody sWp) (defScope sWp) (HX.dfOf K (He.ga K "with_part")) kV_wp dc_wp pm_wp an_wp cd_wp ct_wp), sl_wp⟩ := l_wp
  rw [show HX.dfOf K (He.ga K "with_part") = .none from c.is 15 rfl] at l_wp
  have n_plain : PySem.W.nsIn K mainGlobals "is_plain_integer" = some (some (.ref (He.ga K "is_plain_integer"))) := c.is 16 rfl
  obtain ⟨oc_plain, kV_plain, dc_plain, pm_plain, cd_plain, ct_plain, od_plain, an_plain, sl_plain, l_plain, d_plain, k_plain⟩ := c.fn 4 HB.dn_plain rfl
  have l_plain : K.lookup (He.ga K "is_plain_integer") = some ⟨oc_plain, od_plain, .func (PySem.W.fnOf "is_plain_integer" "is_plain_integer" (defArgs sPlain) (defBody sPlain) (defScope sPlain) (HX.dfOf K (He.ga K "is_plain_integer")) kV_plain dc_plain pm_plain an_plain cd_plain ct_plain), sl_plain⟩ := l_plain
  rw [show HX.dfOf K (He.ga K "is_plain_integer") = .none from c.is 17 rfl] at l_plain
  have n_bet : PySem.W.nsIn K mainGlobals "is_between" = some (some (.ref (He.ga K "is_between"))) := c.is 18 rfl
  obtain ⟨oc_bet, kV_bet, dc_bet, pm_bet, cd_bet, ct_bet, od_bet, an_bet, sl_bet, l_bet, d_bet, k_bet⟩ := c.fn 5 HB.dn_bet rfl
  have l_bet : K.lookup (He.ga K "is_between") = some ⟨oc_bet, od_bet, .func (PySem.W.fnOf "is_between" "is_between" (defArgs sBet) (defBody sBet) (defScope sBet) (HX.dfOf K (He.ga K "is_between")) kV_bet dc_bet pm_bet an_bet cd_bet ct_bet), sl_bet⟩ := l_bet
  rw [show HX.dfOf K (He.ga K "is_between") = .none from c.is 19 rfl] at l_bet
  have n_nm : PySem.W.nsIn K mainGlobals "is_name" = some (some (.ref (He.ga K "is_name"))) := c.is 20 rfl
  obtain ⟨oc_nm, kV_nm, dc_nm, pm_nm, cd_nm, ct_nm, od_nm, an_nm, sl_nm, l_nm, d_nm, k_nm⟩ := c.fn 6 HB.dn_nm rfl
  have l_nm : K.lookup (He.ga K "is_name") = some ⟨oc_nm, od_nm, .func (PySem.W.fnOf "is_name" "is_name" (defArgs sNm) (defBody sNm) (defScope sNm) (HX.dfOf K (He.ga K "is_name")) kV_nm dc_nm pm_nm an_nm cd_nm ct_nm), sl_nm⟩ := l_nm
  rw [show HX.dfOf K (He.ga K "is_name") = .none from c.is 21 rfl] at l_nm
  have n_wt : PySem.W.nsIn K mainGlobals "_is_weight" = some (some (.ref (He.ga K "_is_weight"))) := c.is 22 rfl
  obtain ⟨oc_wt, kV_wt, dc_wt, pm_wt, cd_wt, ct_wt, od_wt, an_wt, sl_wt, l_wt, d_wt, k_wt⟩ := c.fn 7 HB.dn_wt rfl
  have l_wt : K.lookup (He.ga K "_is_weight") = some ⟨oc_wt, od_wt, .func (PySem.W.fnOf "_is_weight" "_is_weight" (defArgs sWt) (defBody sWt) (defScope sWt) (HX.dfOf K (He.ga K "_is_weight")) kV_wt dc_wt pm_wt an_wt cd_wt ct_wt), sl_wt⟩ := l_wt
  rw [show HX.dfOf K (He.ga K "_is_weight") = .none from c.is 23 rfl] at l_wt
  have n_br : PySem.W.nsIn K mainGlobals "_is_branch" = some (some (.ref (He.ga K "_is_branch"))) := c.is 24 rfl
  obtain ⟨oc_br, kV_br, dc_br, pm_br, cd_br, ct_br, od_br, an_br, sl_br, l_br, d_br, k_br⟩ := c.fn 8 HB.dn_br rfl
  have l_br : K.lookup (He.ga K "_is_branch") = some ⟨oc_br, od_br, .func (PySem.W.fnOf "_is_branch" "_is_branch" (defArgs sBr) (defBody sBr) (defScope sBr) (HX.dfOf K (He.ga K "_is_branch")) kV_br dc_br pm_br an_br cd_br ct_br), sl_br⟩ := l_br
  rw [show HX.dfOf K (He.ga K "_is_branch") = .none from c.is 25 rfl] at l_br
  have n_inn : PySem.W.nsIn K mainGlobals "_inner_of" = some (some (.ref (He.ga K "_inner_of"))) := c.is 26 rfl
  obtain ⟨oc_inn, kV_inn, dc_inn, pm_inn, cd_inn, ct_inn, od_inn, an_inn, sl_inn, l_inn, d_inn, k_inn⟩ := c.fn 9 HB.dn_inn rfl
  have l_inn : K.lookup (He.ga K "_inner_of") = some ⟨oc_inn, od_inn, .func (PySem.W.fnOf "_inner_of" "_inner_of" (defArgs sInn) (defBody sInn) (defScope sInn) (HX.dfOf K (He.ga K "_inner_of")) kV_inn dc_inn pm_inn an_inn cd_inn ct_inn), sl_inn⟩ := l_inn
  rw [show HX.dfOf K (He.ga K "_inner_of") = .none from c.is 27 rfl] at l_inn
  have n_lb : PySem.W.nsIn K mainGlobals "_left_behind" = some (some (.ref (He.ga K "_left_behind"))) := c.is 28 rfl
  obtain ⟨oc_lb, kV_lb, dc_lb, pm_lb, cd_lb, ct_lb, od_lb, an_lb, sl_lb, l_lb, d_lb, k_lb⟩ := c.fn 10 HB.dn_lb rfl
  have l_lb : K.lookup (He.ga K "_left_behind") = some ⟨oc_lb, od_lb, .func (PySem.W.fnOf "_left_behind" "_left_behind" (defArgs sLb) (defBody sLb) (defScope sLb) (HX.dfOf K (He.ga K "_left_behind")) kV_lb dc_lb pm_lb an_lb cd_lb ct_lb), sl_lb⟩ := l_lb
  rw [show HX.dfOf K (He.ga K "_left_behind") = .none from c.is 29 rfl] at l_lb
  have n_ib : PySem.W.nsIn K mainGlobals "is_body" = some (some (.ref (He.ga K "is_body"))) := c.is 30 rfl
  obtain ⟨oc_ib, kV_ib, dc_ib, pm_ib, cd_ib, ct_ib, od_ib, an_ib, sl_ib, l_ib, d_ib, k_ib⟩ := c.fn 11 HB.dn_ib rfl
  have l_ib : K.lookup (He.ga K "is_body") = some ⟨oc_ib, od_ib, .func (PySem.W.fnOf "is_body" "is_body" (defArgs sIb) (defBody sIb) (defScope sIb) (HX.dfOf K (He.ga K "is_body")) kV_ib dc_ib pm_ib an_ib cd_ib ct_ib), sl_ib⟩ := l_ib
  rw [show HX.dfOf K (He.ga K "is_body") = .none from c.is 31 rfl] at l_ib
  have n_nc : PySem.W.nsIn K mainGlobals "_names_called" = some (some (.ref (He.ga K "_names_called"))) := c.is 32 rfl
  obtain ⟨oc_nc, kV_nc, dc_nc, pm_nc, cd_nc, ct_nc, od_nc, an_nc, sl_nc, l_nc, d_nc, k_nc⟩ := c.fn 12 HB.dn_nc rfl
  have l_nc : K.lookup (He.ga K "_names_called") = some ⟨oc_nc, od_nc, .func (PySem.W.fnOf "_names_called" "_names_called" (defArgs sNc) (defBody sNc) (defScope sNc) (HX.dfOf K (He.ga K "_names_called")) kV_nc dc_nc pm_nc an_nc cd_nc ct_nc), sl_nc⟩ := l_nc
  rw [show HX.dfOf K (He.ga K "_names_called") = .none from c.is 33 rfl] at l_nc
  have n_ap : PySem.W.nsIn K mainGlobals "_are_program" = some (some (.ref (He.ga K "_are_program"))) := c.is 34 rfl
  obtain ⟨oc_ap, kV_ap, dc_ap, pm_ap, cd_ap, ct_ap, od_ap, an_ap, sl_ap, l_ap, d_ap, k_ap⟩ := c.fn 13 HB.dn_ap rfl
  have l_ap : K.lookup (He.ga K "_are_program") = some ⟨oc_ap, od_ap, .func (PySem.W.fnOf "_are_program" "_are_program" (defArgs sAp) (defBody sAp) (defScope sAp) (HX.dfOf K (He.ga K "_are_program")) kV_ap dc_ap pm_ap an_ap cd_ap ct_ap), sl_ap⟩ := l_ap
  rw [show HX.dfOf K (He.ga K "_are_program") = .none from c.is 35 rfl] at l_ap
  have n_cn : PySem.W.nsIn K mainGlobals "check_name" = some (some (.ref (He.ga K "check_name"))) := c.is 36 rfl
  obtain ⟨oc_cn, kV_cn, dc_cn, pm_cn, cd_cn, ct_cn, od_cn, an_cn, sl_cn, l_cn, d_cn, k_cn⟩ := c.fn 14 HB.dn_cn rfl
  have l_cn : K.lookup (He.ga K "check_name") = some ⟨oc_cn, od_cn, .func (PySem.W.fnOf "check_name" "check_name" (defArgs sCn) (defBody sCn) (defScope sCn) (HX.dfOf K (He.ga K "check_name")) kV_cn dc_cn pm_cn an_cn cd_cn ct_cn), sl_cn⟩ := l_cn
  rw [show HX.dfOf K (He.ga K "check_name") = .none from c.is 37 rfl] at l_cn
  have n_cf : PySem.W.nsIn K mainGlobals "check_free" = some (some (.ref (He.ga K "check_free"))) := c.is 38 rfl
  obtain ⟨oc_cf, kV_cf, dc_cf, pm_cf, cd_cf, ct_cf, od_cf, an_cf, sl_cf, l_cf, d_cf, k_cf⟩ := c.fn 15 HB.dn_cf rfl
  have l_cf : K.lookup (He.ga K "check_free") = some ⟨oc_cf, od_cf, .func (PySem.W.fnOf "check_free" "check_free" (defArgs sCf) (defBody sCf) (defScope sCf) (HX.dfOf K (He.ga K "check_free")) kV_cf dc_cf pm_cf an_cf cd_cf ct_cf), sl_cf⟩ := l_cf
  rw [show HX.dfOf K (He.ga K "check_free") = .none from c.is 39 rfl] at l_cf
  have n_pf : PySem.W.nsIn K mainGlobals "_part_of" = some (some (.ref (He.ga K "_part_of"))) := c.is 40 rfl
  obtain ⟨oc_pf, kV_pf, dc_pf, pm_pf, cd_pf, ct_pf, od_pf, an_pf, sl_pf, l_pf, d_pf, k_pf⟩ := c.fn 16 HB.dn_pf rfl
  have l_pf : K.lookup (He.ga K "_part_of") = some ⟨oc_pf, od_pf, .func (PySem.W.fnOf "_part_of" "_part_of" (defArgs sPf) (defBody sPf) (defScope sPf) (HX.dfOf K (He.ga K "_part_of")) kV_pf dc_pf pm_pf an_pf cd_pf ct_pf), sl_pf⟩ := l_pf
  rw [show HX.dfOf K (He.ga K "_part_of") = .none from c.is 41 rfl] at l_pf
  have n_put : PySem.W.nsIn K mainGlobals "put_at" = some (some (.ref (He.ga K "put_at"))) := c.is 42 rfl
  obtain ⟨oc_put, kV_put, dc_put, pm_put, cd_put, ct_put, od_put, an_put, sl_put, l_put, d_put, k_put⟩ := c.fn 17 HB.dn_put rfl
  have l_put : K.lookup (He.ga K "put_at") = some ⟨oc_put, od_put, .func (PySem.W.fnOf "put_at" "put_at" (defArgs sPu) (defBody sPu) (defScope sPu) (HX.dfOf K (He.ga K "put_at")) kV_put dc_put pm_put an_put cd_put ct_put), sl_put⟩ := l_put
  rw [show HX.dfOf K (He.ga K "put_at") = .none from c.is 43 rfl] at l_put
  have n_co : PySem.W.nsIn K mainGlobals "calls_of" = some (some (.ref (He.ga K "calls_of"))) := c.is 44 rfl
  obtain ⟨oc_co, kV_co, dc_co, pm_co, cd_co, ct_co, od_co, an_co, sl_co, l_co, d_co, k_co⟩ := c.fn 18 HB.dn_co rfl
  have l_co : K.lookup (He.ga K "calls_of") = some ⟨oc_co, od_co, .func (PySem.W.fnOf "calls_of" "calls_of" (defArgs sCo) (defBody sCo) (defScope sCo) (HX.dfOf K (He.ga K "calls_of")) kV_co dc_co pm_co an_co cd_co ct_co), sl_co⟩ := l_co
  rw [show HX.dfOf K (He.ga K "calls_of") = .none from c.is 45 rfl] at l_co
  have n_ra : PySem.W.nsIn K mainGlobals "reaches" = some (some (.ref (He.ga K "reaches"))) := c.is 46 rfl
  obtain ⟨oc_ra, kV_ra, dc_ra, pm_ra, cd_ra, ct_ra, od_ra, an_ra, sl_ra, l_ra, d_ra, k_ra⟩ := c.fn 19 HB.dn_ra rfl
  have l_ra : K.lookup (He.ga K "reaches") = some ⟨oc_ra, od_ra, .func (PySem.W.fnOf "reaches" "reaches" (defArgs sRa) (defBody sRa) (defScope sRa) (HX.dfOf K (He.ga K "reaches")) kV_ra dc_ra pm_ra an_ra cd_ra ct_ra), sl_ra⟩ := l_ra
  rw [show HX.dfOf K (He.ga K "reaches") = .none from c.is 47 rfl] at l_ra
  have n_ks : PySem.W.nsIn K mainGlobals "knots" = some (some (.ref (He.ga K "knots"))) := c.is 48 rfl
  obtain ⟨oc_ks, kV_ks, dc_ks, pm_ks, cd_ks, ct_ks, od_ks, an_ks, sl_ks, l_ks, d_ks, k_ks⟩ := c.fn 20 HB.dn_ks rfl
  have l_ks : K.lookup (He.ga K "knots") = some ⟨oc_ks, od_ks, .func (PySem.W.fnOf "knots" "knots" (defArgs sKs) (defBody sKs) (defScope sKs) (HX.dfOf K (He.ga K "knots")) kV_ks dc_ks pm_ks an_ks cd_ks ct_ks), sl_ks⟩ := l_ks
  rw [show HX.dfOf K (He.ga K "knots") = .none from c.is 49 rfl] at l_ks
  have n_uk : PySem.W.nsIn K mainGlobals "_unordered_knots" = some (some (.ref (He.ga K "_unordered_knots"))) := c.is 50 rfl
  obtain ⟨oc_uk, kV_uk, dc_uk, pm_uk, cd_uk, ct_uk, od_uk, an_uk, sl_uk, l_uk, d_uk, k_uk⟩ := c.fn 21 HB.dn_uk rfl
  have l_uk : K.lookup (He.ga K "_unordered_knots") = some ⟨oc_uk, od_uk, .func (PySem.W.fnOf "_unordered_knots" "_unordered_knots" (defArgs sUk) (defBody sUk) (defScope sUk) (HX.dfOf K (He.ga K "_unordered_knots")) kV_uk dc_uk pm_uk an_uk cd_uk ct_uk), sl_uk⟩ := l_uk
  rw [show HX.dfOf K (He.ga K "_unordered_knots") = .none from c.is 51 rfl] at l_uk
  have n_cs : PySem.W.nsIn K mainGlobals "_calls_only" = some (some (.ref (He.ga K "_calls_only"))) := c.is 52 rfl
  obtain ⟨oc_cs, kV_cs, dc_cs, pm_cs, cd_cs, ct_cs, od_cs, an_cs, sl_cs, l_cs, d_cs, k_cs⟩ := c.fn 22 HB.dn_cs rfl
  have l_cs : K.lookup (He.ga K "_calls_only") = some ⟨oc_cs, od_cs, .func (PySem.W.fnOf "_calls_only" "_calls_only" (defArgs sCs) (defBody sCs) (defScope sCs) (HX.dfOf K (He.ga K "_calls_only")) kV_cs dc_cs pm_cs an_cs cd_cs ct_cs), sl_cs⟩ := l_cs
  rw [show HX.dfOf K (He.ga K "_calls_only") = .none from c.is 53 rfl] at l_cs
  have n_ko : PySem.W.nsIn K mainGlobals "knot_of" = some (some (.ref (He.ga K "knot_of"))) := c.is 54 rfl
  obtain ⟨oc_ko, kV_ko, dc_ko, pm_ko, cd_ko, ct_ko, od_ko, an_ko, sl_ko, l_ko, d_ko, k_ko⟩ := c.fn 23 HB.dn_ko rfl
  have l_ko : K.lookup (He.ga K "knot_of") = some ⟨oc_ko, od_ko, .func (PySem.W.fnOf "knot_of" "knot_of" (defArgs sKo) (defBody sKo) (defScope sKo) (HX.dfOf K (He.ga K "knot_of")) kV_ko dc_ko pm_ko an_ko cd_ko ct_ko), sl_ko⟩ := l_ko
  rw [show HX.dfOf K (He.ga K "knot_of") = .none from c.is 55 rfl] at l_ko
  have n_dice : PySem.W.nsIn K mainGlobals "_law_dice" = some (some (.ref (He.ga K "_law_dice"))) := c.is 56 rfl
  obtain ⟨oc_dice, kV_dice, dc_dice, pm_dice, cd_dice, ct_dice, od_dice, an_dice, sl_dice, l_dice, d_dice, k_dice⟩ := c.fn 24 HB.dn_dice rfl
  have l_dice : K.lookup (He.ga K "_law_dice") = some ⟨oc_dice, od_dice, .func (PySem.W.fnOf "_law_dice" "_law_dice" (defArgs LD.sDice) (defBody LD.sDice) (defScope LD.sDice) (HX.dfOf K (He.ga K "_law_dice")) kV_dice dc_dice pm_dice an_dice cd_dice ct_dice), sl_dice⟩ := l_dice
  rw [show HX.dfOf K (He.ga K "_law_dice") = .none from c.is 57 rfl] at l_dice
  have n_roll : PySem.W.nsIn K mainGlobals "_law_roll" = some (some (.ref (He.ga K "_law_roll"))) := c.is 58 rfl
  obtain ⟨oc_roll, kV_roll, dc_roll, pm_roll, cd_roll, ct_roll, od_roll, an_roll, sl_roll, l_roll, d_roll, k_roll⟩ := c.fn 25 HB.dn_roll rfl
  have l_roll : K.lookup (He.ga K "_law_roll") = some ⟨oc_roll, od_roll, .func (PySem.W.fnOf "_law_roll" "_law_roll" (defArgs LD.sRoll) (defBody LD.sRoll) (defScope LD.sRoll) (HX.dfOf K (He.ga K "_law_roll")) kV_roll dc_roll pm_roll an_roll cd_roll ct_roll), sl_roll⟩ := l_roll
  rw [show HX.dfOf K (He.ga K "_law_roll") = .none from c.is 59 rfl] at l_roll
  have n_one : PySem.W.nsIn K mainGlobals "_law_one_of" = some (some (.ref (He.ga K "_law_one_of"))) := c.is 60 rfl
  obtain ⟨oc_one, kV_one, dc_one, pm_one, cd_one, ct_one, od_one, an_one, sl_one, l_one, d_one, k_one⟩ := c.fn 26 HB.dn_one rfl
  have l_one : K.lookup (He.ga K "_law_one_of") = some ⟨oc_one, od_one, .func (PySem.W.fnOf "_law_one_of" "_law_one_of" (defArgs LD.sOneOf) (defBody LD.sOneOf) (defScope LD.sOneOf) (HX.dfOf K (He.ga K "_law_one_of")) kV_one dc_one pm_one an_one cd_one ct_one), sl_one⟩ := l_one
  rw [show HX.dfOf K (He.ga K "_law_one_of") = .none from c.is 61 rfl] at l_one
  have n_mx : PySem.W.nsIn K mainGlobals "_law_mixed" = some (some (.ref (He.ga K "_law_mixed"))) := c.is 62 rfl
  obtain ⟨oc_mx, kV_mx, dc_mx, pm_mx, cd_mx, ct_mx, od_mx, an_mx, sl_mx, l_mx, d_mx, k_mx⟩ := c.fn 27 HB.dn_mx rfl
  have l_mx : K.lookup (He.ga K "_law_mixed") = some ⟨oc_mx, od_mx, .func (PySem.W.fnOf "_law_mixed" "_law_mixed" (defArgs sMx) (defBody sMx) (defScope sMx) (HX.dfOf K (He.ga K "_law_mixed")) kV_mx dc_mx pm_mx an_mx cd_mx ct_mx), sl_mx⟩ := l_mx
  rw [show HX.dfOf K (He.ga K "_law_mixed") = .none from c.is 63 rfl] at l_mx
  have n_we : PySem.W.nsIn K mainGlobals "_law_weight" = some (some (.ref (He.ga K "_law_weight"))) := c.is 64 rfl
  obtain ⟨oc_we, kV_we, dc_we, pm_we, cd_we, ct_we, od_we, an_we, sl_we, l_we, d_we, k_we⟩ := c.fn 28 HB.dn_we rfl
  have l_we : K.lookup (He.ga K "_law_weight") = some ⟨oc_we, od_we, .func (PySem.W.fnOf "_law_weight" "_law_weight" (defArgs sWe) (defBody sWe) (defScope sWe) (HX.dfOf K (He.ga K "_law_weight")) kV_we dc_we pm_we an_we cd_we ct_we), sl_we⟩ := l_we
  rw [show HX.dfOf K (He.ga K "_law_weight") = .none from c.is 65 rfl] at l_we
  have n_ls : PySem.W.nsIn K mainGlobals "_law_statement" = some (some (.ref (He.ga K "_law_statement"))) := c.is 66 rfl
  obtain ⟨oc_ls, kV_ls, dc_ls, pm_ls, cd_ls, ct_ls, od_ls, an_ls, sl_ls, l_ls, d_ls, k_ls⟩ := c.fn 29 HB.dn_ls rfl
  have l_ls : K.lookup (He.ga K "_law_statement") = some ⟨oc_ls, od_ls, .func (PySem.W.fnOf "_law_statement" "_law_statement" (defArgs sLs) (defBody sLs) (defScope sLs) (HX.dfOf K (He.ga K "_law_statement")) kV_ls dc_ls pm_ls an_ls cd_ls ct_ls), sl_ls⟩ := l_ls
  rw [show HX.dfOf K (He.ga K "_law_statement") = .none from c.is 67 rfl] at l_ls
  have n_ly : PySem.W.nsIn K mainGlobals "_law_body" = some (some (.ref (He.ga K "_law_body"))) := c.is 68 rfl
  obtain ⟨oc_ly, kV_ly, dc_ly, pm_ly, cd_ly, ct_ly, od_ly, an_ly, sl_ly, l_ly, d_ly, k_ly⟩ := c.fn 30 HB.dn_ly rfl
  have l_ly : K.lookup (He.ga K "_law_body") = some ⟨oc_ly, od_ly, .func (PySem.W.fnOf "_law_body" "_law_body" (defArgs sLy) (defBody sLy) (defScope sLy) (HX.dfOf K (He.ga K "_law_body")) kV_ly dc_ly pm_ly an_ly cd_ly ct_ly), sl_ly⟩ := l_ly
  rw [show HX.dfOf K (He.ga K "_law_body") = .none from c.is 69 rfl] at l_ly
  have n_lo : PySem.W.nsIn K mainGlobals "_law_bodies" = some (some (.ref (He.ga K "_law_bodies"))) := c.is 70 rfl
  obtain ⟨oc_lo, kV_lo, dc_lo, pm_lo, cd_lo, ct_lo, od_lo, an_lo, sl_lo, l_lo, d_lo, k_lo⟩ := c.fn 31 HB.dn_lo rfl
  have l_lo : K.lookup (He.ga K "_law_bodies") = some ⟨oc_lo, od_lo, .func (PySem.W.fnOf "_law_bodies" "_law_bodies" (defArgs sLo) (defBody sLo) (defScope sLo) (HX.dfOf K (He.ga K "_law_bodies")) kV_lo dc_lo pm_lo an_lo cd_lo ct_lo), sl_lo⟩ := l_lo
  rw [show HX.dfOf K (He.ga K "_law_bodies") = .none from c.is 71 rfl] at l_lo
  have n_li : PySem.W.nsIn K mainGlobals "_law_inner" = some (some (.ref (He.ga K "_law_inner"))) := c.is 72 rfl
  obtain ⟨oc_li, kV_li, dc_li, pm_li, cd_li, ct_li, od_li, an_li, sl_li, l_li, d_li, k_li⟩ := c.fn 32 HB.dn_li rfl
  have l_li : K.lookup (He.ga K "_law_inner") = some ⟨oc_li, od_li, .func (PySem.W.fnOf "_law_inner" "_law_inner" (defArgs sLi) (defBody sLi) (defScope sLi) (HX.dfOf K (He.ga K "_law_inner")) kV_li dc_li pm_li an_li cd_li ct_li), sl_li⟩ := l_li
  rw [show HX.dfOf K (He.ga K "_law_inner") = .none from c.is 73 rfl] at l_li
  have n_lr : PySem.W.nsIn K mainGlobals "_law_sorts" = some (some (.ref (He.ga K "_law_sorts"))) := c.is 74 rfl
  obtain ⟨oc_lr, kV_lr, dc_lr, pm_lr, cd_lr, ct_lr, od_lr, an_lr, sl_lr, l_lr, d_lr, k_lr⟩ := c.fn 33 HB.dn_lr rfl
  have l_lr : K.lookup (He.ga K "_law_sorts") = some ⟨oc_lr, od_lr, .func (PySem.W.fnOf "_law_sorts" "_law_sorts" (defArgs sLr) (defBody sLr) (defScope sLr) (HX.dfOf K (He.ga K "_law_sorts")) kV_lr dc_lr pm_lr an_lr cd_lr ct_lr), sl_lr⟩ := l_lr
  rw [show HX.dfOf K (He.ga K "_law_sorts") = .none from c.is 75 rfl] at l_lr
  have n_qc : PySem.W.nsIn K mainGlobals "_law_called" = some (some (.ref (He.ga K "_law_called"))) := c.is 76 rfl
  obtain ⟨oc_qc, kV_qc, dc_qc, pm_qc, cd_qc, ct_qc, od_qc, an_qc, sl_qc, l_qc, d_qc, k_qc⟩ := c.fn 34 HB.dn_qc rfl
  have l_qc : K.lookup (He.ga K "_law_called") = some ⟨oc_qc, od_qc, .func (PySem.W.fnOf "_law_called" "_law_called" (defArgs sQc) (defBody sQc) (defScope sQc) (HX.dfOf K (He.ga K "_law_called")) kV_qc dc_qc pm_qc an_qc cd_qc ct_qc), sl_qc⟩ := l_qc
  rw [show HX.dfOf K (He.ga K "_law_called") = .none from c.is 77 rfl] at l_qc
  have n_re : PySem.W.nsIn K mainGlobals "_law_reached" = some (some (.ref (He.ga K "_law_reached"))) := c.is 78 rfl
  obtain ⟨oc_re, kV_re, dc_re, pm_re, cd_re, ct_re, od_re, an_re, sl_re, l_re, d_re, k_re⟩ := c.fn 35 HB.dn_re rfl
  have l_re : K.lookup (He.ga K "_law_reached") = some ⟨oc_re, od_re, .func (PySem.W.fnOf "_law_reached" "_law_reached" (defArgs sRe) (defBody sRe) (defScope sRe) (HX.dfOf K (He.ga K "_law_reached")) kV_re dc_re pm_re an_re cd_re ct_re), sl_re⟩ := l_re
  rw [show HX.dfOf K (He.ga K "_law_reached") = .none from c.is 79 rfl] at l_re
  have n_dk : PySem.W.nsIn K mainGlobals "_law_due_knots" = some (some (.ref (He.ga K "_law_due_knots"))) := c.is 80 rfl
  obtain ⟨oc_dk, kV_dk, dc_dk, pm_dk, cd_dk, ct_dk, od_dk, an_dk, sl_dk, l_dk, d_dk, k_dk⟩ := c.fn 36 HB.dn_dk rfl
  have l_dk : K.lookup (He.ga K "_law_due_knots") = some ⟨oc_dk, od_dk, .func (PySem.W.fnOf "_law_due_knots" "_law_due_knots" (defArgs sDk) (defBody sDk) (defScope sDk) (HX.dfOf K (He.ga K "_law_due_knots")) kV_dk dc_dk pm_dk an_dk cd_dk ct_dk), sl_dk⟩ := l_dk
  rw [show HX.dfOf K (He.ga K "_law_due_knots") = .none from c.is 81 rfl] at l_dk
  have n_tl : PySem.W.nsIn K mainGlobals "_law_told" = some (some (.ref (He.ga K "_law_told"))) := c.is 82 rfl
  obtain ⟨oc_tl, kV_tl, dc_tl, pm_tl, cd_tl, ct_tl, od_tl, an_tl, sl_tl, l_tl, d_tl, k_tl⟩ := c.fn 37 HB.dn_tl rfl
  have l_tl : K.lookup (He.ga K "_law_told") = some ⟨oc_tl, od_tl, .func (PySem.W.fnOf "_law_told" "_law_told" (defArgs sTl) (defBody sTl) (defScope sTl) (HX.dfOf K (He.ga K "_law_told")) kV_tl dc_tl pm_tl an_tl cd_tl ct_tl), sl_tl⟩ := l_tl
  rw [show HX.dfOf K (He.ga K "_law_told") = .none from c.is 83 rfl] at l_tl
  have n_hn : PySem.W.nsIn K mainGlobals "_law_chain" = some (some (.ref (He.ga K "_law_chain"))) := c.is 84 rfl
  obtain ⟨oc_hn, kV_hn, dc_hn, pm_hn, cd_hn, ct_hn, od_hn, an_hn, sl_hn, l_hn, d_hn, k_hn⟩ := c.fn 38 HB.dn_hn rfl
  have l_hn : K.lookup (He.ga K "_law_chain") = some ⟨oc_hn, od_hn, .func (PySem.W.fnOf "_law_chain" "_law_chain" (defArgs sHn) (defBody sHn) (defScope sHn) (HX.dfOf K (He.ga K "_law_chain")) kV_hn dc_hn pm_hn an_hn cd_hn ct_hn), sl_hn⟩ := l_hn
  rw [show HX.dfOf K (He.ga K "_law_chain") = .none from c.is 85 rfl] at l_hn
  have n_law : PySem.W.nsIn K mainGlobals "law" = some (some (.ref (He.ga K "law"))) := c.is 86 rfl
  obtain ⟨oc_law, kV_law, dc_law, pm_law, cd_law, ct_law, od_law, an_law, sl_law, l_law, d_law, k_law⟩ := c.fn 39 HB.dn_law rfl
  have l_law : K.lookup (He.ga K "law") = some ⟨oc_law, od_law, .func (PySem.W.fnOf "law" "law" (defArgs sLaw) (defBody sLaw) (defScope sLaw) (HX.dfOf K (He.ga K "law")) kV_law dc_law pm_law an_law cd_law ct_law), sl_law⟩ := l_law
  rw [show HX.dfOf K (He.ga K "law") = .none from c.is 87 rfl] at l_law
  have n_gi : PySem.W.findIn K (.ref (He.ga K "Given")) "__init__" = some (some (.ref (He.ma K (He.ga K "Given") "__init__"))) := c.is 88 rfl
  obtain ⟨oc_gi, kV_gi, dc_gi, pm_gi, cd_gi, ct_gi, od_gi, an_gi, sl_gi, l_gi, d_gi, k_gi⟩ := c.fn 40 HB.dn_gi rfl
  have l_gi : K.lookup (He.ma K (He.ga K "Given") "__init__") = some ⟨oc_gi, od_gi, .func (PySem.W.fnOf "__init__" "Given.__init__" (defArgs sGi) (defBody sGi) (defScope sGi) (HX.dfOf K (He.ma K (He.ga K "Given") "__init__")) kV_gi dc_gi pm_gi an_gi cd_gi ct_gi), sl_gi⟩ := l_gi
  rw [show HX.dfOf K (He.ma K (He.ga K "Given") "__init__") = .none from c.is 89 rfl] at l_gi
  have i_gi : PySem.W.isFn K (.ref (He.ma K (He.ga K "Given") "__init__")) = true := c.fact 90 rfl
  have n_gt : PySem.W.findIn K (.ref (He.ga K "Program")) "__getitem__" = some (some (.ref (He.ma K (He.ga K "Program") "__getitem__"))) := c.is 91 rfl
  obtain ⟨oc_gt, kV_gt, dc_gt, pm_gt, cd_gt, ct_gt, od_gt, an_gt, sl_gt, l_gt, d_gt, k_gt⟩ := c.fn 41 HB.dn_gt rfl
  have l_gt : K.lookup (He.ma K (He.ga K "Program") "__getitem__") = some ⟨oc_gt, od_gt, .func (PySem.W.fnOf "__getitem__" "Program.__getitem__" (defArgs sGt) (defBody sGt) (defScope sGt) (HX.dfOf K (He.ma K (He.ga K "Program") "__getitem__")) kV_gt dc_gt pm_gt an_gt cd_gt ct_gt), sl_gt⟩ := l_gt
  rw [show HX.dfOf K (He.ma K (He.ga K "Program") "__getitem__") = .none from c.is 92 rfl] at l_gt
  have i_gt : PySem.W.isFn K (.ref (He.ma K (He.ga K "Program") "__getitem__")) = true := c.fact 93 rfl
  have n_ct : PySem.W.findIn K (.ref (He.ga K "Program")) "__contains__" = some (some (.ref (He.ma K (He.ga K "Program") "__contains__"))) := c.is 94 rfl
  obtain ⟨oc_ct, kV_ct, dc_ct, pm_ct, cd_ct, ct_ct, od_ct, an_ct, sl_ct, l_ct, d_ct, k_ct⟩ := c.fn 42 HB.dn_ct rfl
  have l_ct : K.lookup (He.ma K (He.ga K "Program") "__contains__") = some ⟨oc_ct, od_ct, .func (PySem.W.fnOf "__contains__" "Program.__contains__" (defArgs sCt) (defBody sCt) (defScope sCt) (HX.dfOf K (He.ma K (He.ga K "Program") "__contains__")) kV_ct dc_ct pm_ct an_ct cd_ct ct_ct), sl_ct⟩ := l_ct
  rw [show HX.dfOf K (He.ma K (He.ga K "Program") "__contains__") = .none from c.is 95 rfl] at l_ct
  have i_ct : PySem.W.isFn K (.ref (He.ma K (He.ga K "Program") "__contains__")) = true := c.fact 96 rfl
  have n_wy : PySem.W.findIn K (.ref (He.ga K "Program")) "with_body" = some (some (.ref (He.ma K (He.ga K "Program") "with_body"))) := c.is 97 rfl
  obtain ⟨oc_wy, kV_wy, dc_wy, pm_wy, cd_wy, ct_wy, od_wy, an_wy, sl_wy, l_wy, d_wy, k_wy⟩ := c.fn 43 HB.dn_wy rfl
  have l_wy : K.lookup (He.ma K (He.ga K "Program") "with_body") = some ⟨oc_wy, od_wy, .func (PySem.W.fnOf "with_body" "Program.with_body" (defArgs sWy) (defBody sWy) (defScope sWy) (HX.dfOf K (He.ma K (He.ga K "Program") "with_body")) kV_wy dc_wy pm_wy an_wy cd_wy ct_wy), sl_wy⟩ := l_wy
  rw [show HX.dfOf K (He.ma K (He.ga K "Program") "with_body") = .none from c.is 98 rfl] at l_wy
  have i_wy : PySem.W.isFn K (.ref (He.ma K (He.ga K "Program") "with_body")) = true := c.fact 99 rfl
  have n_wtt : PySem.W.findIn K (.ref (He.ga K "Program")) "without" = some (some (.ref (He.ma K (He.ga K "Program") "without"))) := c.is 100 rfl
  obtain ⟨oc_wtt, kV_wtt, dc_wtt, pm_wtt, cd_wtt, ct_wtt, od_wtt, an_wtt, sl_wtt, l_wtt, d_wtt, k_wtt⟩ := c.fn 44 HB.dn_wtt rfl
  have l_wtt : K.lookup (He.ma K (He.ga K "Program") "without") = some ⟨oc_wtt, od_wtt, .func (PySem.W.fnOf "without" "Program.without" (defArgs sWtt) (defBody sWtt) (defScope sWtt) (HX.dfOf K (He.ma K (He.ga K "Program") "without")) kV_wtt dc_wtt pm_wtt an_wtt cd_wtt ct_wtt), sl_wtt⟩ := l_wtt
  rw [show HX.dfOf K (He.ma K (He.ga K "Program") "without") = .none from c.is 101 rfl] at l_wtt
  have i_wtt : PySem.W.isFn K (.ref (He.ma K (He.ga K "Program") "without")) = true := c.fact 102 rfl
  have n_oro : PySem.W.findIn K (.ref (He.ga K "Program")) "__or__" = some (some (.ref (He.ma K (He.ga K "Program") "__or__"))) := c.is 103 rfl
  obtain ⟨oc_oro, kV_oro, dc_oro, pm_oro, cd_oro, ct_oro, od_oro, an_oro, sl_oro, l_oro, d_oro, k_oro⟩ := c.fn 45 HB.dn_oro rfl
  have l_oro : K.lookup (He.ma K (He.ga K "Program") "__or__") = some ⟨oc_oro, od_oro, .func (PySem.W.fnOf "__or__" "Program.__or__" (defArgs sOro) (defBody sOro) (defScope sOro) (HX.dfOf K (He.ma K (He.ga K "Program") "__or__")) kV_oro dc_oro pm_oro an_oro cd_oro ct_oro), sl_oro⟩ := l_oro
  rw [show HX.dfOf K (He.ma K (He.ga K "Program") "__or__") = .none from c.is 104 rfl] at l_oro
  have i_oro : PySem.W.isFn K (.ref (He.ma K (He.ga K "Program") "__or__")) = true := c.fact 105 rfl
  have n_pi : PySem.W.findIn K (.ref (He.ga K "Program")) "__init__" = some (some (.ref (He.ma K (He.ga K "Program") "__init__"))) := c.is 106 rfl
  obtain ⟨oc_pi, kV_pi, dc_pi, pm_pi, cd_pi, ct_pi, od_pi, an_pi, sl_pi, l_pi, d_pi, k_pi⟩ := c.fn 46 HB.dn_pi rfl
  have l_pi : K.lookup (He.ma K (He.ga K "Program") "__init__") = some ⟨oc_pi, od_pi, .func (PySem.W.fnOf "__init__" "Program.__init__" (defArgs sPi) (defBody sPi) (defScope sPi) (HX.dfOf K (He.ma K (He.ga K "Program") "__init__")) kV_pi dc_pi pm_pi an_pi cd_pi ct_pi), sl_pi⟩ := l_pi
  rw [show HX.dfOf K (He.ma K (He.ga K "Program") "__init__") = .none from c.is 107 rfl] at l_pi
  have i_pi : PySem.W.isFn K (.ref (He.ma K (He.ga K "Program") "__init__")) = true := c.fact 108 rfl
  have fi_gt : PySem.W.fnIn K (He.ma K (He.ga K "Program") "__getitem__") = true := c.fact 109 rfl
  have n_na : PySem.W.findIn K (.ref (He.ga K "Program")) "names" = some (some (.ref (He.ma K (He.ga K "Program") "names"))) := c.is 110 rfl
  have g_na : PySem.W.specialIn K (.ref (He.ma K (He.ga K "Program") "names")) "__get__" = some (some (.builtin "property.__get__")) := c.is 111 rfl
  have t_na : PySem.W.takesIn K (.ref (He.ma K (He.ga K "Program") "names")) = some true := c.is 112 rfl
  have r_nax : PySem.W.recIn K (He.ma K (He.ga K "Program") "names") "property" = some (.ref (HX.recF K (He.ma K (He.ga K "Program") "names") "property") :: (HX.recT K (He.ma K (He.ga K "Program") "names") "property")) := c.is 113 rfl
  obtain ⟨oc_na, kV_na, dc_na, pm_na, cd_na, ct_na, od_na, an_na, sl_na, l_na, d_na, k_na⟩ := c.fn 47 HB.dn_na rfl
  have l_na : K.lookup (HX.recF K (He.ma K (He.ga K "Program") "names") "property") = some ⟨oc_na, od_na, .func (PySem.W.fnOf "names" "Program.names" (defArgs sNa) (defBody sNa) (defScope sNa) (HX.dfOf K (HX.recF K (He.ma K (He.ga K "Program") "names") "property")) kV_na dc_na pm_na an_na cd_na ct_na), sl_na⟩ := l_na
  rw [show HX.dfOf K (HX.recF K (He.ma K (He.ga K "Program") "names") "property") = .none from c.is 114 rfl] at l_na
  have n_bo : PySem.W.findIn K (.ref (He.ga K "Program")) "bodies" = some (some (.ref (He.ma K (He.ga K "Program") "bodies"))) := c.is 115 rfl
  have g_bo : PySem.W.specialIn K (.ref (He.ma K (He.ga K "Program") "bodies")) "__get__" = some (some (.builtin "property.__get__")) := c.is 116 rfl
  have t_bo : PySem.W.takesIn K (.ref (He.ma K (He.ga K "Program") "bodies")) = some true := c.is 117 rfl
  have r_box : PySem.W.recIn K (He.ma K (He.ga K "Program") "bodies") "property" = some (.ref (HX.recF K (He.ma K (He.ga K "Program") "bodies") "property") :: (HX.recT K (He.ma K (He.ga K "Program") "bodies") "property")) := c.is 118 rfl
  obtain ⟨oc_bo, kV_bo, dc_bo, pm_bo, cd_bo, ct_bo, od_bo, an_bo, sl_bo, l_bo, d_bo, k_bo⟩ := c.fn 48 HB.dn_bo rfl
  have l_bo : K.lookup (HX.recF K (He.ma K (He.ga K "Program") "bodies") "property") = some ⟨oc_bo, od_bo, .func (PySem.W.fnOf "bodies" "Program.bodies" (defArgs sBo) (defBody sBo) (defScope sBo) (HX.dfOf K (HX.recF K (He.ma K (He.ga K "Program") "bodies") "property")) kV_bo dc_bo pm_bo an_bo cd_bo ct_bo), sl_bo⟩ := l_bo
  rw [show HX.dfOf K (HX.recF K (He.ma K (He.ga K "Program") "bodies") "property") = .none from c.is 119 rfl] at l_bo
  have y_of : PySem.W.typeIn K (.ref (He.ga K "Program")) = some (HX.tyOf K (He.ga K "Program")) := c.is 120 rfl
  have n_of : PySem.W.findCls K (.ref (He.ga K "Program")) (HX.tyOf K (He.ga K "Program")) "of" = some (.get (.builtin "staticmethod.__get__") (.ref (HX.getP K (He.ga K "Program") (HX.tyOf K (He.ga K "Program")) "of")) .none (.ref (He.ga K "Program"))) := HX.getB_ok (c.fact 121 rfl)
  have r_ofx : PySem.W.recIn K (HX.getP K (He.ga K "Program") (HX.tyOf K (He.ga K "Program")) "of") "staticmethod" = some (.ref (HX.recF K (HX.getP K (He.ga K "Program") (HX.tyOf K (He.ga K "Program")) "of") "staticmethod") :: (HX.recT K (HX.getP K (He.ga K "Program") (HX.tyOf K (He.ga K "Program")) "of") "staticmethod")) := c.is 122 rfl
  obtain ⟨oc_of, kV_of, dc_of, pm_of, cd_of, ct_of, od_of, an_of, sl_of, l_of, d_of, k_of⟩ := c.fn 49 HB.dn_of rfl
  have l_of : K.lookup (HX.recF K (HX.getP K (He.ga K "Program") (HX.tyOf K (He.ga K "Program")) "of") "staticmethod") = some ⟨oc_of, od_of, .func (PySem.W.fnOf "of" "Program.of" (defArgs sPo) (defBody sPo) (defScope sPo) (HX.dfOf K (HX.recF K (HX.getP K (He.ga K "Program") (HX.tyOf K (He.ga K "Program")) "of") "staticmethod")) kV_of dc_of pm_of an_of cd_of ct_of), sl_of⟩ := l_of
  rw [show HX.dfOf K (HX.recF K (HX.getP K (He.ga K "Program") (HX.tyOf K (He.ga K "Program")) "of") "staticmethod") = .none from c.is 123 rfl] at l_of
  have s_of : smB K (He.ga K "Program") (HX.tyOf K (He.ga K "Program")) (HX.getP K (He.ga K "Program") (HX.tyOf K (He.ga K "Program")) "of") (HX.recF K (HX.getP K (He.ga K "Program") (HX.tyOf K (He.ga K "Program")) "of") "staticmethod") = true := c.fact 124 rfl
  have n_pls : PySem.W.nsIn K mainGlobals "placed_statements" = some (some (.ref (He.ga K "placed_statements"))) := c.is 125 rfl
  obtain ⟨oc_pls, kV_pls, dc_pls, pm_pls, cd_pls, ct_pls, od_pls, an_pls, sl_pls, l_pls, d_pls, k_pls⟩ := c.fn 50 HB.dn_pls rfl
  have l_pls : K.lookup (He.ga K "placed_statements") = some ⟨oc_pls, od_pls, .func (PySem.W.fnOf "placed_statements" "placed_statements" (defArgs sPls) (defBody sPls) (defScope sPls) (HX.dfOf K (He.ga K "placed_statements")) kV_pls dc_pls pm_pls an_pls cd_pls ct_pls), sl_pls⟩ := l_pls
  rw [show HX.dfOf K (He.ga K "placed_statements") = .ref (HX.adr (HX.dfOf K (He.ga K "placed_statements"))) from c.is 126 rfl] at l_pls
  obtain ⟨_, _, _, _, T_plsx⟩ := HX.seqB_ok (c.fact 127 rfl)
  obtain ⟨_, _, _, T_plsy⟩ := HX.tupB_ok (c.fact 128 rfl)
  have z_int : PySem.W.nsIn K mainGlobals "int" = some none := c.is 129 rfl
  have z_len : PySem.W.nsIn K mainGlobals "len" = some none := c.is 130 rfl
  have z_abs : PySem.W.nsIn K mainGlobals "abs" = some none := c.is 131 rfl
  have z_max : PySem.W.nsIn K mainGlobals "max" = some none := c.is 132 rfl
  have z_min : PySem.W.nsIn K mainGlobals "min" = some none := c.is 133 rfl
  have z_isinstance : PySem.W.nsIn K mainGlobals "isinstance" = some none := c.is 134 rfl
  have z_range : PySem.W.nsIn K mainGlobals "range" = some none := c.is 135 rfl
  have z_bool : PySem.W.nsIn K mainGlobals "bool" = some none := c.is 136 rfl
  have z_tuple : PySem.W.nsIn K mainGlobals "tuple" = some none := c.is 137 rfl
  have z_all : PySem.W.nsIn K mainGlobals "all" = some none := c.is 138 rfl
  have z_any : PySem.W.nsIn K mainGlobals "any" = some none := c.is 139 rfl
  have z_sum : PySem.W.nsIn K mainGlobals "sum" = some none := c.is 140 rfl
  have z_enumerate : PySem.W.nsIn K mainGlobals "enumerate" = some none := c.is 141 rfl
  have z_list : PySem.W.nsIn K mainGlobals "list" = some none := c.is 142 rfl
  have z_str : PySem.W.nsIn K mainGlobals "str" = some none := c.is 143 rfl
  have z_sorted : PySem.W.nsIn K mainGlobals "sorted" = some none := c.is 144 rfl
  have z_set : PySem.W.nsIn K mainGlobals "set" = some none := c.is 145 rfl
  have z_dict : PySem.W.nsIn K mainGlobals "dict" = some none := c.is 146 rfl
  have rC : pgCB K (He.ga K "Program") = true := c.fact 147 rfl
  have rG : ownB K (He.ga K "Given") = true := c.fact 148 rfl
  have mkC : mkB K (He.ga K "Program") = true := c.fact 149 rfl
  have mkG : mkB K (He.ga K "Given") = true := c.fact 150 rfl
  have sC : sfB K (He.ga K "Program") = true := c.fact 151 rfl
  have kC : kitB K (He.ga K "Program") (He.ga K "Given") = true := c.fact 152 rfl
  exact all_mk X G hfa aC aG aMP aMS aMD aMW aML aLT n_bin l_bin d_bin k_bin n_sof l_sof d_sof k_sof n_pw l_pw d_pw k_pw n_wp l_wp d_wp k_wp n_plain l_plain d_plain k_plain n_bet l_bet d_bet k_bet n_nm l_nm d_nm k_nm n_wt l_wt d_wt k_wt n_br l_br d_br k_br n_inn l_inn d_inn k_inn n_lb l_lb d_lb k_lb n_ib l_ib d_ib k_ib n_nc l_nc d_nc k_nc n_ap l_ap d_ap k_ap n_cn l_cn d_cn k_cn n_cf l_cf d_cf k_cf n_pf l_pf d_pf k_pf n_put l_put d_put k_put n_co l_co d_co k_co n_ra l_ra d_ra k_ra n_ks l_ks d_ks k_ks n_uk l_uk d_uk k_uk n_cs l_cs d_cs k_cs n_ko l_ko d_ko k_ko n_dice l_dice d_dice k_dice n_roll l_roll d_roll k_roll n_one l_one d_one k_one n_mx l_mx d_mx k_mx n_we l_we d_we k_we n_ls l_ls d_ls k_ls n_ly l_ly d_ly k_ly n_lo l_lo d_lo k_lo n_li l_li d_li k_li n_lr l_lr d_lr k_lr n_qc l_qc d_qc k_qc n_re l_re d_re k_re n_dk l_dk d_dk k_dk n_tl l_tl d_tl k_tl n_hn l_hn d_hn k_hn n_law l_law d_law k_law n_gi l_gi d_gi k_gi i_gi n_gt l_gt d_gt k_gt i_gt n_ct l_ct d_ct k_ct i_ct n_wy l_wy d_wy k_wy i_wy n_wtt l_wtt d_wtt k_wtt i_wtt n_oro l_oro d_oro k_oro i_oro n_pi l_pi d_pi k_pi i_pi fi_gt n_na g_na t_na r_nax l_na d_na k_na n_bo g_bo t_bo r_box l_bo d_bo k_bo y_of n_of r_ofx l_of d_of k_of s_of n_pls l_pls d_pls k_pls T_plsx rfl T_plsy rfl z_int z_len z_abs z_max z_min z_isinstance z_range z_bool z_tuple z_all z_any z_sum z_enumerate z_list z_str z_sorted z_set z_dict rC rG mkC mkG sC kC
end FR
open PySem PySem.W PySem.Calls PyProof.Rows
set_option Elab.async false
set_option linter.all false
set_option maxRecDepth 100000
set_option maxHeartbeats 0
theorem PySem.Challenge.cw_surelyends_k31_knots_holds : PySem.Challenge.rw_surelyends_k31_knots.Holds := by
  w_on; o_law
  refine HandSHeadRun.head_any (r := HB.rowR) (q := HB.vwR) (H := HB.hkR) (ob := fun s => HX.look HB.ats HB.dns HB.fcs (HandSHeadRun.getT s)) (M := 9000) (loose := HB.tnames) (d := HandSHeadRun.topDef HB.rowR.prog 61) (kwd := []) (fun s => HX.look_eq s) (by kernel_rfl) (fun s => by kernel_rfl) HB.top_run (by kernel_rfl) (by kernel_rfl) (by kernel_rfl) (by rfl) (by first | assumption | decide +kernel) (by decide +kernel) ⟨rfl, rfl, rfl, rfl, rfl, by decide +kernel⟩ ?hw ?hc
  case hw => w_witness2
  case hc =>
    refine L2.walk_ofE (l := PySem.Challenge.rw_surelyends_k31_knots) (n := 63) (k := 18) (x := "_law_script") (CX := L2.CX0) rfl (by decide) (by kernel_rfl) ⟨rfl, by decide, by decide⟩ ?F (fun _ _ _ _ z => z)
    intro w mg fa h Y G hmg0
    obtain ⟨K, KX, c⟩ := Y
    have e : (HandSHeadRun.topDef HB.rowR.prog 61).name = ("law" : PySem.Str) := by kernel_rfl
    rw [e] at hmg0
    obtain ⟨fd, hb, hF⟩ := FR.all_of (l := PySem.Challenge.rw_surelyends_k31_knots) (w := w) KX G hmg0 c
    exact ⟨K, fd, FR.spLaw K, KX, hb, fun H a ns hl _ hS => ⟨a, ns, rfl, hS, fun _ => rfl⟩, hF⟩
