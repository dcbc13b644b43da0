import PyProof.Rows.All
import Wide.All
import OpenK.AllK
import Wide.FinOn
import HandS.ForMost
import HandS.Lambda
import HandS.Nested
import HandS.NestedK
import HandS.SortKw
import KE.KLam
import KE.KNestM
import KE.KMinKey
import HandS.Wide
import HandS.Gcd
import HandS.Property
import HandS.IsInst
import HandS.Flow
import HandS.Defaults
import KE.KOpsOwn
import KE.KCallOwn
import HandS.OwnEq
import KE.KEqDict
import KE.KMathG
import HandS.Zip
import HandS.Walk
import HandS.DictComp
import HandS.More
import HandS.Deep
import PyProof.P3In
import PyProof.CollectIter
import PyProof.Walks
import HandS.Conv
import KE.GoesEnum
import HandS.Star
import HandS.WordsExc
import HandS.TryMany
import HandS.Style
import HandS.TupMul
import HandS.TupAny
import PyProof.StrOps2
import HandS.TupLe
import HandS.EndTab
import PySem.Challenge.RW_surelyends_k08_errors_of_rows
/-! determinants of integers, by the first column -/
set_option linter.all false
namespace CN
/-- the sum of f 0 .. f (k - 1) -/
def Z (k : Nat) (f : Nat → Int) : Int := match k with
  | 0 => 0
  | k + 1 => Z k f + f k
theorem Z_congr {k : Nat} {f g : Nat → Int} (h : ∀ i, i < k → f i = g i) : Z k f = Z k g := by
  induction k with
  | zero => rfl
  | succ k ih => simp only [Z]; rw [ih fun i hi => h i (Nat.lt_succ_of_lt hi), h k (Nat.lt_succ_self k)]
theorem Z_zero {k : Nat} {f : Nat → Int} (h : ∀ i, i < k → f i = 0) : Z k f = 0 := by
  induction k with
  | zero => rfl
  | succ k ih => simp only [Z]; rw [ih fun i hi => h i (Nat.lt_succ_of_lt hi), h k (Nat.lt_succ_self k)]; rfl
theorem Z_add {k : Nat} {f g : Nat → Int} : Z k (fun i => f i + g i) = Z k f + Z k g := by
  induction k with
  | zero => rfl
  | succ k ih => simp only [Z]; rw [ih]; omega
theorem Z_mul {k : Nat} {f : Nat → Int} {c : Int} : Z k (fun i => c * f i) = c * Z k f := by
  induction k with
  | zero => simp only [Z]; grind
  | succ k ih => simp only [Z]; rw [ih]; grind
theorem Z_one {k : Nat} {f : Nat → Int} {m : Nat} (hm : m < k) (h : ∀ i, i < k → i ≠ m → f i = 0) : Z k f = f m := by
  induction k with
  | zero => omega
  | succ k ih =>
    simp only [Z]
    by_cases e : m = k
    · subst e
      rw [Z_zero fun i hi => h i (by omega) (by omega)]; omega
    · rw [ih (by omega) fun i hi hn => h i (by omega) hn, h k (by omega) (by omega)]; omega
theorem Z_two {k : Nat} {f : Nat → Int} {m q : Nat} (hm : m < k) (hq : q < k) (ne : m ≠ q) (h : ∀ i, i < k → i ≠ m → i ≠ q → f i = 0) : Z k f = f m + f q := by
  have e : Z k f = Z k (fun i => (if i = m then f i else 0) + if i = m then 0 else f i) := Z_congr fun i _ => by split <;> omega
  rw [e, Z_add, Z_one (m := m) hm fun i _ n => if_neg n, if_pos rfl, Z_one (m := q) hq fun i hi n => by
    split
    · rfl
    · next y => exact h i hi y n]
  rw [if_neg fun z => ne z.symm]
theorem Z_swap {k l : Nat} {f : Nat → Nat → Int} : Z k (fun i => Z l (f i)) = Z l fun j => Z k fun i => f i j := by
  induction k with
  | zero => exact (Z_zero fun _ _ => rfl).symm
  | succ k ih => simp only [Z]; rw [ih, ← Z_add]
/-! ### determinants -/
abbrev Mat := Nat → Nat → Int
def skip (i k : Nat) : Nat := if k < i then k else k + 1
def unskip (i k : Nat) : Nat := if k < i then k else k - 1
theorem skip_ne {i k : Nat} : skip i k ≠ i := by unfold skip; split <;> omega
theorem skip_lt {i k n : Nat} (hi : i < n + 1) (hk : k < n) : skip i k < n + 1 := by unfold skip; split <;> omega
theorem skip_un {i k : Nat} (h : k ≠ i) : skip i (unskip i k) = k := by
  unfold skip unskip
  by_cases a : k < i
  · rw [if_pos a, if_pos a]
  · rw [if_neg a, if_neg (by omega)]; omega
theorem skip_eq {i k m : Nat} (h : k ≠ i) : skip i m = k ↔ m = unskip i k := by
  unfold skip unskip
  constructor <;> intro e <;> (split at e) <;> (try split) <;> (try split at e) <;> omega
def sg : Nat → Int
  | 0 => 1
  | n + 1 => - sg n
def minor (A : Mat) (i : Nat) : Mat := fun k j => A (skip i k) (j + 1)
def det : Nat → Mat → Int
  | 0, _ => 1
  | n + 1, A => Z (n + 1) fun i => sg i * A i 0 * det n (minor A i)
/-- row k is v -/
def row (A : Mat) (k : Nat) (v : Nat → Int) : Mat := fun i => if i = k then v else A i
theorem row_at {A : Mat} {k : Nat} {v : Nat → Int} : row A k v k = v := if_pos rfl
theorem row_ne {A : Mat} {k i : Nat} {v : Nat → Int} (h : i ≠ k) : row A k v i = A i := if_neg h
theorem row_self {A : Mat} {k : Nat} : row A k (A k) = A := by
  funext i
  unfold row
  split
  · next e => rw [e]
  · rfl
theorem row_row {A : Mat} {k : Nat} {u v : Nat → Int} : row (row A k u) k v = row A k v := by
  funext i
  unfold row
  split <;> rfl
theorem row_comm {A : Mat} {k l : Nat} {u v : Nat → Int} (h : k ≠ l) : row (row A k u) l v = row (row A l v) k u := by
  funext i
  unfold row
  by_cases a : i = l
  · rw [if_pos a, if_neg fun z => h (z.symm.trans a), if_pos a]
  · rw [if_neg a]
    by_cases b : i = k
    · rw [if_pos b, if_pos b]
    · rw [if_neg b, if_neg b, if_neg a]
theorem det_congr : ∀ {n : Nat} {A B : Mat}, (∀ i j, i < n → j < n → A i j = B i j) → det n A = det n B
  | 0, _, _, _ => rfl
  | n + 1, A, B, h => by
    simp only [det]
    refine Z_congr fun i hi => ?_
    rw [h i 0 hi (by omega), det_congr (n := n) (A := minor A i) (B := minor B i) fun k j hk hj => h _ _ (skip_lt hi hk) (by omega)]
theorem minor_row {A : Mat} {i k : Nat} {v : Nat → Int} (h : k ≠ i) : minor (row A k v) i = row (minor A i) (unskip i k) fun j => v (j + 1) := by
  funext m j
  unfold minor row
  by_cases e : skip i m = k
  · rw [if_pos e, if_pos ((skip_eq h).mp e)]
  · rw [if_neg e, if_neg fun z => e ((skip_eq h).mpr z)]
theorem minor_row_at {A : Mat} {k : Nat} {v : Nat → Int} : minor (row A k v) k = minor A k := by
  funext m j
  unfold minor row
  rw [if_neg skip_ne]
theorem unskip_lt {i k n : Nat} (hi : i < n + 1) (hk : k < n + 1) (h : k ≠ i) : unskip i k < n := by unfold unskip; split <;> omega
theorem det_lin : ∀ {n : Nat} {A : Mat} {k : Nat} (hk : k < n) (c e : Int) (u v : Nat → Int), det n (row A k fun j => c * u j + e * v j) = c * det n (row A k u) + e * det n (row A k v)
  | 0, _, _, hk, _, _, _, _ => absurd hk (by omega)
  | n + 1, A, k, hk, c, e, u, v => by
    simp only [det]
    rw [← Z_mul, ← Z_mul, ← Z_add]
    refine Z_congr fun i hi => ?_
    by_cases z : k = i
    · subst z
      rw [minor_row_at, minor_row_at, minor_row_at, row_at, row_at, row_at]
      grind
    · rw [minor_row z, minor_row z, minor_row z, row_ne (Ne.symm z), row_ne (Ne.symm z), row_ne (Ne.symm z), det_lin (unskip_lt hi hk z) c e (fun j => u (j + 1)) fun j => v (j + 1)]
      grind
theorem det_zero {n : Nat} {A : Mat} {k : Nat} (hk : k < n) : det n (row A k fun _ => 0) = 0 := by
  have := det_lin (A := A) hk 0 0 (fun _ => 0) fun _ => 0
  have e : (fun _ : Nat => (0 : Int) * 0 + 0 * 0) = fun _ => 0 := by funext; rfl
  rw [e] at this
  grind
theorem det_smul {n : Nat} {A : Mat} {k : Nat} (hk : k < n) (c : Int) (u : Nat → Int) : det n (row A k fun j => c * u j) = c * det n (row A k u) := by
  have := det_lin (A := A) hk c 0 u u
  have e : (fun j => c * u j + 0 * u j) = fun j => c * u j := by funext j; omega
  rw [e] at this
  grind
theorem det_sum {n : Nat} {A : Mat} {k : Nat} (hk : k < n) (c : Nat → Int) (u : Nat → Nat → Int) : ∀ m, det n (row A k fun j => Z m fun l => c l * u l j) = Z m fun l => c l * det n (row A k (u l))
  | 0 => det_zero hk
  | m + 1 => by
    have := det_lin (A := A) hk 1 (c m) (fun j => Z m fun l => c l * u l j) (u m)
    have e : (fun j => 1 * (Z m fun l => c l * u l j) + c m * u m j) = fun j => Z (m + 1) fun l => c l * u l j := by funext j; simp only [Z]; omega
    rw [e] at this
    rw [this, det_sum hk c u m]
    simp only [Z]; omega
theorem det_adj : ∀ {n : Nat} {A : Mat} {k : Nat}, k + 1 < n → (∀ j, j < n → A k j = A (k + 1) j) → det n A = 0
  | 0, _, _, hk, _ => absurd hk (by omega)
  | n + 1, A, k, hk, h => by
    simp only [det]
    rw [Z_two (m := k) (q := k + 1) (by omega) hk (by omega)]
    · have e : det n (minor A k) = det n (minor A (k + 1)) := det_congr fun m j hm hj => by
        unfold minor
        by_cases y : m < k
        · have a : skip k m = m := if_pos y
          have b : skip (k + 1) m = m := if_pos (by omega)
          rw [a, b]
        · by_cases x : m = k
          · subst x
            have a : skip m m = m + 1 := if_neg (by omega)
            have b : skip (m + 1) m = m := if_pos (by omega)
            rw [a, b, h (j + 1) (by omega)]
          · have a : skip k m = m + 1 := if_neg (by omega)
            have b : skip (k + 1) m = m + 1 := if_neg (by omega)
            rw [a, b]
      rw [e, h 0 (by omega)]
      simp only [sg]
      grind
    · intro i hi n1 n2
      rw [det_adj (n := n) (A := minor A i) (k := unskip i k) (by unfold unskip; split <;> omega) fun j hj => ?_]
      · omega
      · have a : skip i (unskip i k) = k := skip_un (by omega)
        have b : skip i (unskip i k + 1) = k + 1 := by
          have : unskip i k + 1 = unskip i (k + 1) := by unfold unskip; split <;> split <;> omega
          rw [this]; exact skip_un (by omega)
        unfold minor
        rw [a, b]
        exact h _ (by omega)
/-- neighbours exchanged -/
theorem det_adj_swap {n : Nat} {A : Mat} {k : Nat} (hk : k + 1 < n) (u v : Nat → Int) : det n (row (row A k u) (k + 1) v) = - det n (row (row A k v) (k + 1) u) := by
  have h0 : ∀ x : Nat → Int, det n (row (row A k x) (k + 1) x) = 0 := fun x => det_adj hk fun j _ => by rw [row_at, row_ne (by omega), row_at]
  have a := h0 fun j => 1 * u j + 1 * v j
  rw [det_lin hk] at a
  have p : ∀ w : Nat → Int, det n (row (row A k fun j => 1 * u j + 1 * v j) (k + 1) w) = det n (row (row A k u) (k + 1) w) + det n (row (row A k v) (k + 1) w) := fun w => by
    rw [row_comm (by omega), det_lin (by omega), row_comm (by omega), row_comm (k := k + 1) (by omega)]
    omega
  rw [p, p, h0, h0] at a
  omega
/-- two rows alike -/
theorem det_two {n : Nat} : ∀ (m : Nat) {A : Mat} {k l : Nat}, l = k + 1 + m → l < n → (∀ j, j < n → A k j = A l j) → det n A = 0
  | 0, A, k, l, e, hl, h => by subst e; exact det_adj hl h
  | m + 1, A, k, l, e, hl, h => by
    obtain ⟨q, rfl⟩ : ∃ q, l = q + 1 := ⟨k + 1 + m, by omega⟩
    have y : A = row (row A q (A q)) (q + 1) (A (q + 1)) := by rw [row_self, row_self]
    rw [y, det_adj_swap hl, det_two m (k := k) (l := q) (by omega) (by omega)]
    · rfl
    · intro j hj
      rw [row_ne (by omega), row_ne (by omega), row_ne (by omega), row_at]
      exact h j hj
theorem det_same {n : Nat} {A : Mat} {k l : Nat} (hk : k < n) (hl : l < n) (ne : k ≠ l) (h : ∀ j, j < n → A k j = A l j) : det n A = 0 := by
  by_cases e : k < l
  · exact det_two (l - k - 1) (k := k) (l := l) (by omega) hl h
  · exact det_two (k - l - 1) (k := l) (l := k) (by omega) hk fun j hj => (h j hj).symm
theorem det_swap {n : Nat} {A : Mat} {k l : Nat} (hk : k < n) (hl : l < n) (ne : k ≠ l) (u v : Nat → Int) : det n (row (row A k u) l v) = - det n (row (row A k v) l u) := by
  have h0 : ∀ x : Nat → Int, det n (row (row A k x) l x) = 0 := fun x => det_same hk hl ne fun j _ => by rw [row_at, row_ne ne, row_at]
  have a := h0 fun j => 1 * u j + 1 * v j
  rw [det_lin hl] at a
  have p : ∀ w : Nat → Int, det n (row (row A k fun j => 1 * u j + 1 * v j) l w) = det n (row (row A k u) l w) + det n (row (row A k v) l w) := fun w => by
    rw [row_comm ne, det_lin hk, row_comm (Ne.symm ne), row_comm (Ne.symm ne)]
    omega
  rw [p, p, h0, h0] at a
  omega
def idm : Mat := fun i j => if i = j then 1 else 0
theorem det_id : ∀ n, det n idm = 1
  | 0 => rfl
  | n + 1 => by
    simp only [det]
    rw [Z_one (m := 0) (by omega) fun i _ ne => by
      have : idm i 0 = 0 := if_neg ne
      rw [this]; simp]
    have e : minor idm 0 = idm := by
      funext k j
      unfold minor idm
      have : skip 0 k = k + 1 := if_neg (by omega)
      rw [this]
      by_cases y : k = j
      · rw [if_pos y, if_pos (by omega)]
      · rw [if_neg y, if_neg (by omega)]
    rw [e, det_id n]
    rfl
/-! ### sizes -/
def bd (B : Nat) : Nat → Nat
  | 0 => 1
  | n + 1 => (n + 1) * (B * bd B n)
theorem Z_abs {k : Nat} {f : Nat → Int} {B : Nat} (h : ∀ i, i < k → (f i).natAbs ≤ B) : (Z k f).natAbs ≤ k * B := by
  induction k with
  | zero => simp [Z]
  | succ k ih =>
    simp only [Z]
    have a := ih fun i hi => h i (by omega)
    have b := h k (by omega)
    have c : (k + 1) * B = k * B + B := Nat.succ_mul k B
    omega
theorem sg_abs : ∀ i, (sg i).natAbs = 1
  | 0 => rfl
  | n + 1 => by simp only [sg]; rw [Int.natAbs_neg]; exact sg_abs n
theorem det_abs : ∀ {n : Nat} {A : Mat} {B : Nat}, (∀ i j, i < n → j < n → (A i j).natAbs ≤ B) → (det n A).natAbs ≤ bd B n
  | 0, _, _, _ => Nat.le_refl 1
  | n + 1, A, B, h => by
    simp only [det, bd]
    refine Z_abs fun i hi => ?_
    rw [Int.natAbs_mul, Int.natAbs_mul, sg_abs, Nat.one_mul]
    exact Nat.mul_le_mul (h i 0 hi (by omega)) (det_abs fun k j hk hj => h _ _ (skip_lt hi hk) (by omega))
end CN
/-! one exchange: a tableau whose entries are determinants; no cycle where the least number goes first -/
set_option linter.all false
namespace CN
abbrev IV := Nat → Int
/-- d times v is a sum of the rows of g, by the factors L -/
def Rep (n : Nat) (g : Mat) (d : Int) (v L : IV) : Prop := ∀ i, i < n → d * v i = Z n fun j => L j * g j i
theorem det_rowc {n : Nat} {g : Mat} {j : Nat} {u v : IV} (h : ∀ i, i < n → u i = v i) : det n (row g j u) = det n (row g j v) := det_congr fun a b _ hb => by
  by_cases e : a = j
  · subst e; rw [row_at, row_at]; exact h b hb
  · rw [row_ne e, row_ne e]
theorem Rep.row_det {n : Nat} {g A : Mat} {d : Int} {v L : IV} (r : Rep n g d v L) {j : Nat} (hj : j < n) : d * det n (row A j v) = Z n fun l => L l * det n (row A j (g l)) := by
  rw [← det_smul hj, det_rowc (v := fun i => Z n fun l => L l * g l i) (fun i hi => r i hi), det_sum hj L g n]
theorem Rep.det {n : Nat} {g : Mat} {d : Int} {v L : IV} (r : Rep n g d v L) (hd : CN.det n g = d) (d0 : d ≠ 0) {j : Nat} (hj : j < n) : L j = CN.det n (row g j v) := by
  have e := r.row_det (A := g) hj
  rw [Z_one (m := j) hj fun i hi ne => by
    rw [det_same (k := i) (l := j) hi hj ne fun b _ => by rw [row_ne ne, row_at]]; simp] at e
  rw [row_self, hd, Int.mul_comm (L j)] at e
  exact (Int.eq_of_mul_eq_mul_left d0 e).symm
/-- what the tableau is behind an exchange -/
def newL (n : Nat) (g : Mat) (at_ : Nat) (v u : IV) : IV := fun j => CN.det n (row (row g at_ v) j u)
theorem piv_at {n : Nat} {g : Mat} {d : Int} {u v Lu Lv : IV} (hd : CN.det n g = d) (d0 : d ≠ 0) (ru : Rep n g d u Lu) {a : Nat} (ha : a < n) : newL n g a v u a = Lu a := by
  unfold newL
  rw [row_row, ru.det hd d0 ha]
theorem piv_ne {n : Nat} {g : Mat} {d : Int} {u v Lu Lv : IV} (hd : CN.det n g = d) (d0 : d ≠ 0) (ru : Rep n g d u Lu) (rv : Rep n g d v Lv) {a j : Nat} (ha : a < n) (hj : j < n) (ne : j ≠ a) :
    d * newL n g a v u j = Lu j * Lv a - Lu a * Lv j := by
  unfold newL
  rw [ru.row_det hj, Z_two (m := j) (q := a) hj ha ne]
  · have e1 : row (row g a v) j (g j) = row g a v := by rw [row_comm (Ne.symm ne), row_self]
    rw [e1, ← rv.det hd d0 ha]
    have e2 := rv.row_det (A := row g j (g a)) ha
    rw [row_comm ne] at e2
    rw [Z_one (m := j) hj, det_swap hj ha ne, row_self, row_self, hd] at e2
    · have e3 : CN.det n (row (row g a v) j (g a)) = - Lv j := by
        have : d * CN.det n (row (row g a v) j (g a)) = d * (- Lv j) := by rw [e2]; grind
        exact Int.eq_of_mul_eq_mul_left d0 this
      rw [e3]; grind
    · intro i hi nj
      by_cases y : i = a
      · subst y
        rw [det_same (k := j) (l := i) hj hi ne fun b _ => by rw [row_ne ne, row_at, row_at]]
        simp
      · rw [det_same (k := i) (l := a) hi ha y fun b _ => by rw [row_ne y, row_ne nj, row_at]]
        simp
  · intro i hi nj na
    rw [det_same (k := i) (l := j) hi hj nj fun b _ => by rw [row_ne nj, row_ne na, row_at]]
    simp
theorem piv_det {n : Nat} {g : Mat} {d : Int} {v Lv : IV} (hd : CN.det n g = d) (d0 : d ≠ 0) (rv : Rep n g d v Lv) {a : Nat} (ha : a < n) : CN.det n (row g a v) = Lv a := (rv.det hd d0 ha).symm
theorem Z_sub {k : Nat} {f g : Nat → Int} : Z k (fun i => f i - g i) = Z k f - Z k g := by
  induction k with
  | zero => rfl
  | succ k ih => simp only [Z]; rw [ih]; omega
theorem piv_rep {n : Nat} {g : Mat} {d : Int} {u v Lu Lv : IV} (hd : CN.det n g = d) (d0 : d ≠ 0) (ru : Rep n g d u Lu) (rv : Rep n g d v Lv) {a : Nat} (ha : a < n) : Rep n (row g a v) (Lv a) u (newL n g a v u) := by
  intro i hi
  refine Int.eq_of_mul_eq_mul_left d0 ?_
  rw [← Z_mul]
  have e : (Z n fun j => d * (newL n g a v u j * row g a v j i)) = Z n fun j => ((Lv a) * (Lu j * g j i) - (Lu a) * (Lv j * g j i)) + (if j = a then d * (Lu a * v i) else 0) := by
    refine Z_congr fun j hj => ?_
    by_cases y : j = a
    · subst y
      rw [piv_at (Lv := Lv) hd d0 ru hj, row_at, if_pos rfl]; grind
    · have z := piv_ne hd d0 ru rv ha hj y
      rw [row_ne y, if_neg y]
      have : d * (newL n g a v u j * g j i) = (d * newL n g a v u j) * g j i := by grind
      rw [this, z]; grind
  rw [e, Z_add, Z_sub, Z_mul, Z_mul, Z_one (m := a) (f := fun j => if j = a then _ else _) ha fun j _ ne => if_neg ne, if_pos rfl, ← ru i hi, ← rv i hi]
  grind
theorem Rep.start {n : Nat} {v : IV} : Rep n idm 1 v v := fun i hi => by
  rw [Z_one (m := i) hi fun j _ ne => by have : idm j i = 0 := if_neg ne; rw [this]; simp]
  have : idm i i = 1 := if_pos rfl
  rw [this]; omega
theorem Rep.comb {n : Nat} {g : Mat} {d : Int} {m : Nat} {c : Nat → Int} {u L : Nat → IV} (h : ∀ k, k < m → Rep n g d (u k) (L k)) : Rep n g d (fun i => Z m fun k => c k * u k i) fun j => Z m fun k => c k * L k j := fun i hi => by
  show d * (Z m fun k => c k * u k i) = Z n fun j => (Z m fun k => c k * L k j) * g j i
  rw [← Z_mul, Z_congr (g := fun k => c k * Z n fun j => L k j * g j i) fun k hk => by rw [← h k hk i hi]; grind]
  have e : (Z n fun j => (Z m fun k => c k * L k j) * g j i) = Z n fun j => Z m fun k => c k * (L k j * g j i) := Z_congr fun j _ => by
    rw [Int.mul_comm, ← Z_mul]; exact Z_congr fun k _ => by grind
  rw [e, Z_swap]
  exact Z_congr fun k _ => Z_mul.symm
/-! ### no cycle -/
/-- the greatest k below n with p k -/
theorem last_of {p : Nat → Prop} : ∀ n, (∃ k, k < n ∧ p k) → ∃ k, k < n ∧ p k ∧ ∀ l, k < l → l < n → ¬ p l
  | 0, ⟨k, h, _⟩ => absurd h (by omega)
  | n + 1, ⟨k, hk, pk⟩ => by
    by_cases y : p n
    · exact ⟨n, by omega, y, fun l a b => absurd a (by omega)⟩
    · obtain ⟨q, a, b, c⟩ := last_of n ⟨k, by
        by_cases e : k = n
        · subst e; exact absurd pk y
        · omega, pk⟩
      exact ⟨q, by omega, b, fun l h1 h2 => by
        by_cases e : l = n
        · subst e; exact y
        · exact c l h1 (by omega)⟩
structure Blnd (w T : Nat) (G : Nat → Nat → Nat) (phi : Nat → Nat → Int) (lam : Nat → Nat → Int) (e a : Nat → Nat) (d : Nat → Int) : Prop where
  apos : ∀ k, k < T → a k < w
  next : ∀ k p, k < T → p < w → G (k + 1) p = if p = a k then e k else G k p
  inj : ∀ k p q, k < T → p < w → q < w → G k p = G k q → p = q
  zero : ∀ k p, k < T → p < w → phi k (G k p) = 0
  below : ∀ k, k < T → phi k (e k) < 0
  first : ∀ k u, k < T → u < e k → 0 ≤ phi k u
  up : ∀ k, k < T → 0 < lam k (a k)
  least : ∀ k p, k < T → p < w → 0 < lam k p → G k (a k) ≤ G k p
  dpos : ∀ k, k < T → 0 < d k
  comb : ∀ k l, k < T → l < T → d k * phi l (e k) = d l * phi k (e k) + Z w fun p => lam k p * phi l (G k p)
theorem Z_nonpos {k : Nat} {f : Nat → Int} (h : ∀ i, i < k → f i ≤ 0) : Z k f ≤ 0 := by
  induction k with
  | zero => simp [Z]
  | succ k ih => simp only [Z]; have := ih fun i hi => h i (by omega); have := h k (by omega); omega
theorem bland {w T : Nat} {G : Nat → Nat → Nat} {phi lam : Nat → Nat → Int} {e a : Nat → Nat} {d : Nat → Int} (B : Blnd w T G phi lam e a d) {i j : Nat} (hij : i < j) (hj : j ≤ T) (same : ∀ p, p < w → G i p = G j p) : False := by
  -- t: the greatest of those that enter
  obtain ⟨t, ⟨A, hA1, hA2, hA⟩, tmax⟩ : ∃ t, (∃ k, i ≤ k ∧ k < j ∧ e k = t) ∧ ∀ k, i ≤ k → k < j → e k ≤ t := by
    have key : ∀ n, i < n → n ≤ j → ∃ t, (∃ k, i ≤ k ∧ k < n ∧ e k = t) ∧ ∀ k, i ≤ k → k < n → e k ≤ t := by
      intro n
      induction n with
      | zero => intro h; omega
      | succ n ih =>
        intro h1 h2
        by_cases y : i < n
        · obtain ⟨t, ⟨k, a1, a2, a3⟩, b⟩ := ih y (by omega)
          by_cases x : e n ≤ t
          · exact ⟨t, ⟨k, a1, by omega, a3⟩, fun l l1 l2 => by
              by_cases z : l = n
              · rw [z]; exact x
              · exact b l l1 (by omega)⟩
          · exact ⟨e n, ⟨n, by omega, by omega, rfl⟩, fun l l1 l2 => by
              by_cases z : l = n
              · rw [z]; omega
              · have := b l l1 (by omega); omega⟩
        · exact ⟨e n, ⟨n, by omega, by omega, rfl⟩, fun l l1 l2 => by
            have z : l = n := by omega
            subst z
            exact Nat.le_refl _⟩
    obtain ⟨t, h1, h2⟩ := key j hij (Nat.le_refl _)
    exact ⟨t, h1, h2⟩
  -- what is among the gaps at k and does not enter in between was there before
  have back : ∀ u, (∀ k, i ≤ k → k < j → e k ≠ u) → ∀ m k, k = i + m → k ≤ j → (∃ p, p < w ∧ G k p = u) → ∃ p, p < w ∧ G i p = u := by
    intro u hu m
    induction m with
    | zero => intro k h1 h2 h; subst h1; exact h
    | succ m ih =>
      intro k h1 h2 ⟨p, hp, g⟩
      obtain ⟨q, rfl⟩ : ∃ q, k = q + 1 := ⟨i + m, by omega⟩
      rw [B.next q p (by omega) hp] at g
      split at g
      · exact absurd g (hu q (by omega) (by omega))
      · exact ih q (by omega) (by omega) ⟨p, hp, g⟩
  have fwd : ∀ u, (∀ k, i ≤ k → k < j → e k ≠ u) → ∀ m k, k + m = j → i ≤ k → (∃ p, p < w ∧ G j p = u) → ∃ p, p < w ∧ G k p = u := by
    intro u hu m
    induction m with
    | zero => intro k h1 h2 h; have : k = j := by omega
              rw [this]; exact h
    | succ m ih =>
      intro k h1 h2 h
      obtain ⟨p, hp, g⟩ := ih (k + 1) (by omega) (by omega) h
      rw [B.next k p (by omega) hp] at g
      split at g
      · exact absurd g (hu k (by omega) (by omega))
      · exact ⟨p, hp, g⟩
  -- t leaves somewhere
  obtain ⟨b, hb1, hb2, hb⟩ : ∃ b, i ≤ b ∧ b < j ∧ G b (a b) = t := by
    refine Classical.byContradiction fun no => ?_
    have stay : ∀ m k, k = A + 1 + m → k ≤ j → ∃ p, p < w ∧ G k p = t := by
      intro m
      induction m with
      | zero => intro k h1 h2; subst h1; exact ⟨a A, B.apos A (by omega), by rw [Nat.add_zero, B.next A _ (by omega) (B.apos A (by omega)), if_pos rfl, hA]⟩
      | succ m ih =>
        intro k h1 h2
        obtain ⟨q, rfl⟩ : ∃ q, k = q + 1 := ⟨A + 1 + m, by omega⟩
        obtain ⟨p, hp, g⟩ := ih q (by omega) (by omega)
        refine ⟨p, hp, ?_⟩
        rw [B.next q p (by omega) hp, if_neg, g]
        intro z
        exact no ⟨q, by omega, by omega, by rw [← z]; exact g⟩
    obtain ⟨p, hp, g⟩ := stay (j - (A + 1)) j (by omega) (Nat.le_refl _)
    have stay2 : ∀ m k, k = i + m → k ≤ A → ∃ p, p < w ∧ G k p = t := by
      intro m
      induction m with
      | zero => intro k h1 h2; subst h1; exact ⟨p, hp, by rw [same p hp, g]⟩
      | succ m ih =>
        intro k h1 h2
        obtain ⟨q, rfl⟩ : ∃ q, k = q + 1 := ⟨i + m, by omega⟩
        obtain ⟨p, hp, g⟩ := ih q (by omega) (by omega)
        refine ⟨p, hp, ?_⟩
        rw [B.next q p (by omega) hp, if_neg, g]
        intro z
        exact no ⟨q, by omega, by omega, by rw [← z]; exact g⟩
    obtain ⟨p2, hp2, g2⟩ := stay2 (A - i) A (by omega) (Nat.le_refl _)
    have z := B.zero A p2 (by omega) hp2
    have y := B.below A (by omega)
    rw [g2, ← hA] at z
    omega
  have hA' : A < T := by omega
  have hb' : b < T := by omega
  have eb : e b < t := by
    have h := tmax b hb1 hb2
    by_cases z : e b = t
    · have x := B.zero b (a b) hb' (B.apos b hb')
      have y := B.below b hb'
      rw [hb, ← z] at x
      omega
    · omega
  have c := B.comb b A hb' hA'
  have s : (Z w fun p => lam b p * phi A (G b p)) ≤ 0 := by
    refine Z_nonpos fun p hp => ?_
    by_cases z : ∀ k, i ≤ k → k < j → e k ≠ G b p
    · have g1 := back _ z (b - i) b (by omega) (by omega) ⟨p, hp, rfl⟩
      obtain ⟨q, hq, g⟩ := g1
      rw [same q hq] at g
      obtain ⟨r, hr, g2⟩ := fwd _ z (j - A) A (by omega) hA1 ⟨q, hq, g⟩
      rw [← g2, B.zero A r hA' hr]; simp
    · have hF : ∃ k, i ≤ k ∧ k < j ∧ e k = G b p := Classical.byContradiction fun no => z fun k k1 k2 k3 => no ⟨k, k1, k2, k3⟩
      obtain ⟨k, k1, k2, k3⟩ := hF
      have le := tmax k k1 k2
      rw [k3] at le
      by_cases y : G b p = t
      · have : p = a b := B.inj b p (a b) hb' hp (B.apos b hb') (by rw [y, hb])
        subst this
        have u := B.up b hb'
        have v := B.below A hA'
        rw [y, ← hA]
        exact Int.le_of_lt (Int.mul_neg_of_pos_of_neg u v)
      · have l : ¬ 0 < lam b p := fun pos => by
          have := B.least b p hb' hp pos
          omega
        have f := B.first A (G b p) hA' (by omega)
        exact Int.mul_nonpos_of_nonpos_of_nonneg (by omega) f
  have f := B.first A (e b) hA' (by omega)
  have x := B.below b hb'
  have dA := B.dpos A hA'
  have db := B.dpos b hb'
  have m1 := Int.mul_nonneg (Int.le_of_lt db) f
  have m2 := Int.mul_neg_of_pos_of_neg dA x
  omega
end CN
/-! cleared forms over the rational numbers: made step by step, unique -/
set_option linter.all false
namespace RF
abbrev Vec := Nat → Rat
/-- the sum of f 0 .. f (k - 1) -/
def S (k : Nat) (f : Nat → Rat) : Rat := match k with
  | 0 => 0
  | k + 1 => S k f + f k
theorem S_congr {k : Nat} {f g : Nat → Rat} (h : ∀ i, i < k → f i = g i) : S k f = S k g := by
  induction k with
  | zero => rfl
  | succ k ih => simp only [S]; rw [ih fun i hi => h i (Nat.lt_succ_of_lt hi), h k (Nat.lt_succ_self k)]
theorem S_zero {k : Nat} {f : Nat → Rat} (h : ∀ i, i < k → f i = 0) : S k f = 0 := by
  induction k with
  | zero => rfl
  | succ k ih => simp only [S]; rw [ih fun i hi => h i (Nat.lt_succ_of_lt hi), h k (Nat.lt_succ_self k)]; grind
theorem S_add {k : Nat} {f g : Nat → Rat} : S k (fun i => f i + g i) = S k f + S k g := by
  induction k with
  | zero => simp only [S]; grind
  | succ k ih => simp only [S]; rw [ih]; grind
theorem S_mul {k : Nat} {f : Nat → Rat} {c : Rat} : S k (fun i => c * f i) = c * S k f := by
  induction k with
  | zero => simp only [S]; grind
  | succ k ih => simp only [S]; rw [ih]; grind
theorem S_one {k : Nat} {f : Nat → Rat} {m : Nat} (hm : m < k) (h : ∀ i, i < k → i ≠ m → f i = 0) : S k f = f m := by
  induction k with
  | zero => omega
  | succ k ih =>
    simp only [S]
    by_cases e : m = k
    · subst e
      rw [S_zero fun i hi => h i (by omega) (by omega)]; grind
    · rw [ih (by omega) fun i hi hn => h i (by omega) hn, h k (by omega) (by omega)]; grind
theorem S_ne {k : Nat} {f : Nat → Rat} (h : S k f ≠ 0) : ∃ i, i < k ∧ f i ≠ 0 := by
  by_cases z : ∃ i, i < k ∧ f i ≠ 0
  · exact z
  · exact (h (S_zero fun i hi => Classical.byContradiction fun q => z ⟨i, hi, q⟩)).elim
/-! ### spans -/
inductive Sp (L : List Vec) : Vec → Prop
  | zero : Sp L (fun _ => 0)
  | mem {v : Vec} : v ∈ L → Sp L v
  | add {v u : Vec} : Sp L v → Sp L u → Sp L (fun j => v j + u j)
  | smul {v : Vec} (c : Rat) : Sp L v → Sp L (fun j => c * v j)
theorem Sp.of_eq {L : List Vec} {v u : Vec} (h : Sp L v) (e : ∀ j, u j = v j) : Sp L u := by
  have : u = v := funext e
  rw [this]; exact h
theorem Sp.mono {L L' : List Vec} {v : Vec} (h : Sp L v) (s : ∀ x, x ∈ L → Sp L' x) : Sp L' v := by
  induction h with
  | zero => exact .zero
  | mem m => exact s _ m
  | add _ _ a b => exact .add a b
  | smul c _ a => exact .smul c a
theorem Sp.sub {L : List Vec} {v u : Vec} (c : Rat) (h : Sp L v) (g : Sp L u) : Sp L (fun j => v j - c * u j) :=
  (Sp.add h (Sp.smul (-c) g)).of_eq fun j => by grind
theorem Sp.sum {L : List Vec} {k : Nat} {c : Nat → Rat} {R : Nat → Vec} (h : ∀ i, i < k → Sp L (R i)) : Sp L (fun j => S k fun i => c i * R i j) := by
  induction k with
  | zero => exact .zero
  | succ k ih => exact .add (ih fun i hi => h i (by omega)) (.smul (c k) (h k (by omega)))
/-! ### the form -/
structure Form (n k : Nat) (R : Nat → Vec) (P : Nat → Nat) (L : List Vec) : Prop where
  pn : ∀ i, i < k → P i < n
  piv : ∀ i m, i < k → m < k → R i (P m) = if i = m then 1 else 0
  lead : ∀ i j, i < k → j < P i → R i j = 0
  spn : ∀ i, i < k → Sp L (R i)
  phi : ∀ x, x ∈ L → ∀ j, j < n → x j = S k fun i => x (P i) * R i j
theorem Form.phi_sp {n k : Nat} {R : Nat → Vec} {P : Nat → Nat} {L : List Vec} (F : Form n k R P L) {x : Vec} (h : Sp L x) : ∀ j, j < n → x j = S k fun i => x (P i) * R i j := by
  induction h with
  | zero => intro j hj; exact (S_zero fun i hi => by grind).symm
  | mem m => exact F.phi _ m
  | add _ _ a b =>
    intro j hj
    show _ + _ = _
    rw [a j hj, b j hj, ← S_add]
    exact S_congr fun i hi => by grind
  | smul c _ a =>
    intro j hj
    show c * _ = _
    rw [a j hj, ← S_mul]
    exact S_congr fun i hi => by grind
theorem Form.inj {n k : Nat} {R : Nat → Vec} {P : Nat → Nat} {L : List Vec} (F : Form n k R P L) {i m : Nat} (hi : i < k) (hm : m < k) (e : P i = P m) : i = m := by
  have a := F.piv i i hi hi
  have b := F.piv i m hi hm
  rw [← e, a, if_pos rfl] at b
  by_cases z : i = m
  · exact z
  · rw [if_neg z] at b; exact absurd b (by decide)
theorem Form.place {n k k' : Nat} {R R' : Nat → Vec} {P P' : Nat → Nat} {L : List Vec} (F : Form n k R P L) (G : Form n k' R' P' L) {i : Nat} (hi : i < k) : ∃ m, m < k' ∧ P i = P' m := by
  have e := G.phi_sp (F.spn i hi) (P i) (F.pn i hi)
  rw [F.piv i i hi hi, if_pos rfl] at e
  obtain ⟨m, hm, hne⟩ := S_ne (k := k') (f := fun m => R i (P' m) * R' m (P i)) (by rw [← e]; decide)
  refine ⟨m, hm, ?_⟩
  have h1 : R i (P' m) ≠ 0 := fun z => hne (by rw [z]; grind)
  have h2 : R' m (P i) ≠ 0 := fun z => hne (by rw [z]; grind)
  have a : ¬ P' m < P i := fun z => h1 (F.lead i _ hi z)
  have b : ¬ P i < P' m := fun z => h2 (G.lead m _ hm z)
  omega
theorem Form.uniq {n k k' : Nat} {R R' : Nat → Vec} {P P' : Nat → Nat} {L : List Vec} (F : Form n k R P L) (G : Form n k' R' P' L) {i : Nat} (hi : i < k) : ∃ m, m < k' ∧ P i = P' m ∧ ∀ j, j < n → R i j = R' m j := by
  obtain ⟨m, hm, e⟩ := F.place G hi
  refine ⟨m, hm, e, fun j hj => ?_⟩
  rw [G.phi_sp (F.spn i hi) j hj, S_one hm]
  · rw [← e, F.piv i i hi hi, if_pos rfl]; grind
  · intro m' hm' ne
    obtain ⟨i', hi', e'⟩ := G.place F hm'
    have : i ≠ i' := fun z => ne (G.inj hm' hm (by rw [e', ← z, e]))
    rw [e', F.piv i i' hi hi', if_neg this]; grind
/-- one line more that hangs on the others -/
theorem Form.hang {n k : Nat} {R : Nat → Vec} {P : Nat → Nat} {L : List Vec} (F : Form n k R P L) {x : Vec} (h : ∀ j, j < n → x j = S k fun i => x (P i) * R i j) : Form n k R P (L ++ [x]) :=
  ⟨F.pn, F.piv, F.lead, fun i hi => (F.spn i hi).mono fun y hy => .mem (List.mem_append_left _ hy), fun y hy => by
    rcases List.mem_append.mp hy with z | z
    · exact F.phi y z
    · rw [List.mem_singleton.mp z]; exact h⟩
/-- what is left of a line -/
def rest (k : Nat) (R : Nat → Vec) (P : Nat → Nat) (x : Vec) : Vec := fun j => x j - S k fun i => x (P i) * R i j
def newR (k : Nat) (R : Nat → Vec) (u : Vec) (q : Nat) : Nat → Vec := fun i j => if i < k then R i j - R i q * (u j / u q) else u j / u q
def newP (k : Nat) (P : Nat → Nat) (q : Nat) : Nat → Nat := fun i => if i < k then P i else q
theorem rest_piv {n k : Nat} {R : Nat → Vec} {P : Nat → Nat} {L : List Vec} (F : Form n k R P L) {x : Vec} {m : Nat} (hm : m < k) : rest k R P x (P m) = 0 := by
  unfold rest
  rw [S_one hm, F.piv m m hm hm, if_pos rfl]
  · grind
  · intro i hi ne
    rw [F.piv i m hi hm, if_neg ne]; grind
theorem Form.take {n k : Nat} {R : Nat → Vec} {P : Nat → Nat} {L : List Vec} (F : Form n k R P L) {x : Vec} {q : Nat} (hq : q < n) (h0 : ∀ j, j < q → rest k R P x j = 0) (h1 : rest k R P x q ≠ 0) :
    Form n (k + 1) (newR k R (rest k R P x) q) (newP k P q) (L ++ [x]) := by
  have ru := fun m hm => rest_piv F (x := x) (m := m) hm
  have spu : Sp (L ++ [x]) (rest k R P x) := by
    have a : Sp (L ++ [x]) x := .mem (List.mem_append_right _ (List.mem_singleton.mpr rfl))
    have b : Sp (L ++ [x]) (fun j => S k fun i => x (P i) * R i j) := Sp.sum fun i hi => (F.spn i hi).mono fun y hy => .mem (List.mem_append_left _ hy)
    exact (a.sub 1 b).of_eq fun j => by show _ - _ = _; grind
  have hx : ∀ j, x j = rest k R P x j + S k fun i => x (P i) * R i j := fun j => by show _ = (_ - _) + _; grind
  generalize rest k R P x = u at *
  have ne : ∀ m, m < k → P m ≠ q := fun m hm z => h1 (by rw [← z]; exact ru m hm)
  have spn' : ∀ i, i < k + 1 → Sp (L ++ [x]) (newR k R u q i) := fun i hi => by
    have b : Sp (L ++ [x]) (fun j => u j / u q) := (Sp.smul (1 / u q) spu).of_eq fun j => by grind
    by_cases z : i < k
    · have a := (F.spn i z).mono (L' := L ++ [x]) fun y hy => .mem (List.mem_append_left _ hy)
      exact (a.sub (R i q) b).of_eq fun j => by show (if i < k then _ else _) = _; rw [if_pos z]
    · exact b.of_eq fun j => by show (if i < k then _ else _) = _; rw [if_neg z]
  refine ⟨fun i hi => ?_, fun i m hi hm => ?_, fun i j hi hj => ?_, spn', fun y hy j hj => ?_⟩
  · show (if i < k then P i else q) < n
    split
    · exact F.pn i ‹_›
    · exact hq
  · show newR k R u q i (if m < k then P m else q) = _
    by_cases z : m < k
    · rw [if_pos z]
      show (if i < k then R i (P m) - R i q * (u (P m) / u q) else u (P m) / u q) = _
      rw [ru m z]
      by_cases y : i < k
      · rw [if_pos y, F.piv i m y z]; split <;> grind
      · rw [if_neg y, if_neg (by omega)]; grind
    · rw [if_neg z]
      show (if i < k then R i q - R i q * (u q / u q) else u q / u q) = _
      have one : u q / u q = 1 := by grind
      rw [one]
      by_cases y : i < k
      · rw [if_pos y, if_neg (by omega)]; grind
      · rw [if_neg y, if_pos (by omega)]
  · have hj' : j < (if i < k then P i else q) := hj
    show (if i < k then R i j - R i q * (u j / u q) else u j / u q) = 0
    by_cases y : i < k
    · rw [if_pos y] at hj' ⊢
      rw [F.lead i j y hj']
      by_cases g : j < q
      · rw [h0 j g]; grind
      · have : R i q = 0 := F.lead i q y (by omega)
        rw [this]; grind
    · rw [if_neg y] at hj' ⊢
      rw [h0 j hj']; grind
  · have old : ∀ z : Vec, (∀ j, j < n → z j = S k fun i => z (P i) * R i j) → z j = S (k + 1) fun i => z (newP k P q i) * newR k R u q i j := fun z hz => by
      simp only [S]
      have e1 : S k (fun i => z (newP k P q i) * newR k R u q i j) = S k fun i => z (P i) * R i j + (-(u j / u q)) * (z (P i) * R i q) := S_congr fun i hi => by
        show z (if i < k then P i else q) * (if i < k then R i j - R i q * (u j / u q) else u j / u q) = _
        rw [if_pos hi, if_pos hi]; grind
      have e2 : z (newP k P q k) * newR k R u q k j = z q * (u j / u q) := by
        show z (if k < k then P k else q) * (if k < k then R k j - R k q * (u j / u q) else u j / u q) = _
        rw [if_neg (by omega), if_neg (by omega)]
      rw [e1, e2, S_add, S_mul, ← hz j hj, ← hz q hq]; grind
    rcases List.mem_append.mp hy with z | z
    · exact old y (F.phi y z)
    · rw [List.mem_singleton.mp z]
      simp only [S]
      have e1 : S k (fun i => x (newP k P q i) * newR k R u q i j) = S k fun i => x (P i) * R i j + (-(u j / u q)) * (x (P i) * R i q) := S_congr fun i hi => by
        show x (if i < k then P i else q) * (if i < k then R i j - R i q * (u j / u q) else u j / u q) = _
        rw [if_pos hi, if_pos hi]; grind
      have e2 : x (newP k P q k) * newR k R u q k j = x q * (u j / u q) := by
        show x (if k < k then P k else q) * (if k < k then R k j - R k q * (u j / u q) else u j / u q) = _
        rw [if_neg (by omega), if_neg (by omega)]
      rw [e1, e2, S_add, S_mul]
      have a := hx j
      have b := hx q
      generalize S k (fun i => x (P i) * R i j) = sj at *
      generalize S k (fun i => x (P i) * R i q) = sq at *
      rw [a, b]; grind
theorem Form.start {n : Nat} {R : Nat → Vec} {P : Nat → Nat} : Form n 0 R P [] :=
  ⟨fun i h => by omega, fun i m h => by omega, fun i j h => by omega, fun i h => by omega, fun x h => by cases h⟩
end RF
set_option linter.all false
/-! the cleared form made column by column -/
namespace RF
structure PForm (c k : Nat) (R : Nat → Vec) (P : Nat → Nat) (Lf L : List Vec) : Prop where
  pc : ∀ i, i < k → P i < c
  up : ∀ i m, i < m → m < k → P i < P m
  piv : ∀ i m, i < k → m < k → R i (P m) = if i = m then 1 else 0
  lead : ∀ i j, i < k → j < P i → R i j = 0
  spn : ∀ i, i < k → Sp L (R i)
  lz : ∀ w, w ∈ Lf → ∀ j, j < c → w j = 0
  ls : ∀ w, w ∈ Lf → Sp L w
  phi : ∀ x, x ∈ L → Sp Lf (fun j => x j - S k fun i => x (P i) * R i j)
theorem PForm.start {R : Nat → Vec} {P : Nat → Nat} {L : List Vec} : PForm 0 0 R P L L :=
  ⟨fun i h => by omega, fun i m h g => by omega, fun i m h => by omega, fun i j h => by omega, fun i h => by omega, fun w h j g => by omega, fun w h => .mem h, fun x h => (Sp.mem h).of_eq fun j => by simp only [S]; grind⟩
theorem PForm.skip {c k : Nat} {R : Nat → Vec} {P : Nat → Nat} {Lf L : List Vec} (F : PForm c k R P Lf L) (h : ∀ w, w ∈ Lf → w c = 0) : PForm (c + 1) k R P Lf L :=
  ⟨fun i hi => Nat.lt_succ_of_lt (F.pc i hi), F.up, F.piv, F.lead, F.spn, fun w hw j hj => by
    by_cases e : j = c
    · rw [e]; exact h w hw
    · exact F.lz w hw j (by omega), F.ls, F.phi⟩
theorem sp_zero {Lf : List Vec} {v : Vec} (h : Sp Lf v) {j : Nat} (z : ∀ w, w ∈ Lf → w j = 0) : v j = 0 := by
  induction h with
  | zero => rfl
  | mem m => exact z _ m
  | add _ _ a b => show _ + _ = _; rw [a, b]; grind
  | smul c _ a => show c * _ = _; rw [a]; grind
theorem PForm.done {n k : Nat} {R : Nat → Vec} {P : Nat → Nat} {Lf L : List Vec} (F : PForm n k R P Lf L) : Form n k R P L :=
  ⟨F.pc, F.piv, F.lead, F.spn, fun x hx j hj => by
    have z := sp_zero (F.phi x hx) (j := j) fun w hw => F.lz w hw j hj
    have z : x j - (S k fun i => x (P i) * R i j) = 0 := z
    grind⟩
/-- a row less so many times the line a that it has 0 at c -/
def wo (a : Vec) (c : Nat) (w : Vec) : Vec := fun j => w j - w c * (a j / a c)
theorem sp_wo {Lf L' : List Vec} {a v : Vec} {c : Nat} (h : Sp Lf v) (m : ∀ w, w ∈ Lf → Sp L' (wo a c w)) : Sp L' (wo a c v) := by
  induction h with
  | zero => exact Sp.zero.of_eq fun j => by show (0 : Rat) - 0 * _ = 0; grind
  | mem z => exact m _ z
  | add _ _ x y => exact (Sp.add x y).of_eq fun j => by unfold wo; grind
  | smul c _ x => exact (Sp.smul c x).of_eq fun j => by unfold wo; grind
theorem PForm.step {c k : Nat} {R : Nat → Vec} {P : Nat → Nat} {Lf Lf' L : List Vec} {a : Vec} (F : PForm c k R P Lf L) (ha : a ∈ Lf) (h : a c ≠ 0)
    (s1 : ∀ y, y ∈ Lf' → ∃ w, w ∈ Lf ∧ y = wo a c w) (s2 : ∀ w, w ∈ Lf → wo a c w ∈ Lf' ∨ w = a) :
    PForm (c + 1) (k + 1) (newR k R a c) (newP k P c) Lf' L := by
  have one : a c / a c = 1 := by grind
  have az : ∀ j, j < c → a j = 0 := F.lz a ha
  have spa : Sp L (fun j => a j / a c) := (Sp.smul (1 / a c) (F.ls a ha)).of_eq fun j => by grind
  have ne : ∀ i, i < k → P i ≠ c := fun i hi => Nat.ne_of_lt (F.pc i hi)
  refine ⟨fun i hi => ?_, fun i m hi hm => ?_, fun i m hi hm => ?_, fun i j hi hj => ?_, fun i hi => ?_, fun y hy j hj => ?_, fun y hy => ?_, fun x hx => ?_⟩
  · show (if i < k then P i else c) < c + 1
    split
    · exact Nat.lt_succ_of_lt (F.pc i ‹_›)
    · omega
  · show (if i < k then P i else c) < (if m < k then P m else c)
    by_cases z : m < k
    · rw [if_pos z, if_pos (by omega)]; exact F.up i m hi z
    · rw [if_neg z, if_pos (by omega)]; exact F.pc i (by omega)
  · show (if i < k then R i (if m < k then P m else c) - R i c * (a (if m < k then P m else c) / a c) else a (if m < k then P m else c) / a c) = _
    by_cases z : m < k
    · rw [if_pos z, az _ (F.pc m z)]
      by_cases y : i < k
      · rw [if_pos y, F.piv i m y z]; split <;> grind
      · rw [if_neg y, if_neg (by omega)]; grind
    · rw [if_neg z, one]
      by_cases y : i < k
      · rw [if_pos y, if_neg (by omega)]; grind
      · rw [if_neg y, if_pos (by omega)]
  · have hj' : j < (if i < k then P i else c) := hj
    show (if i < k then R i j - R i c * (a j / a c) else a j / a c) = 0
    by_cases y : i < k
    · rw [if_pos y] at hj' ⊢
      rw [F.lead i j y hj', az j (Nat.lt_trans hj' (F.pc i y))]; grind
    · rw [if_neg y] at hj' ⊢
      rw [az j hj']; grind
  · by_cases y : i < k
    · exact ((F.spn i y).sub (R i c) spa).of_eq fun j => by show (if i < k then _ else _) = _; rw [if_pos y]
    · exact spa.of_eq fun j => by show (if i < k then _ else _) = _; rw [if_neg y]
  · obtain ⟨w, hw, rfl⟩ := s1 y hy
    unfold wo
    by_cases e : j = c
    · subst e; rw [one]; grind
    · rw [az j (by omega), F.lz w hw j (by omega)]; grind
  · obtain ⟨w, hw, rfl⟩ := s1 y hy
    exact ((F.ls w hw).sub (w c) spa).of_eq fun j => rfl
  · have t := sp_wo (a := a) (c := c) (L' := Lf') (F.phi x hx) fun w hw => by
      rcases s2 w hw with z | z
      · exact .mem z
      · subst z
        exact Sp.zero.of_eq fun j => by unfold wo; grind
    refine t.of_eq fun j => ?_
    show x j - (S k (fun i => x (newP k P c i) * newR k R a c i j) + x (newP k P c k) * newR k R a c k j) = (x j - S k fun i => x (P i) * R i j) - (x c - S k fun i => x (P i) * R i c) * (a j / a c)
    have e1 : S k (fun i => x (newP k P c i) * newR k R a c i j) = S k fun i => x (P i) * R i j + (-(a j / a c)) * (x (P i) * R i c) := S_congr fun i hi => by
      show x (if i < k then P i else c) * (if i < k then R i j - R i c * (a j / a c) else a j / a c) = _
      rw [if_pos hi, if_pos hi]; grind
    have e2 : x (newP k P c k) * newR k R a c k j = x c * (a j / a c) := by
      show x (if k < k then P k else c) * (if k < k then R k j - R k c * (a j / a c) else a j / a c) = _
      rw [if_neg (by omega), if_neg (by omega)]
    rw [e1, e2, S_add, S_mul]; grind
end RF
set_option linter.all false
/-! rows of integers over one divisor -/
namespace RF
def ent (l : List Int) (j : Nat) : Int := l.getD j 0
theorem ent_none {l : List Int} {j : Nat} (h : l.length ≤ j) : ent l j = 0 := by unfold ent; rw [List.getD_eq_getElem?_getD, List.getElem?_eq_none h]; rfl
theorem ent_some {l : List Int} {j : Nat} {x : Int} (h : l[j]? = some x) : ent l j = x := by unfold ent; rw [List.getD_eq_getElem?_getD, h]; rfl
theorem get_ent {l : List Int} {j : Nat} (h : j < l.length) : l[j]? = some (ent l j) := by rw [List.getElem?_eq_getElem h, ent_some (List.getElem?_eq_getElem h)]
theorem ent_zip {f : Int → Int → Int} (f0 : f 0 0 = 0) {l m : List Int} (hl : l.length = m.length) (j : Nat) : ent (List.zipWith f l m) j = f (ent l j) (ent m j) := by
  by_cases h : j < l.length
  · refine ent_some ?_
    rw [List.getElem?_zipWith, get_ent h, get_ent (by omega)]
  · rw [ent_none (by rw [List.length_zipWith]; omega), ent_none (by omega), ent_none (by omega), f0]
theorem ent_map {f : Int → Int} (f0 : f 0 = 0) {l : List Int} (j : Nat) : ent (l.map f) j = f (ent l j) := by
  by_cases h : j < l.length
  · refine ent_some ?_
    rw [List.getElem?_map, get_ent h]; rfl
  · rw [ent_none (by rw [List.length_map]; omega), ent_none (by omega), f0]
theorem ext_ent {l m : List Int} (hl : l.length = m.length) (h : ∀ j, j < l.length → ent l j = ent m j) : l = m := by
  refine List.ext_getElem? fun j => ?_
  by_cases z : j < l.length
  · rw [get_ent z, get_ent (by omega), h j z]
  · rw [List.getElem?_eq_none (by omega), List.getElem?_eq_none (by omega)]
def vec (l : List Int) : Vec := fun j => (ent l j : Rat)
/-! ### what is left -/
def restStep (line r : List Int) (rp : List Int × Nat) : List Int := if ent line rp.2 ≠ 0 then List.zipWith (fun e o => e - ent line rp.2 * o) r rp.1 else r
def restL (d : Int) (prs : List (List Int × Nat)) (line : List Int) : List Int := prs.foldl (restStep line) (line.map (d * ·))
theorem restStep_len {line r : List Int} {rp : List Int × Nat} (h : r.length = rp.1.length) : (restStep line r rp).length = r.length := by
  unfold restStep
  split
  · rw [List.length_zipWith]; omega
  · rfl
theorem restStep_ent {line r : List Int} {rp : List Int × Nat} (h : r.length = rp.1.length) (j : Nat) : ent (restStep line r rp) j = ent r j - ent line rp.2 * ent rp.1 j := by
  unfold restStep
  split
  · rw [ent_zip (by simp) h]
  · next z =>
    have z : ent line rp.2 = 0 := Classical.byContradiction z
    rw [z]; simp
theorem rest_len {d : Int} {line : List Int} {n : Nat} (hn : line.length = n) : ∀ {prs : List (List Int × Nat)}, (∀ p, p ∈ prs → p.1.length = n) → (restL d prs line).length = n := by
  have go : ∀ (prs : List (List Int × Nat)) (r : List Int), r.length = n → (∀ p, p ∈ prs → p.1.length = n) → (prs.foldl (restStep line) r).length = n := by
    intro prs
    induction prs with
    | nil => intro r h _; exact h
    | cons p ps ih =>
      intro r h hp
      refine ih _ ?_ fun q hq => hp q (List.mem_cons_of_mem _ hq)
      rw [restStep_len (by rw [h, hp p List.mem_cons_self])]; exact h
  intro prs hp
  exact go prs _ (by rw [List.length_map, hn]) hp
/-- a linear form of the rest -/
theorem rest_lin {d : Int} {line : List Int} {n : Nat} (hn : line.length = n) {prs : List (List Int × Nat)} (hp : ∀ p, p ∈ prs → p.1.length = n) {A : List Int → Prop} (h0 : A (line.map (d * ·))) (h1 : ∀ r p, p ∈ prs → r.length = n → A r → A (restStep line r p)) : A (restL d prs line) := by
  have go : ∀ (qs : List (List Int × Nat)) (r : List Int), r.length = n → A r → (∀ p, p ∈ qs → p ∈ prs) → A (qs.foldl (restStep line) r) := by
    intro qs
    induction qs with
    | nil => intro r _ h _; exact h
    | cons p ps ih =>
      intro r h a hq
      have m := hq p List.mem_cons_self
      refine ih _ ?_ (h1 r p m h a) fun q hh => hq q (List.mem_cons_of_mem _ hh)
      rw [restStep_len (by rw [h, hp p m])]; exact h
  exact go prs _ (by rw [List.length_map, hn]) h0 fun p h => h
theorem rest_ent {d : Int} {line : List Int} {n : Nat} (hn : line.length = n) {rows : List (List Int)} {places : List Nat} (hl : rows.length = places.length) (hr : ∀ r, r ∈ rows → r.length = n) (j : Nat) :
    (ent (restL d (rows.zip places) line) j : Rat) = d * ent line j - S rows.length fun i => (ent line (places.getD i 0) : Rat) * ent (rows.getD i []) j := by
  have go : ∀ (k : Nat), k ≤ rows.length → (((rows.zip places).take k).foldl (restStep line) (line.map (d * ·))).length = n ∧ (ent (((rows.zip places).take k).foldl (restStep line) (line.map (d * ·))) j : Rat) = d * ent line j - S k fun i => (ent line (places.getD i 0) : Rat) * ent (rows.getD i []) j := by
    intro k
    induction k with
    | zero =>
      intro _
      refine ⟨by rw [List.take_zero]; show (line.map _).length = n; rw [List.length_map, hn], ?_⟩
      rw [List.take_zero]
      show (ent (line.map (d * ·)) j : Rat) = _
      rw [ent_map (by simp)]
      simp only [S]
      rw [Rat.intCast_mul]; grind
    | succ k ih =>
      intro hk
      obtain ⟨i1, i2⟩ := ih (by omega)
      have g1 : rows[k]? = some rows[k] := List.getElem?_eq_getElem (by omega)
      have g2 : places[k]? = some places[k] := List.getElem?_eq_getElem (by omega)
      have e : (rows.zip places)[k]? = some (rows[k], places[k]) := by rw [List.getElem?_zip_eq_some]; exact ⟨g1, g2⟩
      have rk := hr rows[k] (List.getElem_mem _)
      have e2 : (rows.zip places).take (k + 1) = (rows.zip places).take k ++ [(rows[k], places[k])] := by rw [List.take_succ, e]; rfl
      rw [e2, List.foldl_append]
      show (restStep line (((rows.zip places).take k).foldl (restStep line) (line.map (d * ·))) (rows[k], places[k])).length = n ∧ (ent (restStep line (((rows.zip places).take k).foldl (restStep line) (line.map (d * ·))) (rows[k], places[k])) j : Rat) = _
      rw [restStep_len (by rw [i1, rk]), restStep_ent (by rw [i1, rk])]
      refine ⟨i1, ?_⟩
      simp only [S]
      rw [Rat.intCast_sub, i2, Rat.intCast_mul]
      have a : rows.getD k [] = rows[k] := by rw [List.getD_eq_getElem?_getD, g1]; rfl
      have b : places.getD k 0 = places[k] := by rw [List.getD_eq_getElem?_getD, g2]; rfl
      rw [a, b]; grind
  have z := (go rows.length (Nat.le_refl _)).2
  rw [List.take_of_length_le (by rw [List.length_zip]; omega)] at z
  exact z
/-! ### a line more -/
def clearedBy (rows : List (List Int)) (line : List Int) (q : Nat) (d : Int) : List (List Int) := rows.map fun row => List.zipWith (fun e o => (e * ent line q - ent row q * o).fdiv d) row line
structure EI (n : Nat) (rows : List (List Int)) (places : List Nat) (d : Int) (L : List Vec) : Prop where
  ln : rows.length = places.length
  wd : ∀ r, r ∈ rows → r.length = n
  d0 : d ≠ 0
  fm : Form n rows.length (fun i j => (ent (rows.getD i []) j : Rat) / d) (fun i => places.getD i 0) L
  m2 : rows.length ≤ 3 → ∀ r, r ∈ rows → ∀ s, s ∈ rows → ∀ j l, d ∣ ent r j * ent s l - ent r l * ent s j
theorem EI.start {n : Nat} : EI n [] [] 1 [] := ⟨rfl, fun r h => (by cases h), by decide, Form.start, fun _ r h => (by cases h)⟩
theorem EI.rest {n : Nat} {rows : List (List Int)} {places : List Nat} {d : Int} {L : List Vec} (I : EI n rows places d L) {line : List Int} (hn : line.length = n) (j : Nat) :
    (ent (restL d (rows.zip places) line) j : Rat) = d * RF.rest rows.length (fun i j => (ent (rows.getD i []) j : Rat) / d) (fun i => places.getD i 0) (vec line) j := by
  rw [rest_ent hn I.ln I.wd j]
  unfold RF.rest vec
  have d0 : (d : Rat) ≠ 0 := fun z => I.d0 (Rat.intCast_inj.mp z)
  have e : (d : Rat) * S rows.length (fun i => (ent line (places.getD i 0) : Rat) * ((ent (rows.getD i []) j : Rat) / d)) = S rows.length fun i => (ent line (places.getD i 0) : Rat) * ent (rows.getD i []) j := by
    rw [← S_mul]
    exact S_congr fun i hi => by grind
  rw [← e]; grind
theorem EI.hang {n : Nat} {rows : List (List Int)} {places : List Nat} {d : Int} {L : List Vec} (I : EI n rows places d L) {line : List Int} (hn : line.length = n) (h : ∀ j, j < n → ent (restL d (rows.zip places) line) j = 0) : EI n rows places d (L ++ [vec line]) :=
  ⟨I.ln, I.wd, I.d0, I.fm.hang fun j hj => by
    have e := I.rest hn j
    rw [h j hj] at e
    have d0 : (d : Rat) ≠ 0 := fun z => I.d0 (Rat.intCast_inj.mp z)
    have z : RF.rest rows.length (fun i j => (ent (rows.getD i []) j : Rat) / d) (fun i => places.getD i 0) (vec line) j = 0 := by grind
    unfold RF.rest at z
    grind, I.m2⟩
theorem mem_two {α : Type} {l : List α} (h : l.length ≤ 2) {x y z : α} (hx : x ∈ l) (hy : y ∈ l) (hz : z ∈ l) : x = y ∨ z = x ∨ z = y := by
  match l, h with
  | [], _ => cases hx
  | [a], _ => simp at hx hy; exact .inl (hx.trans hy.symm)
  | [a, b], _ =>
    simp at hx hy hz
    rcases hx with rfl | rfl <;> rcases hy with rfl | rfl <;> rcases hz with rfl | rfl <;> simp
/-- the minor of three rows -/
def m3 (x y z : List Int) (j l q : Nat) : Int := ent z q * (ent x j * ent y l - ent x l * ent y j) - ent y q * (ent x j * ent z l - ent x l * ent z j) + ent x q * (ent y j * ent z l - ent y l * ent z j)
theorem rest_minor {n : Nat} {rows : List (List Int)} {places : List Nat} {d : Int} {line : List Int} (hn : line.length = n) (hl : rows.length = places.length) (hr : ∀ r, r ∈ rows → r.length = n)
    (m2 : ∀ r, r ∈ rows → ∀ s, s ∈ rows → ∀ j l, d ∣ ent r j * ent s l - ent r l * ent s j) {r : List Int} (h : r ∈ rows) (j l : Nat) : d ∣ ent r j * ent (restL d (rows.zip places) line) l - ent r l * ent (restL d (rows.zip places) line) j := by
  have mem : ∀ p, p ∈ rows.zip places → p.1 ∈ rows := fun p hp => (List.of_mem_zip (show (p.1, p.2) ∈ _ from hp)).1
  refine rest_lin (A := fun s => d ∣ ent r j * ent s l - ent r l * ent s j) hn (fun p hp => hr _ (mem p hp)) ?_ fun s p hp hs a => ?_
  · rw [ent_map (by simp), ent_map (by simp)]
    exact ⟨ent r j * ent line l - ent r l * ent line j, by grind⟩
  · have e := hr _ (mem p hp)
    rw [restStep_ent (by rw [hs, e]), restStep_ent (by rw [hs, e])]
    obtain ⟨u, hu⟩ := a
    obtain ⟨v, hv⟩ := m2 r h p.1 (mem p hp) j l
    exact ⟨u - ent line p.2 * v, by grind⟩
theorem rest_minor3 {n : Nat} {rows : List (List Int)} {places : List Nat} {d : Int} {line : List Int} (hn : line.length = n) (hl : rows.length = places.length) (hr : ∀ r, r ∈ rows → r.length = n) (few : rows.length ≤ 2)
    (m2 : ∀ r, r ∈ rows → ∀ s, s ∈ rows → ∀ j l, d ∣ ent r j * ent s l - ent r l * ent s j) {x y : List Int} (hx : x ∈ rows) (hy : y ∈ rows) (j l q : Nat) : d * d ∣ m3 x y (restL d (rows.zip places) line) j l q := by
  have mem : ∀ p, p ∈ rows.zip places → p.1 ∈ rows := fun p hp => (List.of_mem_zip (show (p.1, p.2) ∈ _ from hp)).1
  refine rest_lin (A := fun s => d * d ∣ m3 x y s j l q) hn (fun p hp => hr _ (mem p hp)) ?_ fun s p hp hs a => ?_
  · unfold m3
    rw [ent_map (by simp), ent_map (by simp), ent_map (by simp)]
    obtain ⟨u, hu⟩ := m2 x hx y hy j l
    obtain ⟨v, hv⟩ := m2 x hx y hy l q
    obtain ⟨w, hw⟩ := m2 x hx y hy j q
    exact ⟨ent line q * u + ent line j * v - ent line l * w, by grind⟩
  · have e := hr _ (mem p hp)
    unfold m3 at a ⊢
    rw [restStep_ent (by rw [hs, e]), restStep_ent (by rw [hs, e]), restStep_ent (by rw [hs, e])]
    obtain ⟨u, hu⟩ := a
    refine ⟨u, ?_⟩
    rcases mem_two few hx hy (mem p hp) with z | z | z
    · subst z; grind
    · rw [z]; grind
    · rw [z]; grind
theorem cleared_ent {n : Nat} {rows : List (List Int)} {r row : List Int} {q : Nat} {d : Int} (h : row.length = r.length) (d1 : ∀ j, d ∣ ent row j * ent r q - ent row q * ent r j) (j : Nat) :
    d * ent (List.zipWith (fun e o => (e * ent r q - ent row q * o).fdiv d) row r) j = ent row j * ent r q - ent row q * ent r j := by
  rw [ent_zip (by simp) h]
  exact Int.mul_fdiv_cancel' (d1 j)
theorem EI.take {n : Nat} {rows : List (List Int)} {places : List Nat} {d : Int} {L : List Vec} (I : EI n rows places d L) (few : rows.length ≤ 3) {line : List Int} (hn : line.length = n) {q : Nat} (hq : q < n)
    (h0 : ∀ j, j < q → ent (restL d (rows.zip places) line) j = 0) (h1 : ent (restL d (rows.zip places) line) q ≠ 0) :
    EI n (clearedBy rows (restL d (rows.zip places) line) q d ++ [restL d (rows.zip places) line]) (places ++ [q]) (ent (restL d (rows.zip places) line) q) (L ++ [vec line]) := by
  have d0 : (d : Rat) ≠ 0 := fun z => I.d0 (Rat.intCast_inj.mp z)
  have mem : ∀ p, p ∈ rows.zip places → p.1 ∈ rows := fun p hp => (List.of_mem_zip (show (p.1, p.2) ∈ _ from hp)).1
  have rl : (restL d (rows.zip places) line).length = n := rest_len hn fun p hp => I.wd _ (mem p hp)
  have mr := fun r (h : r ∈ rows) j l => rest_minor hn I.ln I.wd (I.m2 few) (line := line) h j l
  have m3' := fun (f2 : rows.length ≤ 2) x (hx : x ∈ rows) y (hy : y ∈ rows) j l q => rest_minor3 hn I.ln I.wd f2 (I.m2 few) (line := line) hx hy j l q
  have re := fun j => I.rest hn (line := line) j
  have rq0 : ∀ j, RF.rest rows.length (fun i j => (ent (rows.getD i []) j : Rat) / d) (fun i => places.getD i 0) (vec line) j = (ent (restL d (rows.zip places) line) j : Rat) / d := fun j => by rw [re j]; grind
  have ft := I.fm.take (x := vec line) (q := q) hq (fun j hj => by rw [rq0, h0 j hj]; grind) (by
    rw [rq0]
    intro z
    have : (ent (restL d (rows.zip places) line) q : Rat) = 0 := by grind
    exact h1 (Rat.intCast_inj.mp this))
  generalize restL d (rows.zip places) line = r at *
  have rr0 : (ent r q : Rat) ≠ 0 := fun z => h1 (Rat.intCast_inj.mp z)
  have ce : ∀ row, row ∈ rows → ∀ j, d * ent (List.zipWith (fun e o => (e * ent r q - ent row q * o).fdiv d) row r) j = ent row j * ent r q - ent row q * ent r j := fun row hrow j =>
    cleared_ent (n := n) (rows := rows) ((I.wd row hrow).trans rl.symm) (fun j => mr row hrow j q) j
  have newlen : (clearedBy rows r q d).length = rows.length := by unfold clearedBy; rw [List.length_map]
  have at_ : ∀ i, i < rows.length → (clearedBy rows r q d ++ [r]).getD i [] = List.zipWith (fun e o => (e * ent r q - ent (rows.getD i []) q * o).fdiv d) (rows.getD i []) r := fun i hi => by
    have g : rows[i]? = some rows[i] := List.getElem?_eq_getElem hi
    rw [List.getD_eq_getElem?_getD, List.getElem?_append_left (by rw [newlen]; exact hi), List.getD_eq_getElem?_getD, g]
    unfold clearedBy
    rw [List.getElem?_map, g]; rfl
  have at_k : (clearedBy rows r q d ++ [r]).getD rows.length [] = r := by
    rw [List.getD_eq_getElem?_getD, List.getElem?_append_right (by rw [newlen]; exact Nat.le_refl _), newlen, Nat.sub_self]; rfl
  have rmem : ∀ i, i < rows.length → rows.getD i [] ∈ rows := fun i hi => by
    rw [List.getD_eq_getElem?_getD, List.getElem?_eq_getElem hi]; exact List.getElem_mem _
  refine ⟨by rw [List.length_append, List.length_append, newlen, I.ln]; rfl, fun x hx => ?_, h1, ?_, fun few' x hx y hy j l => ?_⟩
  · rcases List.mem_append.mp hx with z | z
    · obtain ⟨row, hrow, rfl⟩ := List.mem_map.mp z
      rw [List.length_zipWith, I.wd row hrow, rl]; omega
    · rw [List.mem_singleton.mp z]; exact rl
  · have e1 : (clearedBy rows r q d ++ [r]).length = rows.length + 1 := by rw [List.length_append, newlen]; rfl
    rw [e1]
    refine ⟨fun i hi => ?_, fun i m hi hm => ?_, fun i j hi hj => ?_, fun i hi => ?_, fun x hx j hj => ?_⟩
    all_goals
      have R' : ∀ i, i < rows.length + 1 → ∀ j, (ent ((clearedBy rows r q d ++ [r]).getD i []) j : Rat) / (ent r q : Rat) = newR rows.length (fun i j => (ent (rows.getD i []) j : Rat) / d) (RF.rest rows.length (fun i j => (ent (rows.getD i []) j : Rat) / d) (fun i => places.getD i 0) (vec line)) q i j := fun i hi j => by
        unfold newR
        by_cases z : i < rows.length
        · simp only [if_pos z]
          have g := ce _ (rmem i z) j
          rw [at_ i z, rq0, rq0]
          have g2 : (d : Rat) * (ent (List.zipWith (fun e o => (e * ent r q - ent (rows.getD i []) q * o).fdiv d) (rows.getD i []) r) j : Rat) = (ent (rows.getD i []) j : Rat) * ent r q - (ent (rows.getD i []) q : Rat) * ent r j := by
            rw [← Rat.intCast_mul, g, Rat.intCast_sub, Rat.intCast_mul, Rat.intCast_mul]
          generalize (ent (List.zipWith (fun e o => (e * ent r q - ent (rows.getD i []) q * o).fdiv d) (rows.getD i []) r) j : Rat) = X at *
          grind
        · have : i = rows.length := by omega
          subst this
          simp only [if_neg z]
          rw [at_k, rq0, rq0]; grind
      have P' : ∀ i, i < rows.length + 1 → (places ++ [q]).getD i 0 = newP rows.length (fun i => places.getD i 0) q i := fun i hi => by
        unfold newP
        by_cases z : i < rows.length
        · rw [if_pos z, List.getD_eq_getElem?_getD, List.getElem?_append_left (by rw [← I.ln]; exact z)]
          show _ = places.getD i 0
          rw [List.getD_eq_getElem?_getD]
        · have : i = rows.length := by omega
          rw [if_neg z, this, I.ln, List.getD_eq_getElem?_getD, List.getElem?_append_right (Nat.le_refl _), Nat.sub_self]; rfl
    · rw [P' i hi]; exact ft.pn i hi
    · rw [P' m hm, R' i hi]; exact ft.piv i m hi hm
    · rw [P' i hi] at hj; rw [R' i hi]; exact ft.lead i j hi hj
    · exact (ft.spn i hi).of_eq fun j => R' i hi j
    · rw [ft.phi x hx j hj]
      exact S_congr fun i hi => by rw [P' i hi, R' i hi]
  · rw [List.length_append, newlen] at few'
    have f2 : rows.length ≤ 2 := by have : [r].length = 1 := rfl; omega
    rcases List.mem_append.mp hx with zx | zx <;> rcases List.mem_append.mp hy with zy | zy
    · obtain ⟨a, ha, rfl⟩ := List.mem_map.mp zx
      obtain ⟨b, hb, rfl⟩ := List.mem_map.mp zy
      have a1 := ce a ha j
      have a2 := ce a ha l
      have b1 := ce b hb j
      have b2 := ce b hb l
      obtain ⟨t, ht⟩ := m3' f2 a ha b hb j l q
      unfold m3 at ht
      generalize ent (List.zipWith (fun e o => (e * ent r q - ent a q * o).fdiv d) a r) j = A1 at *
      generalize ent (List.zipWith (fun e o => (e * ent r q - ent a q * o).fdiv d) a r) l = A2 at *
      generalize ent (List.zipWith (fun e o => (e * ent r q - ent b q * o).fdiv d) b r) j = B1 at *
      generalize ent (List.zipWith (fun e o => (e * ent r q - ent b q * o).fdiv d) b r) l = B2 at *
      refine ⟨t, ?_⟩
      have dd : d * d ≠ 0 := Int.mul_ne_zero I.d0 I.d0
      refine Int.eq_of_mul_eq_mul_left dd ?_
      have : d * d * (A1 * B2 - A2 * B1) = (d * A1) * (d * B2) - (d * A2) * (d * B1) := by grind
      rw [this, a1, a2, b1, b2]
      grind
    · obtain ⟨a, ha, rfl⟩ := List.mem_map.mp zx
      rw [List.mem_singleton.mp zy]
      have a1 := ce a ha j
      have a2 := ce a ha l
      obtain ⟨t, ht⟩ := mr a ha j l
      generalize ent (List.zipWith (fun e o => (e * ent r q - ent a q * o).fdiv d) a r) j = A1 at *
      generalize ent (List.zipWith (fun e o => (e * ent r q - ent a q * o).fdiv d) a r) l = A2 at *
      refine ⟨t, Int.eq_of_mul_eq_mul_left I.d0 ?_⟩
      have : d * (A1 * ent r l - A2 * ent r j) = (d * A1) * ent r l - (d * A2) * ent r j := by grind
      rw [this, a1, a2]; grind
    · obtain ⟨a, ha, rfl⟩ := List.mem_map.mp zy
      rw [List.mem_singleton.mp zx]
      have a1 := ce a ha j
      have a2 := ce a ha l
      obtain ⟨t, ht⟩ := mr a ha j l
      generalize ent (List.zipWith (fun e o => (e * ent r q - ent a q * o).fdiv d) a r) j = A1 at *
      generalize ent (List.zipWith (fun e o => (e * ent r q - ent a q * o).fdiv d) a r) l = A2 at *
      refine ⟨-t, Int.eq_of_mul_eq_mul_left I.d0 ?_⟩
      have : d * (ent r j * A2 - ent r l * A1) = (d * A2) * ent r j - (d * A1) * ent r l := by grind
      rw [this, a1, a2]; grind
    · rw [List.mem_singleton.mp zx, List.mem_singleton.mp zy]
      exact ⟨0, by grind⟩
end RF
set_option linter.all false
namespace RF
theorem pigeon : ∀ (n k : Nat) (P : Nat → Nat), (∀ i, i < k → P i < n) → (∀ i j, i < k → j < k → P i = P j → i = j) → k ≤ n
  | 0, k, P, h, _ => by
    by_cases z : k = 0
    · omega
    · have := h 0 (by omega); omega
  | n + 1, k, P, h, inj => by
    by_cases z : ∃ i, i < k ∧ P i = n
    · obtain ⟨i, hi, e⟩ := z
      have := pigeon n (k - 1) (fun j => if j = i then P (k - 1) else P j) (fun j hj => by
        show (if j = i then P (k - 1) else P j) < n
        split
        · next y =>
          have a := h (k - 1) (by omega)
          have b : P (k - 1) ≠ n := fun w => by have := inj (k - 1) i (by omega) hi (by rw [w, e]); omega
          omega
        · next y =>
          have a := h j (by omega)
          have b : P j ≠ n := fun w => y (inj j i (by omega) hi (by rw [w, e]))
          omega) (fun a b ha hb w => by
        have w : (if a = i then P (k - 1) else P a) = (if b = i then P (k - 1) else P b) := w
        by_cases ya : a = i
        · by_cases yb : b = i
          · omega
          · rw [if_pos ya, if_neg yb] at w
            have := inj _ _ (by omega) (by omega) w
            omega
        · by_cases yb : b = i
          · rw [if_neg ya, if_pos yb] at w
            have := inj _ _ (by omega) (by omega) w
            omega
          · rw [if_neg ya, if_neg yb] at w
            exact inj _ _ (by omega) (by omega) w)
      omega
    · have := pigeon n k P (fun i hi => by
        have a := h i hi
        have b : P i ≠ n := fun w => z ⟨i, hi, w⟩
        omega) inj
      omega
theorem Form.le {n k : Nat} {R : Nat → Vec} {P : Nat → Nat} {L : List Vec} (F : Form n k R P L) : k ≤ n := pigeon n k P F.pn fun _ _ hi hj e => F.inj hi hj e
theorem EI.room {n : Nat} {rows : List (List Int)} {places : List Nat} {d : Int} {L : List Vec} (I : EI n rows places d L) {line : List Int} (hn : line.length = n) {q : Nat} (hq : q < n)
    (h0 : ∀ j, j < q → ent (restL d (rows.zip places) line) j = 0) (h1 : ent (restL d (rows.zip places) line) q ≠ 0) : rows.length + 1 ≤ n := by
  have d0 : (d : Rat) ≠ 0 := fun z => I.d0 (Rat.intCast_inj.mp z)
  have rq0 : ∀ j, RF.rest rows.length (fun i j => (ent (rows.getD i []) j : Rat) / d) (fun i => places.getD i 0) (vec line) j = (ent (restL d (rows.zip places) line) j : Rat) / d := fun j => by rw [I.rest hn (line := line) j]; grind
  exact (I.fm.take (x := vec line) (q := q) hq (fun j hj => by rw [rq0, h0 j hj]; grind) (by
    rw [rq0]
    intro z
    have : (ent (restL d (rows.zip places) line) q : Rat) = 0 := by grind
    exact h1 (Rat.intCast_inj.mp this))).le
/-! ### sizes -/
theorem add_lt {a b : Int} {x y : Nat} (ha : a.natAbs < x) (hb : b.natAbs < y) : (a - b).natAbs < x + y := by omega
theorem mul_lt {a b : Int} {s t : Nat} (ha : a.natAbs < 2 ^ s) (hb : b.natAbs < 2 ^ t) : (a * b).natAbs < 2 ^ (s + t) := by
  rw [Int.natAbs_mul, Nat.pow_add]
  exact Nat.mul_lt_mul'' ha hb
theorem rest_sz {n : Nat} {rows : List (List Int)} {places : List Nat} {d : Int} {line : List Int} {m t : Nat} (hn : line.length = n) (hl : rows.length = places.length) (few : rows.length ≤ 4) (hr : ∀ r, r ∈ rows → r.length = n) (hs : ∀ r, r ∈ rows → ∀ j, (ent r j).natAbs < 2 ^ m) (hd : d.natAbs < 2 ^ m)
    (ht : ∀ j, (ent line j).natAbs < 2 ^ t) (j : Nat) : (ent (restL d (rows.zip places) line) j).natAbs < 2 ^ (m + t + 3) := by
  have go : ∀ (k : Nat), k ≤ rows.length → (((rows.zip places).take k).foldl (restStep line) (line.map (d * ·))).length = n ∧ (ent (((rows.zip places).take k).foldl (restStep line) (line.map (d * ·))) j).natAbs < 2 ^ (m + t) * (k + 1) := by
    intro k
    induction k with
    | zero =>
      intro _
      refine ⟨by rw [List.take_zero]; show (line.map _).length = n; rw [List.length_map, hn], ?_⟩
      rw [List.take_zero]
      show (ent (line.map (d * ·)) j).natAbs < _
      rw [ent_map (by simp), Nat.zero_add, Nat.mul_one]
      exact mul_lt hd (ht j)
    | succ k ih =>
      intro hk
      obtain ⟨i1, i2⟩ := ih (by omega)
      have g1 : rows[k]? = some rows[k] := List.getElem?_eq_getElem (by omega)
      have g2 : places[k]? = some places[k] := List.getElem?_eq_getElem (by omega)
      have e : (rows.zip places)[k]? = some (rows[k], places[k]) := by rw [List.getElem?_zip_eq_some]; exact ⟨g1, g2⟩
      have mk : rows[k] ∈ rows := List.getElem_mem _
      have rk := hr rows[k] mk
      have e2 : (rows.zip places).take (k + 1) = (rows.zip places).take k ++ [(rows[k], places[k])] := by rw [List.take_succ, e]; rfl
      rw [e2, List.foldl_append]
      show (restStep line (((rows.zip places).take k).foldl (restStep line) (line.map (d * ·))) (rows[k], places[k])).length = n ∧ (ent (restStep line (((rows.zip places).take k).foldl (restStep line) (line.map (d * ·))) (rows[k], places[k])) j).natAbs < _
      rw [restStep_len (by rw [i1, rk]), restStep_ent (by rw [i1, rk])]
      refine ⟨i1, ?_⟩
      have b := mul_lt (ht places[k]) (hs rows[k] mk j)
      rw [Nat.add_comm t m] at b
      have := add_lt i2 b
      show (_ - ent line places[k] * ent rows[k] j).natAbs < _
      have e3 : 2 ^ (m + t) * (k + 1) + 2 ^ (m + t) = 2 ^ (m + t) * (k + 1 + 1) := by rw [Nat.mul_succ (2 ^ (m + t)) (k + 1)]
      omega
  have z := (go rows.length (Nat.le_refl _)).2
  rw [List.take_of_length_le (by rw [List.length_zip]; omega)] at z
  refine Nat.lt_of_lt_of_le z ?_
  rw [Nat.pow_add 2 (m + t) 3]
  exact Nat.mul_le_mul_left _ (by omega)
theorem cleared_sz {rows : List (List Int)} {r : List Int} {q : Nat} {d : Int} {n m t : Nat} (hr : ∀ x, x ∈ rows → x.length = n) (hn : r.length = n) (hs : ∀ x, x ∈ rows → ∀ j, (ent x j).natAbs < 2 ^ m) (ht : ∀ j, (ent r j).natAbs < 2 ^ t) :
    ∀ x, x ∈ clearedBy rows r q d ++ [r] → x.length = n ∧ ∀ j, (ent x j).natAbs < 2 ^ (m + t + 1) := by
  intro x hx
  rcases List.mem_append.mp hx with z | z
  · obtain ⟨row, hrow, rfl⟩ := List.mem_map.mp z
    refine ⟨by rw [List.length_zipWith, hr row hrow, hn]; omega, fun j => ?_⟩
    rw [ent_zip (by simp) (by rw [hr row hrow, hn])]
    refine Nat.lt_of_le_of_lt (Int.natAbs_fdiv_le_natAbs _ _) ?_
    have := add_lt (mul_lt (hs row hrow j) (ht q)) (mul_lt (hs row hrow q) (ht j))
    have e : 2 ^ (m + t) + 2 ^ (m + t) = 2 ^ (m + t + 1) := by rw [Nat.pow_succ]; omega
    omega
  · rw [List.mem_singleton.mp z]
    exact ⟨hn, fun j => Nat.lt_of_lt_of_le (ht j) (Nat.pow_le_pow_right (by decide) (by omega))⟩
def szk (t : Nat) : Nat → Nat
  | 0 => 1
  | k + 1 => 2 * szk t k + t + 15
theorem szk_le {t : Nat} (ht : t ≤ 420) : ∀ {k : Nat}, k ≤ 4 → szk t k ≤ 7000
  | 0, _ => by simp only [szk]; omega
  | 1, _ => by simp only [szk]; omega
  | 2, _ => by simp only [szk]; omega
  | 3, _ => by simp only [szk]; omega
  | 4, _ => by simp only [szk]; omega
  | k + 5, h => by omega
theorem szk_pos (t k : Nat) : 0 < szk t k := by cases k <;> simp only [szk] <;> omega
end RF
/-! corners: the program's lists, step by step -/
set_option linter.all false
namespace CN
open RF
structure Co where
  gaps : List Nat
  rows : List (List Int)
  d : Int
def unitI (w p : Nat) : List Int := 0 :: (List.range w).map fun a => if a = p then 1 else 0
def startC (w : Nat) : Co := ⟨List.range w, (List.range w).map (unitI w), 1⟩
def subStep (told : List Int) (er : Int × List Int) : List Int := if er.1 ≠ 0 then List.zipWith (fun t o => t - er.1 * o) told er.2 else told
def lineC (lines : List (List Int)) (w : Nat) (st : Co) (v : Nat) : List Int :=
  if v < w then st.rows.getD v [] else (((lines.getD (v - w) []).drop 1).zip st.rows).foldl subStep (st.d * ent (lines.getD (v - w) []) 0 :: List.replicate w 0)
def constC (lines : List (List Int)) (w : Nat) (st : Co) (v : Nat) : Int :=
  if v < w then ent (st.rows.getD v []) 0 else st.d * ent (lines.getD (v - w) []) 0 - (List.zipWith (fun e r => e * ent r 0) ((lines.getD (v - w) []).drop 1) st.rows).sum
def belowC (lines : List (List Int)) (w : Nat) (st : Co) : Option Nat := (List.range (w + lines.length)).find? fun v => decide (constC lines w st v < 0)
def waysC (w : Nat) (line : List Int) : List Nat := ((List.range w).map (· + 1)).filter fun a => decide (0 < ent line a)
def gapC (st : Co) (a : Nat) : Nat := st.gaps.getD (a - 1) 0
def wayC (w : Nat) (st : Co) (line : List Int) : Option Nat := (waysC w line).find? fun a => (waysC w line).all fun b => decide (gapC st a ≤ gapC st b)
def swapR (a : Nat) (row before : List Int) : List Int := row.take a ++ [ent before a] ++ row.drop (a + 1)
def moveC (st : Co) (v : Nat) (line : List Int) (a : Nat) : Co := ⟨st.gaps.set (a - 1) v, List.zipWith (swapR a) (clearedBy st.rows line a st.d) st.rows, ent line a⟩
def factC (w m : Nat) (st : Co) (v : Nat) (line : List Int) : List Int :=
  ((v, st.d) :: st.gaps.zip ((line.drop 1).map fun x => -x)).foldl (fun fs z => if w ≤ z.1 then fs.set (z.1 - w) z.2 else fs) (List.replicate m 0)
inductive Res where
  | fit (st : Co)
  | bar (fs : List Int)
def stepC (lines : List (List Int)) (w : Nat) (st : Co) : Res ⊕ Co :=
  match belowC lines w st with
  | none => .inl (.fit st)
  | some v => match wayC w st (lineC lines w st v) with
    | none => .inl (.bar (factC w lines.length st v (lineC lines w st v)))
    | some a => .inr (moveC st v (lineC lines w st v) a)
def runC (lines : List (List Int)) (w : Nat) : Nat → Co → Option Res
  | 0, _ => none
  | n + 1, st => match stepC lines w st with
    | .inl r => some r
    | .inr st' => runC lines w n st'
/-! ### what the lists say -/
/-- the number's vector: its constant, its factors -/
def vv (lines : List (List Int)) (w v : Nat) : IV := if v < w then fun c => if c = v + 1 then 1 else 0 else fun c => if c = 0 then ent (lines.getD (v - w) []) 0 else - ent (lines.getD (v - w) []) c
def e0 : IV := fun c => if c = 0 then 1 else 0
def gm (lines : List (List Int)) (w : Nat) (gaps : List Nat) : Mat := fun j => if j = 0 then e0 else vv lines w (gaps.getD (j - 1) 0)
structure CI (lines : List (List Int)) (w : Nat) (st : Co) : Prop where
  gl : st.gaps.length = w
  rl : st.rows.length = w
  rw_ : ∀ r ∈ st.rows, r.length = w + 1
  gb : ∀ g ∈ st.gaps, g < w + lines.length
  det : CN.det (w + 1) (gm lines w st.gaps) = st.d
  dp : 0 < st.d
  rep : ∀ i, i < w → Rep (w + 1) (gm lines w st.gaps) st.d (vv lines w i) (ent (st.rows.getD i []))
theorem ent_cons0 {x : Int} {l : List Int} : ent (x :: l) 0 = x := rfl
theorem ent_consS {x : Int} {l : List Int} {j : Nat} : ent (x :: l) (j + 1) = ent l j := rfl
theorem ent_rep0 {n j : Nat} : ent (List.replicate n 0) j = 0 := by
  unfold ent
  rw [List.getD_eq_getElem?_getD, List.getElem?_replicate]
  split <;> rfl
theorem ent_range {w j : Nat} {f : Nat → Int} : ent ((List.range w).map f) j = if j < w then f j else 0 := by
  unfold ent
  rw [List.getD_eq_getElem?_getD, List.getElem?_map]
  by_cases h : j < w
  · rw [List.getElem?_range h, if_pos h]; rfl
  · rw [List.getElem?_eq_none (by rw [List.length_range]; omega), if_neg h]; rfl
theorem ent_unit {w p j : Nat} (hp : p < w) : ent (unitI w p) j = if j = p + 1 then 1 else 0 := by
  unfold unitI
  cases j with
  | zero => rw [ent_cons0, if_neg (by omega)]
  | succ j =>
    rw [ent_consS, ent_range]
    by_cases h : j = p
    · subst h; rw [if_pos hp, if_pos rfl, if_pos rfl]
    · rw [if_neg (by omega : ¬ j + 1 = p + 1)]
      split
      · rfl
      · rfl
theorem rep_congr {n : Nat} {g g' : Mat} {d : Int} {v v' L L' : IV} (hg : ∀ i j, i < n → j < n → g i j = g' i j) (hv : ∀ i, i < n → v i = v' i) (hL : ∀ j, j < n → L j = L' j) (r : Rep n g d v L) : Rep n g' d v' L' := fun i hi => by
  rw [← hv i hi, r i hi]
  exact Z_congr fun j hj => by rw [hL j hj, hg j i hj hi]
theorem getD_map {α β : Type} {l : List α} {f : α → β} {i : Nat} {a : α} {b : β} (h : i < l.length) : (l.map f).getD i b = f (l.getD i a) := by
  rw [List.getD_eq_getElem?_getD, List.getD_eq_getElem?_getD, List.getElem?_map, List.getElem?_eq_getElem h]; rfl
theorem getD_mem' {α : Type} {l : List α} {i : Nat} {b : α} (h : i < l.length) : l.getD i b ∈ l := by
  rw [List.getD_eq_getElem?_getD, List.getElem?_eq_getElem h]; exact List.getElem_mem _
theorem gm_start {lines : List (List Int)} {w i j : Nat} (hi : i < w + 1) : gm lines w (List.range w) i j = idm i j := by
  unfold gm idm
  by_cases h : i = 0
  · subst h
    rw [if_pos rfl]
    unfold e0
    by_cases y : j = 0
    · rw [if_pos y, if_pos y.symm]
    · rw [if_neg y, if_neg fun z => y z.symm]
  · rw [if_neg h]
    have e : (List.range w).getD (i - 1) 0 = i - 1 := by
      rw [List.getD_eq_getElem?_getD, List.getElem?_range (by omega)]; rfl
    rw [e]
    unfold vv
    rw [if_pos (by omega)]
    by_cases y : j = i - 1 + 1
    · rw [if_pos y, if_pos (by omega)]
    · rw [if_neg y, if_neg (by omega)]
theorem CI.start (lines : List (List Int)) (w : Nat) : CI lines w (startC w) where
  gl := List.length_range
  rl := by show ((List.range w).map _).length = w; rw [List.length_map, List.length_range]
  rw_ := fun r hr => by
    obtain ⟨p, _, e⟩ := List.mem_map.mp (show r ∈ (List.range w).map (unitI w) from hr)
    rw [← e]
    unfold unitI
    rw [List.length_cons, List.length_map, List.length_range]
  gb := fun g hg => by have := List.mem_range.mp (show g ∈ List.range w from hg); omega
  det := by
    show CN.det (w + 1) (gm lines w (List.range w)) = 1
    rw [det_congr (B := idm) fun i j hi _ => gm_start hi, det_id]
  dp := by show (0 : Int) < 1; decide
  rep := fun i hi => by
    refine rep_congr (fun a b ha _ => (gm_start (lines := lines) ha).symm) (fun _ _ => rfl) (fun j hj => ?_) (Rep.start (v := vv lines w i))
    show vv lines w i j = ent (((List.range w).map (unitI w)).getD i []) j
    rw [getD_map (a := 0) (by rw [List.length_range]; exact hi), show (List.range w).getD i 0 = i by rw [List.getD_eq_getElem?_getD, List.getElem?_range hi]; rfl, ent_unit hi]
    unfold vv
    rw [if_pos hi]
theorem sub_len {told : List Int} {er : Int × List Int} {n : Nat} (h : told.length = n) (g : er.2.length = n) : (subStep told er).length = n := by
  unfold subStep
  split
  · rw [List.length_zipWith, h, g, Nat.min_self]
  · exact h
theorem sub_ent {told : List Int} {er : Int × List Int} {n : Nat} (h : told.length = n) (g : er.2.length = n) (j : Nat) : ent (subStep told er) j = ent told j - er.1 * ent er.2 j := by
  unfold subStep
  by_cases z : er.1 ≠ 0
  · rw [if_pos z, ent_zip (f := fun t o => t - er.1 * o) (by omega) (by rw [h, g])]
  · rw [if_neg z]
    have : er.1 = 0 := Classical.not_not.mp z
    rw [this]; omega
theorem fold_sub {n : Nat} : ∀ (es : List Int) (rows : List (List Int)) (t0 : List Int), es.length = rows.length → t0.length = n → (∀ r ∈ rows, r.length = n) →
    ((es.zip rows).foldl subStep t0).length = n ∧ ∀ j, ent ((es.zip rows).foldl subStep t0) j = ent t0 j - Z rows.length fun i => ent es i * ent (rows.getD i []) j := by
  intro es
  induction es with
  | nil =>
    intro rows t0 hl ht hr
    cases rows with
    | nil => exact ⟨ht, fun j => by simp [Z]⟩
    | cons a b => cases hl
  | cons e es ih =>
    intro rows t0 hl ht hr
    cases rows with
    | nil => cases hl
    | cons r rows =>
      have hr0 := hr r (.head _)
      obtain ⟨a, b⟩ := ih rows (subStep t0 (e, r)) (Nat.succ.inj hl) (sub_len ht hr0) fun x hx => hr x (.tail _ hx)
      refine ⟨a, fun j => ?_⟩
      show ent ((es.zip rows).foldl subStep (subStep t0 (e, r))) j = _
      rw [b j, sub_ent ht hr0]
      have front : ∀ (k : Nat) (f : Nat → Int), Z (k + 1) f = f 0 + Z k fun i => f (i + 1) := by
        intro k f
        induction k with
        | zero => simp [Z]
        | succ k ihk =>
          show Z (k + 1) f + f (k + 1) = _
          rw [ihk]
          show _ = f 0 + (Z k (fun i => f (i + 1)) + f (k + 1))
          omega
      show _ = ent t0 j - Z (rows.length + 1) fun i => ent (e :: es) i * ent ((r :: rows).getD i []) j
      rw [front]
      show ent t0 j - e * ent r j - _ = ent t0 j - (e * ent r j + Z rows.length fun i => ent es i * ent (rows.getD i []) j)
      omega
theorem Z_front (k : Nat) (f : Nat → Int) : Z (k + 1) f = f 0 + Z k fun i => f (i + 1) := by
  induction k with
  | zero => simp [Z]
  | succ k ihk =>
    show Z (k + 1) f + f (k + 1) = _
    rw [ihk]
    show _ = f 0 + (Z k (fun i => f (i + 1)) + f (k + 1))
    omega
theorem sum_zw : ∀ (es : List Int) (rows : List (List Int)), es.length = rows.length → (List.zipWith (fun e r => e * ent r 0) es rows).sum = Z rows.length fun i => ent es i * ent (rows.getD i []) 0
  | [], [], _ => rfl
  | e :: es, r :: rows, h => by
    show e * ent r 0 + (List.zipWith (fun e r => e * ent r 0) es rows).sum = Z (rows.length + 1) _
    rw [sum_zw es rows (Nat.succ.inj h), Z_front]; rfl
  | [], _ :: _, h => by cases h
  | _ :: _, [], h => by cases h
section
variable {lines : List (List Int)} {w : Nat} {st : Co}
theorem ent_drop {l : List Int} {j : Nat} : ent (l.drop 1) j = ent l (j + 1) := by
  unfold ent
  rw [List.getD_eq_getElem?_getD, List.getD_eq_getElem?_getD, List.getElem?_drop, Nat.add_comm]
theorem CI.line (I : CI lines w st) (hl : ∀ l ∈ lines, l.length = w + 1) {v : Nat} (hv : v < w + lines.length) :
    (lineC lines w st v).length = w + 1 ∧ Rep (w + 1) (gm lines w st.gaps) st.d (vv lines w v) (ent (lineC lines w st v)) ∧ constC lines w st v = ent (lineC lines w st v) 0 := by
  by_cases h : v < w
  · unfold lineC constC
    rw [if_pos h, if_pos h]
    exact ⟨I.rw_ _ (getD_mem' (by rw [I.rl]; exact h)), I.rep v h, rfl⟩
  · have hm : v - w < lines.length := by omega
    have ll := hl _ (getD_mem' (b := []) hm)
    have ld : ((lines.getD (v - w) []).drop 1).length = st.rows.length := by rw [List.length_drop, ll, I.rl]; rfl
    obtain ⟨a, b⟩ := fold_sub (n := w + 1) _ st.rows (st.d * ent (lines.getD (v - w) []) 0 :: List.replicate w 0) ld (by rw [List.length_cons, List.length_replicate]) I.rw_
    have eL : ∀ j, ent (lineC lines w st v) j = ent (st.d * ent (lines.getD (v - w) []) 0 :: List.replicate w 0) j - Z w fun i => ent (lines.getD (v - w) []) (i + 1) * ent (st.rows.getD i []) j := fun j => by
      unfold lineC
      rw [if_neg h, b j, I.rl]
      congr 1
      exact Z_congr fun i _ => by rw [ent_drop]
    have R0 : Rep (w + 1) (gm lines w st.gaps) st.d e0 fun j => if j = 0 then st.d else 0 := fun i hi => by
      rw [Z_one (m := 0) (by omega) fun j _ ne => by show (if j = 0 then st.d else 0) * _ = 0; rw [if_neg ne]; simp]
      rfl
    have C := Rep.comb (m := w + 1) (c := fun k => if k = 0 then ent (lines.getD (v - w) []) 0 else - ent (lines.getD (v - w) []) k) (u := fun k => if k = 0 then e0 else vv lines w (k - 1)) (L := fun k => if k = 0 then (fun j => if j = 0 then st.d else 0) else ent (st.rows.getD (k - 1) []))
      (g := gm lines w st.gaps) (d := st.d) (n := w + 1) fun k hk => by
        by_cases z : k = 0
        · subst z; rw [if_pos rfl, if_pos rfl]; exact R0
        · rw [if_neg z, if_neg z]; exact I.rep (k - 1) (by omega)
    refine ⟨by unfold lineC; rw [if_neg h]; exact a, rep_congr (fun _ _ _ _ => rfl) (fun i hi => ?_) (fun j hj => ?_) C, ?_⟩
    · show (Z (w + 1) fun k => (if k = 0 then _ else _) * (if k = 0 then e0 else vv lines w (k - 1)) i) = _
      unfold vv
      rw [if_neg h, Z_front]
      show _ * e0 i + Z w (fun k => - ent (lines.getD (v - w) []) (k + 1) * (if k < w then fun c => if c = k + 1 then (1 : Int) else 0 else _) i) = _
      by_cases z : i = 0
      · subst z
        rw [Z_zero fun k hk => by rw [if_pos hk, if_neg (by omega)]; simp]
        show ent (lines.getD (v - w) []) 0 * (1 : Int) + 0 = ent (lines.getD (v - w) []) 0
        omega
      · obtain ⟨i', rfl⟩ : ∃ i', i = i' + 1 := ⟨i - 1, by omega⟩
        rw [Z_one (m := i') (by omega) fun k hk ne => by rw [if_pos hk, if_neg (by omega)]; simp, if_pos (by omega : i' < w), if_pos (rfl : i' + 1 = i' + 1)]
        show ent (lines.getD (v - w) []) 0 * (0 : Int) + - ent (lines.getD (v - w) []) (i' + 1) * 1 = - ent (lines.getD (v - w) []) (i' + 1)
        omega
    · show (Z (w + 1) fun k => (if k = 0 then _ else _) * (if k = 0 then (fun j => if j = 0 then st.d else 0) else ent (st.rows.getD (k - 1) [])) j) = _
      rw [Z_front, eL j]
      show _ * (if j = 0 then st.d else 0) + Z w (fun k => - ent (lines.getD (v - w) []) (k + 1) * ent (st.rows.getD k []) j) = _
      have e : (Z w fun k => - ent (lines.getD (v - w) []) (k + 1) * ent (st.rows.getD k []) j) = - Z w fun k => ent (lines.getD (v - w) []) (k + 1) * ent (st.rows.getD k []) j := by
        have := Z_mul (k := w) (f := fun k => ent (lines.getD (v - w) []) (k + 1) * ent (st.rows.getD k []) j) (c := -1)
        have e2 : (Z w fun i => -1 * (ent (lines.getD (v - w) []) (i + 1) * ent (st.rows.getD i []) j)) = Z w fun k => - ent (lines.getD (v - w) []) (k + 1) * ent (st.rows.getD k []) j := Z_congr fun k _ => by grind
        rw [e2] at this
        omega
      rw [e]
      cases j with
      | zero =>
        show ent (lines.getD (v - w) []) 0 * st.d + - _ = _
        rw [ent_cons0, Int.mul_comm]; omega
      | succ j =>
        show ent (lines.getD (v - w) []) 0 * 0 + - _ = _
        rw [ent_consS, ent_rep0]; omega
    · unfold constC
      rw [if_neg h, eL 0, ent_cons0, sum_zw _ _ ld, I.rl]
      congr 1
      exact Z_congr fun i _ => by rw [ent_drop]
theorem swap_ent {row before : List Int} {a : Nat} (ha : a < row.length) (j : Nat) : ent (swapR a row before) j = if j = a then ent before a else ent row j := by
  have e : swapR a row before = row.set a (ent before a) := by
    unfold swapR
    rw [List.set_eq_take_append_cons_drop, if_pos ha, List.append_assoc]; rfl
  rw [e]
  unfold ent
  rw [List.getD_eq_getElem?_getD, List.getElem?_set]
  by_cases h : a = j
  · subst h; rw [if_pos rfl, if_pos ha, if_pos rfl]; rfl
  · rw [if_neg h, if_neg fun z => h z.symm, ← List.getD_eq_getElem?_getD]
theorem swap_len {row before : List Int} {a : Nat} (ha : a < row.length) : (swapR a row before).length = row.length := by
  unfold swapR
  rw [List.length_append, List.length_append, List.length_take, List.length_drop, List.length_singleton]
  omega
theorem CI.move (I : CI lines w st) (hl : ∀ l ∈ lines, l.length = w + 1) {v a : Nat} (hv : v < w + lines.length) (a1 : 1 ≤ a) (a2 : a ≤ w) (pos : 0 < ent (lineC lines w st v) a) : CI lines w (moveC st v (lineC lines w st v) a) := by
  obtain ⟨ll, rv, _⟩ := I.line hl hv
  have d0 : st.d ≠ 0 := by have := I.dp; omega
  have cl : (clearedBy st.rows (lineC lines w st v) a st.d).length = w := by unfold clearedBy; rw [List.length_map, I.rl]
  have hg : ∀ j, gm lines w (st.gaps.set (a - 1) v) j = row (gm lines w st.gaps) a (vv lines w v) j := fun j => by
    by_cases z : j = 0
    · subst z
      rw [row_ne (by omega)]; rfl
    · have e : ∀ g : List Nat, gm lines w g j = vv lines w (g.getD (j - 1) 0) := fun g => if_neg z
      by_cases y : j = a
      · subst y
        rw [row_at, e, List.getD_eq_getElem?_getD, List.getElem?_set, if_pos rfl, if_pos (by rw [I.gl]; omega)]; rfl
      · rw [row_ne y, e, e, List.getD_eq_getElem?_getD, List.getElem?_set, if_neg (by omega), ← List.getD_eq_getElem?_getD]
  have rowAt : ∀ i, i < w → (List.zipWith (swapR a) (clearedBy st.rows (lineC lines w st v) a st.d) st.rows).getD i [] = swapR a (List.zipWith (fun e o => (e * ent (lineC lines w st v) a - ent (st.rows.getD i []) a * o).fdiv st.d) (st.rows.getD i []) (lineC lines w st v)) (st.rows.getD i []) := fun i hi => by
    have e1 : st.rows[i]? = some (st.rows.getD i []) := by rw [List.getD_eq_getElem?_getD, List.getElem?_eq_getElem (by rw [I.rl]; exact hi)]; rfl
    rw [List.getD_eq_getElem?_getD, List.getElem?_zipWith, e1]
    unfold clearedBy
    rw [List.getElem?_map, e1]; rfl
  have zl : ∀ i, i < w → (List.zipWith (fun e o => (e * ent (lineC lines w st v) a - ent (st.rows.getD i []) a * o).fdiv st.d) (st.rows.getD i []) (lineC lines w st v)).length = w + 1 := fun i hi => by
    rw [List.length_zipWith, ll, I.rw_ _ (getD_mem' (by rw [I.rl]; exact hi)), Nat.min_self]
  refine ⟨?_, ?_, fun r hr => ?_, fun g hg' => ?_, ?_, pos, fun i hi => ?_⟩
  · show (st.gaps.set (a - 1) v).length = w
    rw [List.length_set, I.gl]
  · show (List.zipWith _ _ _).length = w
    rw [List.length_zipWith, cl, I.rl, Nat.min_self]
  · obtain ⟨i, hi, e⟩ := List.getElem_of_mem (show r ∈ List.zipWith (swapR a) (clearedBy st.rows (lineC lines w st v) a st.d) st.rows from hr)
    have hi' : i < w := by rw [List.length_zipWith, cl, I.rl, Nat.min_self] at hi; exact hi
    have := rowAt i hi'
    rw [List.getD_eq_getElem?_getD, List.getElem?_eq_getElem hi] at this
    have e2 : r = _ := e.symm.trans this
    rw [e2, swap_len (by rw [zl i hi']; omega), zl i hi']
  · rcases List.mem_or_eq_of_mem_set (show g ∈ st.gaps.set (a - 1) v from hg') with z | z
    · exact I.gb g z
    · rw [z]; exact hv
  · show CN.det (w + 1) (gm lines w (st.gaps.set (a - 1) v)) = ent (lineC lines w st v) a
    rw [det_congr (B := row (gm lines w st.gaps) a (vv lines w v)) fun i j _ _ => by rw [hg i]]
    exact piv_det I.det d0 rv (by omega)
  · refine rep_congr (g := row (gm lines w st.gaps) a (vv lines w v)) (fun x y _ _ => by show _ = gm lines w (st.gaps.set (a - 1) v) x y; rw [hg x]) (fun _ _ => rfl) (fun j hj => ?_) (piv_rep I.det d0 (I.rep i hi) rv (by omega : a < w + 1))
    show newL (w + 1) (gm lines w st.gaps) a (vv lines w v) (vv lines w i) j = ent ((List.zipWith (swapR a) (clearedBy st.rows (lineC lines w st v) a st.d) st.rows).getD i []) j
    rw [rowAt i hi, swap_ent (by rw [zl i hi]; omega)]
    by_cases y : j = a
    · subst y
      rw [if_pos rfl]
      exact piv_at (Lv := ent (lineC lines w st v)) I.det d0 (I.rep i hi) hj
    · rw [if_neg y, ent_zip (f := fun e o => (e * ent (lineC lines w st v) a - ent (st.rows.getD i []) a * o).fdiv st.d) (by simp) (by rw [I.rw_ _ (getD_mem' (by rw [I.rl]; exact hi)), ll])]
      have e := piv_ne I.det d0 (I.rep i hi) rv (by omega : a < w + 1) hj y
      show _ = (_ : Int).fdiv st.d
      rw [← e, Int.mul_fdiv_cancel_left _ d0]
end
end CN
/-! the corners' run ends, and what it ends with is right -/
set_option linter.all false
namespace CN
open RF
section
variable {lines : List (List Int)} {w : Nat} {st : Co}
theorem find_range {n v : Nat} {p : Nat → Bool} (h : (List.range n).find? p = some v) : v < n ∧ p v = true ∧ ∀ u, u < v → p u = false := by
  rw [List.find?_range_eq_some] at h
  obtain ⟨a, b, c⟩ := h
  refine ⟨List.mem_range.mp b, a, fun u hu => ?_⟩
  have := c u hu
  cases e : p u with
  | false => rfl
  | true => rw [e] at this; cases this
theorem below_some {v : Nat} (h : belowC lines w st = some v) : v < w + lines.length ∧ constC lines w st v < 0 ∧ ∀ u, u < v → 0 ≤ constC lines w st u := by
  obtain ⟨a, b, c⟩ := find_range h
  exact ⟨a, of_decide_eq_true b, fun u hu => by have := of_decide_eq_false (c u hu); omega⟩
theorem below_none (h : belowC lines w st = none) : ∀ v, v < w + lines.length → 0 ≤ constC lines w st v := fun v hv => by
  unfold belowC at h
  rw [List.find?_eq_none] at h
  have := h v (List.mem_range.mpr hv)
  simp only [decide_eq_true_eq] at this
  omega
theorem mem_ways {line : List Int} {a : Nat} : a ∈ waysC w line ↔ 1 ≤ a ∧ a ≤ w ∧ 0 < ent line a := by
  unfold waysC
  rw [List.mem_filter, List.mem_map]
  constructor
  · rintro ⟨⟨b, hb, e⟩, h⟩
    have := List.mem_range.mp hb
    exact ⟨by omega, by omega, of_decide_eq_true h⟩
  · rintro ⟨h1, h2, h3⟩
    exact ⟨⟨a - 1, List.mem_range.mpr (by omega), by omega⟩, decide_eq_true h3⟩
theorem way_some {line : List Int} {a : Nat} (h : wayC w st line = some a) : a ∈ waysC w line ∧ ∀ b ∈ waysC w line, gapC st a ≤ gapC st b := by
  unfold wayC at h
  have h1 := List.mem_of_find?_eq_some h
  have h2 := List.find?_some h
  exact ⟨h1, fun b hb => of_decide_eq_true (List.all_eq_true.mp h2 b hb)⟩
theorem min_ex {f : Nat → Nat} : ∀ {l : List Nat}, l ≠ [] → ∃ a ∈ l, ∀ b ∈ l, f a ≤ f b
  | [], h => absurd rfl h
  | [a], _ => ⟨a, .head _, fun b hb => by rw [List.mem_singleton.mp hb]; exact Nat.le_refl _⟩
  | a :: c :: l, _ => by
    obtain ⟨m, hm, h⟩ := min_ex (f := f) (l := c :: l) (by simp)
    by_cases z : f a ≤ f m
    · refine ⟨a, .head _, fun b hb => ?_⟩
      rcases List.mem_cons.mp hb with e | e
      · rw [e]; exact Nat.le_refl _
      · exact Nat.le_trans z (h b e)
    · refine ⟨m, .tail _ hm, fun b hb => ?_⟩
      rcases List.mem_cons.mp hb with e | e
      · rw [e]; omega
      · exact h b e
theorem way_none {line : List Int} (h : wayC w st line = none) : waysC w line = [] := by
  by_cases z : waysC w line = []
  · exact z
  · obtain ⟨a, ha, hb⟩ := min_ex (f := gapC st) z
    unfold wayC at h
    rw [List.find?_eq_none] at h
    exact absurd (List.all_eq_true.mpr fun b m => decide_eq_true (hb b m)) (h a ha)
/-- the way out is the one with the least gap -/
theorem way_is {line : List Int} {a : Nat} (inj : ∀ p q, p < w → q < w → st.gaps.getD p 0 = st.gaps.getD q 0 → p = q) (ha : a ∈ waysC w line) (h : ∀ b ∈ waysC w line, gapC st a ≤ gapC st b) : wayC w st line = some a := by
  cases e : wayC w st line with
  | none => rw [way_none e] at ha; cases ha
  | some b =>
    obtain ⟨h1, h2⟩ := way_some e
    have x := h b h1
    have y := h2 a ha
    have z : gapC st a = gapC st b := by omega
    obtain ⟨a1, a2, _⟩ := mem_ways.mp ha
    obtain ⟨b1, b2, _⟩ := mem_ways.mp h1
    have := inj (a - 1) (b - 1) (by omega) (by omega) z
    congr 1
    omega
theorem CI.inj (I : CI lines w st) : ∀ p q, p < w → q < w → st.gaps.getD p 0 = st.gaps.getD q 0 → p = q := fun p q hp hq e => by
  by_cases z : p = q
  · exact z
  · have := I.dp
    rw [← I.det, det_same (k := p + 1) (l := q + 1) (by omega) (by omega) (by omega) fun j _ => by
      show vv lines w (st.gaps.getD p 0) j = vv lines w (st.gaps.getD q 0) j
      rw [e]] at this
    omega
theorem CI.gap (I : CI lines w st) {p : Nat} (hp : p < w) : st.gaps.getD p 0 < w + lines.length := I.gb _ (getD_mem' (by rw [I.gl]; exact hp))
/-- the value of a number at the corner, by a determinant -/
theorem CI.phi (I : CI lines w st) (hl : ∀ l ∈ lines, l.length = w + 1) {u j : Nat} (hu : u < w + lines.length) (hj : j < w + 1) : ent (lineC lines w st u) j = CN.det (w + 1) (row (gm lines w st.gaps) j (vv lines w u)) := by
  obtain ⟨_, r, _⟩ := I.line hl hu
  exact r.det I.det (by have := I.dp; omega) hj
theorem CI.zero (I : CI lines w st) (hl : ∀ l ∈ lines, l.length = w + 1) {p : Nat} (hp : p < w) : ent (lineC lines w st (st.gaps.getD p 0)) 0 = 0 := by
  rw [I.phi hl (I.gap hp) (by omega)]
  refine det_same (k := 0) (l := p + 1) (by omega) (by omega) (by omega) fun j _ => ?_
  rw [row_at, row_ne (by omega)]
  rfl
theorem comb_of {st' : Co} (I : CI lines w st) (J : CI lines w st') (hl : ∀ l ∈ lines, l.length = w + 1) {v : Nat} (hv : v < w + lines.length) :
    st.d * ent (lineC lines w st' v) 0 = st'.d * ent (lineC lines w st v) 0 + Z w fun p => ent (lineC lines w st v) (p + 1) * ent (lineC lines w st' (st.gaps.getD p 0)) 0 := by
  obtain ⟨_, r, _⟩ := I.line hl hv
  rw [J.phi hl hv (by omega), r.row_det (by omega : 0 < w + 1), Z_front]
  have e : row (gm lines w st'.gaps) 0 (gm lines w st.gaps 0) = gm lines w st'.gaps := by
    have : gm lines w st.gaps 0 = gm lines w st'.gaps 0 := rfl
    rw [this, row_self]
  rw [e, J.det, Int.mul_comm]
  congr 1
  exact Z_congr fun p hp => by rw [J.phi hl (I.gap hp) (by omega)]; rfl
/-! ### it ends -/
theorem step_inr {st' : Co} (h : stepC lines w st = .inr st') : ∃ v a, belowC lines w st = some v ∧ wayC w st (lineC lines w st v) = some a ∧ st' = moveC st v (lineC lines w st v) a := by
  unfold stepC at h
  cases e : belowC lines w st with
  | none => rw [e] at h; cases h
  | some v =>
    rw [e] at h
    cases e2 : wayC w st (lineC lines w st v) with
    | none => simp only [e2] at h; cases h
    | some a =>
      simp only [e2] at h
      exact ⟨v, a, rfl, e2, (Sum.inr.inj h).symm⟩
theorem CI.step (I : CI lines w st) (hl : ∀ l ∈ lines, l.length = w + 1) {st' : Co} (h : stepC lines w st = .inr st') : CI lines w st' := by
  obtain ⟨v, a, e1, e2, rfl⟩ := step_inr h
  obtain ⟨h1, _, _⟩ := below_some e1
  obtain ⟨h2, _⟩ := way_some e2
  obtain ⟨a1, a2, a3⟩ := mem_ways.mp h2
  exact I.move hl h1 a1 a2 a3
def nextC (lines : List (List Int)) (w : Nat) (st : Co) : Co := match stepC lines w st with
  | .inr s => s
  | .inl _ => st
def seqC (lines : List (List Int)) (w : Nat) (st : Co) : Nat → Co
  | 0 => st
  | k + 1 => nextC lines w (seqC lines w st k)
theorem run_none (h : ∀ T, runC lines w T st = none) : stepC lines w st = .inr (nextC lines w st) ∧ ∀ T, runC lines w T (nextC lines w st) = none := by
  cases e : stepC lines w st with
  | inl r =>
    have := h 1
    unfold runC at this
    rw [e] at this
    cases this
  | inr s =>
    have en : nextC lines w st = s := by unfold nextC; rw [e]
    rw [en]
    refine ⟨rfl, fun T => ?_⟩
    have := h (T + 1)
    unfold runC at this
    rw [e] at this
    exact this
theorem seq_inv (I : CI lines w st) (hl : ∀ l ∈ lines, l.length = w + 1) (h : ∀ T, runC lines w T st = none) : ∀ k, CI lines w (seqC lines w st k) ∧ ∀ T, runC lines w T (seqC lines w st k) = none
  | 0 => ⟨I, h⟩
  | k + 1 => by
    obtain ⟨J, g⟩ := seq_inv I hl h k
    obtain ⟨a, b⟩ := run_none g
    exact ⟨J.step hl a, b⟩
def enc (N : Nat) : List Nat → Nat
  | [] => 0
  | g :: l => g + N * enc N l
theorem enc_lt {N : Nat} : ∀ {l : List Nat}, (∀ g ∈ l, g < N) → enc N l < N ^ l.length
  | [], _ => by simp [enc]
  | g :: l, h => by
    have a := h g (.head _)
    have b := enc_lt (l := l) fun x hx => h x (.tail _ hx)
    have c : N * (enc N l + 1) ≤ N * N ^ l.length := Nat.mul_le_mul_left _ b
    simp only [enc, List.length_cons, Nat.pow_succ]
    rw [Nat.mul_comm (N ^ l.length)]
    rw [Nat.mul_add] at c
    omega
theorem enc_inj {N : Nat} : ∀ {l m : List Nat}, l.length = m.length → (∀ g ∈ l, g < N) → (∀ g ∈ m, g < N) → enc N l = enc N m → l = m
  | [], [], _, _, _, _ => rfl
  | g :: l, h :: m, hl, a, b, e => by
    simp only [enc] at e
    have a0 := a g (.head _)
    have b0 := b h (.head _)
    have e1 : g = h := by
      have := congrArg (· % N) e
      simp only [Nat.add_mul_mod_self_left] at this
      rwa [Nat.mod_eq_of_lt a0, Nat.mod_eq_of_lt b0] at this
    subst e1
    have e2 : enc N l = enc N m := Nat.eq_of_mul_eq_mul_left (by omega : 0 < N) (by omega)
    rw [enc_inj (Nat.succ.inj hl) (fun x hx => a x (.tail _ hx)) (fun x hx => b x (.tail _ hx)) e2]
  | [], _ :: _, hl, _, _, _ => by cases hl
  | _ :: _, [], hl, _, _, _ => by cases hl
theorem run_ends (I : CI lines w st) (hl : ∀ l ∈ lines, l.length = w + 1) : ∃ T r, runC lines w T st = some r := by
  refine Classical.byContradiction fun no => ?_
  have h : ∀ T, runC lines w T st = none := fun T => by
    cases e : runC lines w T st with
    | none => rfl
    | some r => exact absurd ⟨T, r, e⟩ no
  let S : Nat → Co := seqC lines w st
  have J : ∀ k, CI lines w (S k) := fun k => (seq_inv I hl h k).1
  have N : ∀ k, stepC lines w (S k) = .inr (S (k + 1)) := fun k => (run_none (seq_inv I hl h k).2).1
  let e : Nat → Nat := fun k => (belowC lines w (S k)).getD 0
  let a : Nat → Nat := fun k => (wayC w (S k) (lineC lines w (S k) (e k))).getD 0 - 1
  have E : ∀ k, belowC lines w (S k) = some (e k) ∧ wayC w (S k) (lineC lines w (S k) (e k)) = some (a k + 1) ∧ S (k + 1) = moveC (S k) (e k) (lineC lines w (S k) (e k)) (a k + 1) := fun k => by
    obtain ⟨v, b, e1, e2, e3⟩ := step_inr (N k)
    have ev : e k = v := by show (belowC lines w (S k)).getD 0 = v; rw [e1]; rfl
    have eb : a k + 1 = b := by
      show (wayC w (S k) (lineC lines w (S k) (e k))).getD 0 - 1 + 1 = b
      rw [ev, e2]
      have := (mem_ways.mp (way_some e2).1).1
      show b - 1 + 1 = b
      omega
    rw [ev, eb]
    exact ⟨e1, e2, e3⟩
  have B : ∀ T, Blnd w T (fun k p => (S k).gaps.getD p 0) (fun k u => ent (lineC lines w (S k) u) 0) (fun k p => ent (lineC lines w (S k) (e k)) (p + 1)) e a (fun k => (S k).d) := fun T => by
    have ev : ∀ k, e k < w + lines.length := fun k => (below_some (E k).1).1
    have av : ∀ k, a k + 1 ∈ waysC w (lineC lines w (S k) (e k)) := fun k => (way_some (E k).2.1).1
    have aw : ∀ k, a k < w := fun k => by have := (mem_ways.mp (av k)).2.1; omega
    refine ⟨fun k _ => aw k, fun k p _ hp => ?_, fun k p q _ hp hq => (J k).inj p q hp hq, fun k p _ hp => (J k).zero hl hp, fun k _ => ?_, fun k u _ hu => ?_, fun k _ => (mem_ways.mp (av k)).2.2, fun k p _ hp pos => ?_, fun k _ => (J k).dp, fun k l _ _ => comb_of (J k) (J l) hl (ev k)⟩
    · show (S (k + 1)).gaps.getD p 0 = _
      rw [(E k).2.2]
      show ((S k).gaps.set (a k + 1 - 1) (e k)).getD p 0 = _
      rw [List.getD_eq_getElem?_getD, List.getElem?_set, Nat.add_sub_cancel]
      by_cases z : a k = p
      · rw [if_pos z, if_pos (by rw [(J k).gl]; exact aw k), if_pos z.symm]; rfl
      · rw [if_neg z, if_neg fun y => z y.symm, ← List.getD_eq_getElem?_getD]
    · show ent (lineC lines w (S k) (e k)) 0 < 0
      rw [← ((J k).line hl (ev k)).2.2]
      exact (below_some (E k).1).2.1
    · show 0 ≤ ent (lineC lines w (S k) u) 0
      rw [← ((J k).line hl (by have := ev k; omega)).2.2]
      exact (below_some (E k).1).2.2 u hu
    · have m : p + 1 ∈ waysC w (lineC lines w (S k) (e k)) := mem_ways.mpr ⟨by omega, by omega, pos⟩
      have := (way_some (E k).2.1).2 _ m
      unfold gapC at this
      rw [Nat.add_sub_cancel, Nat.add_sub_cancel] at this
      exact this
  have pg : ¬ ∀ i j, i < (w + lines.length) ^ w + 1 → j < (w + lines.length) ^ w + 1 → enc (w + lines.length) (S i).gaps = enc (w + lines.length) (S j).gaps → i = j := fun inj => by
    have := pigeon ((w + lines.length) ^ w) ((w + lines.length) ^ w + 1) (fun k => enc (w + lines.length) (S k).gaps) (fun k _ => by
      have := enc_lt (J k).gb
      rw [(J k).gl] at this
      exact this) inj
    omega
  refine pg fun i j _ _ ee => ?_
  have same := enc_inj (by rw [(J i).gl, (J j).gl]) (J i).gb (J j).gb ee
  have key : ∀ i j, i < j → (S i).gaps = (S j).gaps → False := fun i j hij s => bland (B j) hij (Nat.le_refl _) fun p _ => by show (S i).gaps.getD p 0 = (S j).gaps.getD p 0; rw [s]
  by_cases z : i = j
  · exact z
  · by_cases y : i < j
    · exact (key i j y same).elim
    · exact (key j i (by omega) same.symm).elim
/-! ### what it ends with -/
/-- factors that bar -/
structure BarOk (lines : List (List Int)) (w : Nat) (fs : List Int) : Prop where
  len : fs.length = lines.length
  pos : ∀ k, 0 ≤ ent fs k
  mix : ∀ c, 1 ≤ c → c ≤ w → 0 ≤ Z lines.length fun k => ent fs k * ent (lines.getD k []) c
  tot : (Z lines.length fun k => ent fs k * ent (lines.getD k []) 0) < 0
def ResOk (lines : List (List Int)) (w : Nat) : Res → Prop
  | .fit st => CI lines w st ∧ ∀ v, v < w + lines.length → 0 ≤ constC lines w st v
  | .bar fs => BarOk lines w fs
theorem ent_set {l : List Int} {q j : Nat} {x : Int} (h : q < l.length) : ent (l.set q x) j = if j = q then x else ent l j := by
  unfold ent
  rw [List.getD_eq_getElem?_getD, List.getElem?_set]
  by_cases z : q = j
  · subst z; rw [if_pos rfl, if_pos h, if_pos rfl]; rfl
  · rw [if_neg z, if_neg fun y => z y.symm, ← List.getD_eq_getElem?_getD]
theorem set_sum {l : List Int} {q m : Nat} {x : Int} {f : Nat → Int} (h : q < l.length) (hm : q < m) (z : ent l q = 0) : (Z m fun k => ent (l.set q x) k * f k) = (Z m fun k => ent l k * f k) + x * f q := by
  have e : (Z m fun k => ent (l.set q x) k * f k) = Z m fun k => ent l k * f k + if k = q then x * f q else 0 := Z_congr fun k _ => by
    rw [ent_set h]
    by_cases y : k = q
    · subst y; rw [if_pos rfl, if_pos rfl, z]; omega
    · rw [if_neg y, if_neg y]; omega
  rw [e, Z_add, Z_one (m := q) hm fun k _ ne => if_neg ne, if_pos rfl]
/-- the sum of the pairs' factors by what f says of their places -/
def pSum (w : Nat) (f : Nat → Int) : List (Nat × Int) → Int
  | [] => 0
  | z :: l => (if w ≤ z.1 then z.2 * f (z.1 - w) else 0) + pSum w f l
theorem fold_set {w m : Nat} : ∀ (l : List (Nat × Int)) (fs : List Int), fs.length = m → (l.map (·.1)).Nodup → (∀ z ∈ l, z.1 < w + m ∧ 0 ≤ z.2 ∧ (w ≤ z.1 → ent fs (z.1 - w) = 0)) → (∀ k, 0 ≤ ent fs k) →
    (l.foldl (fun fs z => if w ≤ z.1 then fs.set (z.1 - w) z.2 else fs) fs).length = m ∧ (∀ k, 0 ≤ ent (l.foldl (fun fs z => if w ≤ z.1 then fs.set (z.1 - w) z.2 else fs) fs) k) ∧
    ∀ f : Nat → Int, (Z m fun k => ent (l.foldl (fun fs z => if w ≤ z.1 then fs.set (z.1 - w) z.2 else fs) fs) k * f k) = (Z m fun k => ent fs k * f k) + pSum w f l
  | [], fs, hl, _, _, h0 => ⟨hl, h0, fun f => by simp [pSum]⟩
  | z :: l, fs, hl, nd, h, h0 => by
    obtain ⟨n1, n2⟩ := List.nodup_cons.mp (show (z.1 :: l.map (·.1)).Nodup from nd)
    obtain ⟨z1, z2, z3⟩ := h z (.head _)
    by_cases y : w ≤ z.1
    · have hq : z.1 - w < fs.length := by omega
      have a := fold_set l (fs.set (z.1 - w) z.2) (by rw [List.length_set, hl]) n2 (fun x hx => by
        obtain ⟨x1, x2, x3⟩ := h x (.tail _ hx)
        refine ⟨x1, x2, fun xw => ?_⟩
        rw [ent_set hq, if_neg]
        · exact x3 xw
        · intro e
          exact n1 (List.mem_map.mpr ⟨x, hx, by omega⟩)) (fun k => by
        rw [ent_set hq]
        split
        · exact z2
        · exact h0 k)
      have e : (z :: l).foldl (fun fs z => if w ≤ z.1 then fs.set (z.1 - w) z.2 else fs) fs = l.foldl (fun fs z => if w ≤ z.1 then fs.set (z.1 - w) z.2 else fs) (fs.set (z.1 - w) z.2) := by
        rw [List.foldl_cons, if_pos y]
      rw [e]
      refine ⟨a.1, a.2.1, fun f => ?_⟩
      rw [a.2.2 f, set_sum hq (by omega) (z3 y)]
      simp only [pSum]
      rw [if_pos y]; omega
    · have a := fold_set l fs hl n2 (fun x hx => h x (.tail _ hx)) h0
      have e : (z :: l).foldl (fun fs z => if w ≤ z.1 then fs.set (z.1 - w) z.2 else fs) fs = l.foldl (fun fs z => if w ≤ z.1 then fs.set (z.1 - w) z.2 else fs) fs := by
        rw [List.foldl_cons, if_neg y]
      rw [e]
      refine ⟨a.1, a.2.1, fun f => ?_⟩
      rw [a.2.2 f]
      simp only [pSum]
      rw [if_neg y]; omega
/-- .. of all pairs, by their vectors -/
def vSum (lines : List (List Int)) (w c : Nat) : List (Nat × Int) → Int
  | [] => 0
  | z :: l => z.2 * vv lines w z.1 c + vSum lines w c l
theorem vsum_0 : ∀ l : List (Nat × Int), vSum lines w 0 l = pSum w (fun k => ent (lines.getD k []) 0) l
  | [] => rfl
  | z :: l => by
    simp only [vSum, pSum]
    rw [vsum_0 l]
    congr 1
    unfold vv
    by_cases h : z.1 < w
    · rw [if_pos h, if_neg (by omega), if_neg (by omega)]; omega
    · rw [if_neg h, if_pos rfl, if_pos (by omega)]
theorem vsum_c {c : Nat} (hc : 1 ≤ c) : ∀ l : List (Nat × Int), (∀ z ∈ l, 0 ≤ z.2) → vSum lines w c l + pSum w (fun k => ent (lines.getD k []) c) l ≥ 0
  | [], _ => by simp [vSum, pSum]
  | z :: l, h => by
    have ih := vsum_c hc l fun x hx => h x (.tail _ hx)
    have z0 := h z (.head _)
    simp only [vSum, pSum]
    have : 0 ≤ z.2 * vv lines w z.1 c + if w ≤ z.1 then z.2 * ent (lines.getD (z.1 - w) []) c else 0 := by
      unfold vv
      by_cases y : z.1 < w
      · rw [if_pos y, if_neg (by omega : ¬ w ≤ z.1)]
        by_cases x : c = z.1 + 1
        · rw [if_pos x]; omega
        · rw [if_neg x]; omega
      · rw [if_neg y, if_pos (by omega : w ≤ z.1), if_neg (by omega : ¬ c = 0)]
        have : z.2 * - ent (lines.getD (z.1 - w) []) c = - (z.2 * ent (lines.getD (z.1 - w) []) c) := by grind
        omega
    omega
theorem vsum_zip {c : Nat} : ∀ (gs : List Nat) (xs : List Int), gs.length = xs.length → vSum lines w c (gs.zip xs) = Z gs.length fun p => ent xs p * vv lines w (gs.getD p 0) c
  | [], [], _ => rfl
  | g :: gs, x :: xs, h => by
    show x * vv lines w g c + vSum lines w c (gs.zip xs) = Z (gs.length + 1) _
    rw [vsum_zip gs xs (Nat.succ.inj h), Z_front]; rfl
  | [], _ :: _, h => by cases h
  | _ :: _, [], h => by cases h
theorem bar_ok (I : CI lines w st) (hl : ∀ l ∈ lines, l.length = w + 1) {v : Nat} (h1 : belowC lines w st = some v) (h2 : wayC w st (lineC lines w st v) = none) : BarOk lines w (factC w lines.length st v (lineC lines w st v)) := by
  obtain ⟨hv, neg, _⟩ := below_some h1
  obtain ⟨ll, r, ec⟩ := I.line hl hv
  have none_ : ∀ a, 1 ≤ a → a ≤ w → ent (lineC lines w st v) a ≤ 0 := fun a a1 a2 => by
    by_cases z : 0 < ent (lineC lines w st v) a
    · have m : a ∈ waysC w (lineC lines w st v) := mem_ways.mpr ⟨a1, a2, z⟩
      rw [way_none h2] at m
      cases m
    · omega
  have dl : ((lineC lines w st v).drop 1).length = w := by rw [List.length_drop, ll]; rfl
  have nl : (((lineC lines w st v).drop 1).map fun x => -x).length = w := by rw [List.length_map, dl]
  have nent : ∀ p, ent (((lineC lines w st v).drop 1).map fun x => -x) p = - ent (lineC lines w st v) (p + 1) := fun p => by
    rw [ent_map (f := fun x => -x) (by rfl), ent_drop]
  have fstEq : (st.gaps.zip (((lineC lines w st v).drop 1).map fun x => -x)).map (·.1) = st.gaps := by
    rw [List.map_fst_zip]
    rw [I.gl, nl]; exact Nat.le_refl _
  have nd : (((v, st.d) :: st.gaps.zip (((lineC lines w st v).drop 1).map fun x => -x)).map (·.1)).Nodup := by
    show (v :: (st.gaps.zip (((lineC lines w st v).drop 1).map fun x => -x)).map (·.1)).Nodup
    rw [fstEq, List.nodup_cons]
    constructor
    · intro m
      obtain ⟨p, hp, e⟩ := List.getElem_of_mem m
      have hp' : p < w := by rw [← I.gl]; exact hp
      have := I.zero hl hp'
      rw [List.getD_eq_getElem?_getD, List.getElem?_eq_getElem hp] at this
      have e2 : (some st.gaps[p]).getD 0 = v := e
      rw [e2, ← ec] at this
      omega
    · refine List.pairwise_iff_getElem.mpr fun i j hi hj hij e => ?_
      have hj' : j < w := by rw [← I.gl]; exact hj
      have := I.inj i j (by omega) hj' (by rw [List.getD_eq_getElem?_getD, List.getD_eq_getElem?_getD, List.getElem?_eq_getElem hi, List.getElem?_eq_getElem hj, e])
      omega
  have pos : ∀ z ∈ (v, st.d) :: st.gaps.zip (((lineC lines w st v).drop 1).map fun x => -x), z.1 < w + lines.length ∧ 0 ≤ z.2 := fun z hz => by
    rcases List.mem_cons.mp hz with e | e
    · rw [e]; exact ⟨hv, Int.le_of_lt I.dp⟩
    · have m1 := (List.of_mem_zip (show (z.1, z.2) ∈ _ from e)).1
      have m2 := (List.of_mem_zip (show (z.1, z.2) ∈ _ from e)).2
      refine ⟨I.gb _ m1, ?_⟩
      obtain ⟨p, hp, ep⟩ := List.getElem_of_mem m2
      have hp' : p < w := by rw [← nl]; exact hp
      have q := nent p
      rw [ent_some (List.getElem?_eq_getElem hp), ep] at q
      have := none_ (p + 1) (by omega) (by omega)
      omega
  obtain ⟨f1, f2, f3⟩ := fold_set (w := w) (m := lines.length) ((v, st.d) :: st.gaps.zip (((lineC lines w st v).drop 1).map fun x => -x)) (List.replicate lines.length 0) (List.length_replicate ..) nd (fun z hz => ⟨(pos z hz).1, (pos z hz).2, fun _ => ent_rep0⟩) fun k => by rw [ent_rep0]; exact Int.le_refl 0
  have z0 : ∀ f : Nat → Int, (Z lines.length fun k => ent (List.replicate lines.length 0) k * f k) = 0 := fun f => Z_zero fun k _ => by rw [ent_rep0]; simp
  have vs : ∀ c, c < w + 1 → vSum lines w c ((v, st.d) :: st.gaps.zip (((lineC lines w st v).drop 1).map fun x => -x)) = ent (lineC lines w st v) 0 * e0 c := fun c hc => by
    show st.d * vv lines w v c + vSum lines w c (st.gaps.zip _) = _
    rw [vsum_zip _ _ (by rw [I.gl, nl]), I.gl, r c hc, Z_front]
    show ent (lineC lines w st v) 0 * e0 c + (Z w fun p => ent (lineC lines w st v) (p + 1) * vv lines w (st.gaps.getD p 0) c) + _ = _
    have : (Z w fun p => ent (((lineC lines w st v).drop 1).map fun x => -x) p * vv lines w (st.gaps.getD p 0) c) = - Z w fun p => ent (lineC lines w st v) (p + 1) * vv lines w (st.gaps.getD p 0) c := by
      have m := Z_mul (k := w) (f := fun p => ent (lineC lines w st v) (p + 1) * vv lines w (st.gaps.getD p 0) c) (c := -1)
      have e2 : (Z w fun p => ent (((lineC lines w st v).drop 1).map fun x => -x) p * vv lines w (st.gaps.getD p 0) c) = Z w fun i => -1 * (ent (lineC lines w st v) (i + 1) * vv lines w (st.gaps.getD i 0) c) := Z_congr fun p _ => by rw [nent p]; grind
      rw [e2, m]; omega
    rw [this]; omega
  refine ⟨f1, f2, fun c c1 c2 => ?_, ?_⟩
  · show 0 ≤ Z lines.length fun k => ent (factC w lines.length st v (lineC lines w st v)) k * ent (lines.getD k []) c
    unfold factC
    rw [f3 fun k => ent (lines.getD k []) c, z0]
    have a := vsum_c (lines := lines) (w := w) c1 _ fun z hz => (pos z hz).2
    rw [vs c (by omega)] at a
    have e : e0 c = 0 := if_neg (by omega)
    rw [e] at a
    omega
  · show (Z lines.length fun k => ent (factC w lines.length st v (lineC lines w st v)) k * ent (lines.getD k []) 0) < 0
    unfold factC
    rw [f3 fun k => ent (lines.getD k []) 0, z0, ← vsum_0, vs 0 (by omega), ← ec]
    have e : e0 0 = 1 := if_pos rfl
    rw [e]
    omega
theorem run_ok (hl : ∀ l ∈ lines, l.length = w + 1) : ∀ (T : Nat) (st : Co) (r : Res), CI lines w st → runC lines w T st = some r → ResOk lines w r
  | 0, _, _, _, h => by cases h
  | T + 1, st, r, I, h => by
    cases e : stepC lines w st with
    | inr s =>
      unfold runC at h
      rw [e] at h
      exact run_ok hl T s r (I.step hl e) h
    | inl x =>
      unfold runC at h
      rw [e] at h
      cases h
      unfold stepC at e
      cases e1 : belowC lines w st with
      | none =>
        rw [e1] at e
        cases e
        exact ⟨I, below_none e1⟩
      | some v =>
        rw [e1] at e
        cases e2 : wayC w st (lineC lines w st v) with
        | none =>
          simp only [e2] at e
          cases e
          exact bar_ok I hl e1 e2
        | some a =>
          simp only [e2] at e
          cases e
end
end CN
set_option Elab.async false
set_option linter.all false
set_option maxRecDepth 100000
set_option maxHeartbeats 4000000
/-! min(xs, key=f), f a lambda with one parameter that this frame made -/
namespace LK
open PySem PySem.Spec PyProof.Rows L2 LamX NdefX
/-- the least one by a key -/
def IsMin (ns : List Int) (kf : Int → Int) (m : Int) : Prop := m ∈ ns ∧ ∀ y ∈ ns, kf m ≤ kf y
section
variable {X : Cx} {pins : List (Addr × Obj)} {σ : L2.St} {H : Hp}
theorem vals_int_at {ns : List Int} {its : List Value} (rv : Vals (ns.map V.int) its) {i : Nat} {n : Int} (h : ns[i]? = some n) : ∃ t, its[i]? = some (.int n t) := by
  obtain ⟨u, hu, r⟩ := rv.get (i := i) (x := .int n) (by rw [List.getElem?_map, h]; rfl)
  obtain ⟨t, rfl⟩ := r
  exact ⟨t, hu⟩
theorem min_loop {l f I S : Addr} {ns : List Int} {kf : Int → Int} {Q : VK} (hc : X.calm = true) (hl : SqL X.K H l (ns.map V.int)) (hSI : S ≠ I)
    (turn : ∀ n ∈ ns, ∀ (pins' : List (Addr × Obj)) (s' : Shared) (t : Tok), Inv X pins' σ H s' → wpAny (model X.prog X.w) X.A.in1 (call (.ref f) [.int n t]) (EP X pins' σ fun v H' => v = .int (kf n) ∧ H' = H) (fun _ _ => False) s')
    (q : ∀ m, IsMin ns kf m → Q (.int m) H) :
    ∀ (r j : Nat) (s : Shared) (n : Int) (t tb : Tok) (c : Nat), ns.length - (j + 1) = r → j + 1 ≤ ns.length → Inv X pins σ H s → FpOk X pins H S → FpOk X pins H I → s.heap.get? S = some (seqObj "list" #[.int n t, .int (kf n) tb] c) →
      s.heap.IsListIter I l (j + 1) → n ∈ ns → (∀ (i' : Nat) (y : Int), i' ≤ j → ns[i']? = some y → kf n ≤ kf y) →
      codeAny (model X.prog X.w) X.A (.builtin "min.loop" ⟨[.ref I, .ref f, .ref S], []⟩) (fun r s' => match r with | .ok (.ret v) => EP X pins σ Q v s' | .ok _ => False | .error e => X.xe e s') s := by
  have hname : (toString "min" ++ toString ".loop" : String) = "min.loop" := by decide
  intro r
  induction r with
  | zero =>
    intro j s n t tb c hr hj J fS fI oS hit hn best
    have hin : j + 1 = ns.length := by omega
    obtain ⟨its, rv, p, hz⟩ := J.list hl
    have lv := rv.length
    rw [List.length_map] at lv
    refine codeAny_builtin PySem.F.entry_min_loop ?_
    rw [Around.under_plainId PySem.F.plain_min_loop _]
    show wpAny _ X.A.in1 (seqItems? (.ref S) >>= _) _ _ _
    refine wpAny_bind (wpAny_seqItems oS rfl ?_)
    show wpAny _ X.A.in1 (tryCatch (pyNext (.ref I)) _ >>= _) _ _ _
    refine wpAny_bind (wpAny_tryCatch (wpAny_pyNext_list_end (J.ok.hd hc) hit p.isList (by simp; omega) fun h' eb => ?_))
    have J1 : Inv X pins σ H { s with heap := h' } := J.turned (t' := s.toks) (fun b o hb e => eb b o hb e) fI.1 fI.2.1 fI.2.2.2.1 fI.2.2.2.2.1 fI.2.2.2.2.2
    have oS1 := eb S _ hSI oS
    have s1 := Heap.SameBut.update h' S (Obj.mapSeq fun _ => (#[] : Array Value))
    have J2 : Inv X pins σ H { s with heap := h'.update S (Obj.mapSeq fun _ => (#[] : Array Value)) } := J1.turned (t' := s.toks) (fun b o hb e => (s1.2 b hb).trans e) fS.1 fS.2.1 fS.2.2.2.1 fS.2.2.2.2.1 fS.2.2.2.2.2
    show wpAny _ X.A.in1 (updateSeq S (fun _ => #[]) >>= _) _ _ _
    refine wpAny_bind ?_
    refine wpAny_updateSeq oS1 rfl (wpAny_bind (wpAny_letGo (wpAny_pure ?_)))
    refine ⟨.int n, H, J2, ⟨t, rfl⟩, q n ⟨hn, fun y my => ?_⟩⟩
    obtain ⟨i', hi, e⟩ := List.getElem_of_mem my
    exact best i' y (by omega) (by rw [List.getElem?_eq_getElem hi, e])
  | succ r ih =>
    intro j s n t tb c hr hj J fS fI oS hit hn best
    have hlt : j + 1 < ns.length := by omega
    obtain ⟨its, rv, p, hz⟩ := J.list hl
    obtain ⟨n2, h2⟩ : ∃ n2, ns[j + 1]? = some n2 := ⟨_, List.getElem?_eq_getElem hlt⟩
    have m2 := List.mem_of_getElem? h2
    obtain ⟨t2, ht2⟩ := vals_int_at rv h2
    refine codeAny_builtin PySem.F.entry_min_loop ?_
    rw [Around.under_plainId PySem.F.plain_min_loop _]
    show wpAny _ X.A.in1 (seqItems? (.ref S) >>= _) _ _ _
    refine wpAny_bind (wpAny_seqItems oS rfl ?_)
    show wpAny _ X.A.in1 (tryCatch (pyNext (.ref I)) _ >>= _) _ _ _
    refine wpAny_bind (wpAny_tryCatch (wpAny_pyNext_list_item hit p.isList (x := .int n2 t2) (by simpa using ht2) fun h' hit1 sb => ?_))
    have J1 : Inv X pins σ H { s with heap := h' } := J.turned (t' := s.toks) (fun b o hb e => (sb.2 b hb).trans e) fI.1 fI.2.1 fI.2.2.2.1 fI.2.2.2.2.1 fI.2.2.2.2.2
    have oS1 : h'.get? S = _ := (sb.2 S hSI).trans oS
    obtain ⟨oI, hoI, hoc, hod⟩ := id hit1
    have dI : ∀ v, oI.data ≠ .cell v := fun v z => by rw [hod] at z; cases z
    have JP : Inv X (pins ++ [(S, seqObj "list" #[.int n t, .int (kf n) tb] c), (I, oI)]) σ H { s with heap := h' } := J1.pins_of fun p hp => by
      rcases List.mem_append.mp hp with z | z
      · exact J1.pin p (List.mem_append_right _ z)
      · rcases List.mem_cons.mp z with rfl | z
        · exact ⟨oS1, fS.1, fS.2.1, fS.2.2.1, fun v z => by cases z⟩
        · rw [List.mem_singleton.mp z]
          exact ⟨hoI, fI.1, fI.2.1, fI.2.2.1, dI⟩
    show wpAny _ X.A.in1 (tryCatch (holding [.int n2 t2] (call (.ref f) [.int n2 t2])) _ >>= _) _ _ _
    refine wpAny_bind (wpAny_tryCatch (wpAny_holding (wpAny_mono (turn n2 m2 _ _ t2 JP) (fun x s2 he => ?_) fun _ _ hF => hF.elim)))
    obtain ⟨v, H', J2, rv2, ev, eH⟩ := he
    subst ev eH
    obtain ⟨t3, rfl⟩ := rv2
    have oS2 := (J2.pin (S, _) (List.mem_append_right _ (List.mem_append_right _ (.head _)))).1
    have oI2 := (J2.pin (I, oI) (List.mem_append_right _ (List.mem_append_right _ (.tail _ (.head _))))).1
    have J3 := J2.unpinned
    have hit2 : s2.heap.IsListIter I l (j + 1 + 1) := ⟨oI, oI2, hoc, hod⟩
    show wpAny _ X.A.in1 (tryCatch (holding [.int n2 t2, .int (kf n2) t3] (richCompare .Lt (.int (kf n2) t3) (.int (kf n) tb) >>= _)) _ >>= _) _ _ _
    refine wpAny_bind (wpAny_tryCatch (wpAny_holding (wpAny_bind (CmpOf.ints_lt (prog := X.prog) (w := X.w) (A := X.A.in1) (P := fun i v => ∃ t, v = .int ([kf n2, kf n].getD i 0) t) (fun i => [kf n2, kf n].getD i 0) (fun i v h => h) 0 1 _ _ _ _ _ ⟨t3, rfl⟩ ⟨tb, rfl⟩ ?_))))
    refine wpAny_bind (wpAny_holding (wpAny_truthy_bool ?_))
    refine wpAny_bind (wpAny_letGo (wpAny_pure ?_))
    by_cases hb' : kf n2 < kf n
    · have s1 := Heap.SameBut.update s2.heap S (Obj.mapSeq fun _ => #[.int n2 t2, .int (kf n2) t3])
      obtain ⟨c2, hc2⟩ : ∃ c2, (s2.heap.update S (Obj.mapSeq fun _ => #[.int n2 t2, .int (kf n2) t3])).get? S = some (seqObj "list" #[.int n2 t2, .int (kf n2) t3] c2) := ⟨_, get?_update_seq oS2 fun _ => #[.int n2 t2, .int (kf n2) t3]⟩
      have e : decide ((fun i => [kf n2, kf n].getD i 0) 0 < (fun i => [kf n2, kf n].getD i 0) 1) = true := decide_eq_true hb'
      simp only [List.getD_cons_zero, List.getD_cons_succ, hb', decide_true, if_true]
      have J4 : Inv X pins σ H' { s2 with heap := s2.heap.update S (Obj.mapSeq fun _ => #[.int n2 t2, .int (kf n2) t3]) } := J3.turned (t' := s2.toks) (fun b o hb e => (s1.2 b hb).trans e) fS.1 fS.2.1 fS.2.2.2.1 fS.2.2.2.2.1 fS.2.2.2.2.2
      refine wpAny_bind ?_
      refine wpAny_updateSeq oS2 rfl (wpAny_bind (wpAny_letGo ?_))
      rw [hname]
      refine wpAny_pure ⟨plainId_quiet PySem.F.plain_min_loop _, ih (j + 1) _ n2 t2 t3 c2 (by omega) hlt J4 fS fI hc2 ⟨oI, (s1.2 I hSI.symm).trans oI2, hoc, hod⟩ m2 fun i' y hi hy => ?_⟩
      by_cases e : i' = j + 1
      · subst e
        rw [h2] at hy
        cases hy
        exact Int.le_refl _
      · have := best i' y (by omega) hy
        omega
    · simp only [List.getD_cons_zero, List.getD_cons_succ, hb', decide_false, Bool.false_eq_true, if_false]
      refine wpAny_bind (wpAny_letGo ?_)
      rw [hname]
      refine wpAny_pure ⟨plainId_quiet PySem.F.plain_min_loop _, ih (j + 1) _ n t tb c (by omega) hlt J3 fS fI oS2 hit2 hn fun i' y hi hy => ?_⟩
      by_cases e : i' = j + 1
      · subst e
        rw [h2] at hy
        cases hy
        omega
      · exact best i' y (by omega) hy
end
end LK
set_option Elab.async false
set_option linter.all false
set_option maxRecDepth 100000
set_option maxHeartbeats 4000000
namespace LK
open PySem PySem.Spec PyProof.Rows L2 LamX NdefX
/-! ### the lambda's object -/
def LamO (f : Addr) (F : NF) (e : Expr) : HO := .ext fun h => ∃ pm ctv : Value, h.get? f = some (PySem.W.kla_obj "<lambda>" F.qual F.params e F.scope F.cl pm F.c ctv)
theorem lamO_at {P : Program} {w : World} {H : Hp} {h : Heap} {f : Addr} {F : NF} {e : Expr} (hok : HOk P w H h) (x : H f = some (LamO f F e)) : ∃ pm ctv : Value, h.get? f = some (PySem.W.kla_obj "<lambda>" F.qual F.params e F.scope F.cl pm F.c ctv) := by
  obtain ⟨z, _, _⟩ := hok f _ x
  exact z
abbrev LF (X : Cx) (params : Arguments) (scope : Scope) (c : Addr) : NF := ⟨"<lambda>", X.env.qual ++ "<lambda>", params, [], scope, cloFrom X.env.cells scope.names [], c⟩
theorem lamO_new {P : Program} {w : World} {H1 : Hp} {h : Heap} {f : Addr} {F : NF} {e : Expr} {pm ctv : Value} (x : h.get? f = some (PySem.W.kla_obj "<lambda>" F.qual F.params e F.scope F.cl pm F.c ctv)) : ObjOk P w H1 h f (LamO f F e) :=
  ⟨⟨pm, ctv, x⟩, ⟨_, x⟩, fun _ _ ⟨p, c, z⟩ st => ⟨p, c, st _ z⟩⟩
/-- what a lambda promises: ws is what its captured cells hold -/
structure L1Ok (P : Program) (w : World) (K : PySem.W.Frag) (mg : Str → Option Value) (base : Heap) (k : Nat) (f : Addr) (F : NF) (e : Expr) (ps fr : List Str) (sp : List (Option V) → List V → Hp → VK → Prop) : Prop where
  run : ∀ (A : Around) (outer : List Env) (s : Shared) (H : Hp) (us : List Value) (vs : List V) (ws : List (Option V)) (Q : VK), Room k A → Env0 P w K mg base A outer s H → s.heap.CodeRec (.ref F.c) F.qual →
    (∃ pm ctv : Value, s.heap.get? f = some (PySem.W.kla_obj "<lambda>" F.qual F.params e F.scope F.cl pm F.c ctv)) → CellsAt F.cl fr ws s.heap H → Vals vs us → vs.length = ps.length → sp ws vs H Q →
    codeAny (model P w) A (.call (.ref f) ⟨us, []⟩) (CR CX0 outer P w H s Q fun _ _ _ => False) s
section
variable {P : Program} {w : World} {K : PySem.W.Frag} {mg : Str → Option Value} {base : Heap} {N ps fr : List Str} {F : NF} {f : Addr} {e : Expr} {k : Nat} {sp : List (Option V) → List V → Hp → VK → Prop}
theorem l1ok_of (S : NScope N ps fr F.scope) (hb : ∀ (pm ctv : Value) (us : List Value), us.length = ps.length → bindArgs (PySem.W.kla_fn "<lambda>" F.qual F.params e F.scope F.cl pm (.ref F.c) ctv) ⟨us, []⟩ = pure (ps.zip us))
    (hbody : ∀ (A : Around) (outer : List Env) (s : Shared) (H : Hp) (vs : List V) (ws : List (Option V)) (Q : VK), Room k (A.deeper (envF F f s.heap.objs.size)) → ws.length = fr.length → vs.length = ps.length → sp ws vs H Q →
      ∃ t, PE (ncx CX0 P w K mg base N F f A outer s H fun _ _ _ => False) e t ∧ t (startF N vs ws) H Q) : L1Ok P w K mg base (k + 1) f F e ps fr sp := by
  refine ⟨fun A outer s H us vs ws Q hr e0 hc ho C rv hl hsp => ?_⟩
  have lim : s.heap.NoLimit := e0.mod.nolimit.keeps fun b o e => (e0.bs b o e).1
  obtain ⟨pm, ctv, ho⟩ := ho
  refine PySem.W.kla_callFunE hr.depth ho rfl S.co S.gen rfl hc ?_
  rw [hb pm ctv us (by rw [← rv.length, hl])]
  refine wpAny_pure (wpAny_newFunctionEnv S.nocell (fun ⟨n, v⟩ hy => S.par n (List.of_mem_zip hy).1) (fun h₁ hns hsb => ⟨lim.fresh _ hsb, ?_⟩) S.kind)
  show codeAny _ _ (.expr e (envF F f s.heap.objs.size)) _ _
  have kp : ∀ b o, s.heap.get? b = some o → h₁.get? b = some o := fun b o e => hsb.extBut b o (Nat.ne_of_lt (Heap.lt_size e)) (Heap.get?_push_of_some _ e)
  obtain ⟨t, ht, hq⟩ := hbody A outer s H vs ws Q (hr.deeper _) C.len hl hsp
  have I : Inv (ncx CX0 P w K mg base N F f A outer s H fun _ _ _ => False) [] (startF N vs ws) H { s with heap := h₁, toks := s.toks + (ps.zip us).length } := inv_startN S hr.hd e0 hl rv C hns kp
  refine PySem.W.kla_codeExpr (wpAny_mono (ht.run [] _ _ H Q I hq) (fun v s' hq => ?_) fun e s' hq => hq)
  obtain ⟨w', H', J', rv, q⟩ := hq
  exact ⟨w', H', J'.os, J'.bare, J'.base, J'.hok, rv, q⟩
end
/-! ### made -/
section
variable {X : Cx} {pins : List (Addr × Obj)} {σ : L2.St} {H : Hp} {s : Shared}
/-- a lambda is made and tracked -/
theorem lam_new {T : List (Addr × Str)} {c P : Addr} {params : Arguments} {body : Expr} {scope : Scope} {pos : Pos} {E : Value → Shared → Prop} {Q : Value → Shared → Prop} (I : Inv X pins σ H s) (B : TabB X.base X.mg c P) (code : X.env.code = .ref c)
    (mem : (P, X.env.qual ++ "<lambda>") ∈ T) (one : ∀ p ∈ T, p.1 = P → p.2 = X.env.qual ++ "<lambda>") (tabs : Tabs T H) (dfl : defaultsOf params X.env = ([], [])) (fr : ∀ y ∈ scope.names, y.2 = .free → ∃ c, X.env.cells.lookup y.1 = some c)
    (q : ∀ (f c' : Addr) (H1 : Hp) (s' : Shared), ExtN H H1 → Tabs T H1 → H1 f = none → H f = none → H1 c' = some (CodeO c' (X.env.qual ++ "<lambda>")) → Inv X pins σ (upd H1 f (LamO f (LF X params scope c') body)) s' → Q (.ref f) s') :
    wpAny (model X.prog X.w) X.A (eval (.Lambda params body scope pos) X.env) Q E s := by
  have kin := I.mod
  obtain ⟨ps, tP, trip, told⟩ := tabs _ mem
  have oP : s.heap.get? P = some { cls := .none, data := .fields ps } := I.hok P _ tP
  refine PySem.W.kla_eval dfl ?_
  rcases hcode : codeAmong pos ps.toList with _ | cv
  · refine PySem.W.kla_makeFunction (mg := X.mg) (c := c) (P := P) (ps := ps) (closure_ok fr) I.ok.glob
      (kin.glob.keeps I.bk) code (B.code.keeps I.bk) oP trip hcode B.gP (B.bm.keeps I.bk)
      fun c' ctv h' tk ext ge lt rec_ tab => ?_
    obtain ⟨c2, oc, vs, t, ec, co, cd, cv⟩ := rec_
    cases ec
    have hc : H c' = none := I.hok.fresh ge
    have I1 := inv_table (t' := tk) (q := X.env.qual ++ "<lambda>") (more := #[rawInt pos.line, rawInt pos.col, .ref c']) I tP (fun b o n e => ext b o n e) tab ge ⟨oc, vs, t, co, cd, cv⟩
    have keepN : ExtN H (upd (upd H P (.tbl (ps ++ #[rawInt pos.line, rawInt pos.col, .ref c']))) c' (CodeO c' (X.env.qual ++ "<lambda>"))) := fun b o e nt => by
      have n1 : b ≠ c' := ne_of_none e hc
      have n2 : b ≠ P := fun z => nt ps (by rw [z, tP] at e; exact (Option.some.inj e).symm)
      rw [upd_ne n1, upd_ne n2]
      exact e
    have ls : (ps ++ #[rawInt pos.line, rawInt pos.col, .ref c']).toList = ps.toList ++ [rawInt pos.line, rawInt pos.col, .ref c'] := by simp
    have tabs1 : Tabs T (upd (upd H P (.tbl (ps ++ #[rawInt pos.line, rawInt pos.col, .ref c']))) c' (CodeO c' (X.env.qual ++ "<lambda>"))) := fun p hp => by
      by_cases same : p.1 = P
      · rw [one p hp same, same]
        refine ⟨_, by rw [upd_ne (ne_of_none tP hc), upd_same], by rw [ls]; exact PySem.TriplesOk_snoc _ _ _ _ trip, fun p' v hv => ?_⟩
        rw [ls] at hv
        rcases among_app _ trip hv with old | new
        · obtain ⟨d, e1, e2⟩ := told p' v old
          exact ⟨d, e1, keepN _ _ e2 codeO_ne⟩
        · exact ⟨c', new, upd_same⟩
      · obtain ⟨qs, a1, a2, a3⟩ := tabs p hp
        refine ⟨qs, by rw [upd_ne (ne_of_none a1 hc), upd_ne same]; exact a1, a2, fun p' v hv => ?_⟩
        obtain ⟨d, e1, e2⟩ := a3 p' v hv
        exact ⟨d, e1, keepN _ _ e2 codeO_ne⟩
    have size : s.heap.objs.size ≤ h'.objs.size := Nat.le_trans ge (Nat.le_of_lt lt)
    exact q h'.objs.size c' _ _ keepN tabs1 (I1.hok.fresh (Nat.le_refl _)) (I.hok.fresh size) upd_same
      (I1.laid (t' := tk) (fun b o e => Heap.get?_push_of_some _ e) (Nat.le_refl _) (lamO_new (F := LF X params scope c') (Heap.get?_push_size _ rfl)))
  · obtain ⟨c', ec, co⟩ := told pos cv hcode
    subst ec
    refine PySem.W.kla_makeFunctionHit (mg := X.mg) (c := c) (P := P) (ps := ps) (closure_ok fr) I.ok.glob
      (kin.glob.keeps I.bk) code (B.code.keeps I.bk) oP trip hcode (B.bm.keeps I.bk)
      fun ctv h' tk ext size => ?_
    have I1 : Inv X pins σ H { s with heap := h', toks := tk } := I.kept ext
    exact q h'.objs.size c' H _ (ExtN.refl H) tabs (I.hok.fresh size) (I.hok.fresh size) co
      (I1.laid (t' := tk) (fun b o e => Heap.get?_push_of_some _ e) (Nat.le_refl _) (lamO_new (F := LF X params scope c') (Heap.get?_push_size _ rfl)))
theorem lamO_ne {f : Addr} {F : NF} {e : Expr} (ps : Array Value) : LamO f F e ≠ .tbl ps := fun z => by
  unfold LamO at z
  cases z
theorem sqL_extN {K : PySem.W.Frag} {H H' : Hp} {a : Addr} {xs : List V} (h : SqL K H a xs) (e : ExtN H H') : SqL K H' a xs := by
  rcases h with (h | ⟨o, h⟩) | h
  · exact .inl (.inl (e _ _ h (fun ps z => by cases z)))
  · exact .inl (.inr ⟨o, e _ _ h (fun ps z => by cases z)⟩)
  · exact .inr h
/-- the call min(l, key=f) -/
theorem min_call {l f : Addr} {ns : List Int} {kf : Int → Int} {Q : VK} (hc : X.calm = true) (I : Inv X pins σ H s) (hl : SqL X.K H l (ns.map V.int)) (hne : 0 < ns.length)
    (turn : ∀ n ∈ ns, ∀ (pins' : List (Addr × Obj)) (s' : Shared) (t : Tok), Inv X pins' σ H s' → wpAny (model X.prog X.w) X.A.in1 (call (.ref f) [.int n t]) (EP X pins' σ fun v H' => v = .int (kf n) ∧ H' = H) (fun _ _ => False) s')
    (q : ∀ m, IsMin ns kf m → Q (.int m) H) : wpAny (model X.prog X.w) X.A (call (.builtin "min") [.ref l] [(Str.ofString "key", .ref f)]) (EP X pins σ Q) X.xe s := by
  have hname : (toString "min" ++ toString ".loop" : String) = "min.loop" := by decide
  obtain ⟨its, rv, p, hz⟩ := I.list hl
  have hls := p.isList
  obtain ⟨n, h0⟩ : ∃ n, ns[0]? = some n := ⟨_, List.getElem?_eq_getElem hne⟩
  have mn := List.mem_of_getElem? h0
  obtain ⟨t, ht⟩ := vals_int_at rv h0
  refine kmk_tree PySem.F.kind_min PySem.F.plain_min PySem.F.entry_min (kmk_min_key _ _) ?_
  show wpAny _ X.A.in1 (Builtin.Builtins.bindParams "min" ["key", "default"] 0 ⟨[], [(Str.ofString "key", .ref f)]⟩ >>= _) _ _ s
  refine wpAny_bind (wpAny_of_eq (show Builtin.Builtins.bindParams "min" ["key", "default"] 0 ⟨[], [(Str.ofString "key", .ref f)]⟩ = pure [some (.ref f), none] from rfl) ?_)
  refine wpAny_bind (wpAny_pure ?_)
  refine wpAny_bind (wpAny_pyIter_list hls ?_)
  refine wpAny_bind (wpAny_newList ?_ (Nat.zero_le _))
  rw [hname]
  have hS : (s.heap.push { cls := .type "list_iterator", data := .fields #[.ref l, .int 0 0] }).objs.size = s.heap.objs.size + 1 := size_push' ..
  have fI : FpOk X pins H s.heap.objs.size := I.fpOk (Nat.le_refl _) (I.hok.fresh (Nat.le_refl _))
  have fS : FpOk X pins H (s.heap.objs.size + 1) := I.fpOk (Nat.le_succ _) (I.hok.fresh (Nat.le_succ _))
  have hSI : s.heap.objs.size + 1 ≠ s.heap.objs.size := by omega
  refine wpAny_pure ⟨plainId_quiet PySem.F.plain_min_loop _, ?_⟩
  rw [hS]
  have gI : ((s.heap.push { cls := .type "list_iterator", data := .fields #[.ref l, .int 0 0] }).push (seqObj "list" #[] 0)).get? s.heap.objs.size = some { cls := .type "list_iterator", data := .fields #[.ref l, .int 0 0] } :=
    Heap.get?_push_of_some _ (Heap.get?_push_size _ rfl)
  have gS : ((s.heap.push { cls := .type "list_iterator", data := .fields #[.ref l, .int 0 0] }).push (seqObj "list" #[] 0)).get? (s.heap.objs.size + 1) = some (seqObj "list" #[] 0) := by rw [← hS]; exact Heap.get?_push_size _ rfl
  have J0 : Inv X pins σ H { s with heap := (s.heap.push { cls := .type "list_iterator", data := .fields #[.ref l, .int 0 0] }).push (seqObj "list" #[] 0) } := I.kept (t' := s.toks) fun b o e => Heap.get?_push_of_some _ (Heap.get?_push_of_some _ e)
  obtain ⟨its0, rv0, p0, hz0⟩ := J0.list hl
  obtain ⟨t0, ht0⟩ := vals_int_at rv0 h0
  refine codeAny_builtin PySem.F.entry_min_loop ?_
  rw [Around.under_plainId PySem.F.plain_min_loop _]
  show wpAny _ X.A.in1 (seqItems? (.ref _) >>= _) _ _ _
  refine wpAny_bind (wpAny_seqItems gS rfl ?_)
  show wpAny _ X.A.in1 (tryCatch (pyNext (.ref s.heap.objs.size)) _ >>= _) _ _ _
  refine wpAny_bind (wpAny_tryCatch (wpAny_pyNext_list_item ⟨_, gI, rfl, rfl⟩ p0.isList (x := .int n t0) (by simpa using ht0) fun h' hit1 sb => ?_))
  have J1 : Inv X pins σ H { s with heap := h' } := J0.turned (t' := s.toks) (fun b o hb e => (sb.2 b hb).trans e) fI.1 fI.2.1 fI.2.2.2.1 fI.2.2.2.2.1 fI.2.2.2.2.2
  have oS1 : h'.get? (s.heap.objs.size + 1) = _ := (sb.2 _ hSI).trans gS
  obtain ⟨oI, hoI, hoc, hod⟩ := id hit1
  have dI : ∀ v, oI.data ≠ .cell v := fun v z => by rw [hod] at z; cases z
  have JP : Inv X (pins ++ [(s.heap.objs.size + 1, seqObj "list" #[] 0), (s.heap.objs.size, oI)]) σ H { s with heap := h' } := J1.pins_of fun p hp => by
    rcases List.mem_append.mp hp with z | z
    · exact J1.pin p (List.mem_append_right _ z)
    · rcases List.mem_cons.mp z with rfl | z
      · exact ⟨oS1, fS.1, fS.2.1, fS.2.2.1, fun v z => by cases z⟩
      · rw [List.mem_singleton.mp z]
        exact ⟨hoI, fI.1, fI.2.1, fI.2.2.1, dI⟩
  show wpAny _ X.A.in1 (tryCatch (holding [.int n t0] (call (.ref f) [.int n t0])) _ >>= _) _ _ _
  refine wpAny_bind (wpAny_tryCatch (wpAny_holding (wpAny_mono (turn n mn _ _ t0 JP) (fun x s2 he => ?_) fun _ _ hF => hF.elim)))
  obtain ⟨v, H', J2, rv2, ev, eH⟩ := he
  subst ev eH
  obtain ⟨t3, rfl⟩ := rv2
  have oS2 := (J2.pin (s.heap.objs.size + 1, _) (List.mem_append_right _ (List.mem_append_right _ (.head _)))).1
  have oI2 := (J2.pin (s.heap.objs.size, oI) (List.mem_append_right _ (List.mem_append_right _ (.tail _ (.head _))))).1
  have J3 := J2.unpinned
  have s1 := Heap.SameBut.update s2.heap (s.heap.objs.size + 1) (Obj.mapSeq fun _ => #[.int n t0, .int (kf n) t3])
  obtain ⟨c2, hc2⟩ : ∃ c2, (s2.heap.update (s.heap.objs.size + 1) (Obj.mapSeq fun _ => #[.int n t0, .int (kf n) t3])).get? (s.heap.objs.size + 1) = some (seqObj "list" #[.int n t0, .int (kf n) t3] c2) := ⟨_, get?_update_seq oS2 fun _ => #[.int n t0, .int (kf n) t3]⟩
  have J4 : Inv X pins σ H' { s2 with heap := s2.heap.update (s.heap.objs.size + 1) (Obj.mapSeq fun _ => #[.int n t0, .int (kf n) t3]) } := J3.turned (t' := s2.toks) (fun b o hb e => (s1.2 b hb).trans e) fS.1 fS.2.1 fS.2.2.2.1 fS.2.2.2.2.1 fS.2.2.2.2.2
  show wpAny _ X.A.in1 (updateSeq (s.heap.objs.size + 1) (fun _ => #[.int n t0, .int (kf n) t3]) >>= _) _ _ _
  refine wpAny_bind ?_
  refine wpAny_updateSeq oS2 rfl ?_
  rw [hname]
  refine wpAny_pure ⟨plainId_quiet PySem.F.plain_min_loop _, min_loop hc hl hSI turn q _ 0 _ n t0 t3 c2 rfl hne J4 fS fI hc2 ⟨oI, (s1.2 _ hSI.symm).trans oI2, hoc, hod⟩ mn fun i' y hi hy => ?_⟩
  have e : i' = 0 := by omega
  subst e
  rw [h0] at hy
  cases hy
  exact Int.le_refl _
end
/-- min(e, key=lambda ps: body) -/
def tMinLam (K : PySem.W.Frag) (T : List (Addr × Str)) (js : List Nat) (sp : List (Option V) → List V → Hp → VK → Prop) (ta : TA) : TE := fun σ H Q => ta σ H fun vs H1 => Tabs T H1 ∧ ∃ (a : Addr) (ns : List Int) (kf : Int → Int), vs = [.ref a] ∧ SqL K H1 a (ns.map V.int) ∧ 0 < ns.length ∧
  ∀ H2, ExtN H1 H2 → Tabs T H2 → (∀ n ∈ ns, sp (js.map (slotAt σ)) [.int n] H2 fun v H' => v = .int (kf n) ∧ H' = H2) ∧ ∀ m, IsMin ns kf m → Q (.int m) H2
theorem pe_minLam {X : Cx} {T : List (Addr × Str)} {c P : Addr} {k : Nat} {e : Expr} {ta : TA} {params : Arguments} {body : Expr} {scope : Scope} {p lpos kpos pos : Pos} {N fr : List Str} {y : Str} {js : List Nat} {sp : List (Option V) → List V → Hp → VK → Prop} (hc : X.calm = true) (hg : Gl X "min") (hm : X.mg "min" = none)
    (ha : PA X [e] ta) (B : TabB X.base X.mg c P) (code : X.env.code = .ref c) (mem : (P, X.env.qual ++ "<lambda>") ∈ T) (one : ∀ p ∈ T, p.1 = P → p.2 = X.env.qual ++ "<lambda>") (dfl : defaultsOf params X.env = ([], [])) (hr : Room (k + 2) X.A)
    (S : NScope N [y] fr scope) (hsub : ndefB X.env.scope scope fr = true) (hjs : js.map (fun j => X.N[j]?) = fr.map some)
    (hb : ∀ (q : Str) (cl : List (Str × Addr)) (pm cv ctv : Value) (u : Value), bindArgs (PySem.W.kla_fn "<lambda>" q params body scope cl pm cv ctv) ⟨[u], []⟩ = pure [(y, u)])
    (hbody : ∀ (f c' : Addr) (A : Around) (outer : List Env) (s : Shared) (H : Hp) (vs : List V) (ws : List (Option V)) (Q : VK), Room k (A.deeper (envF (LF X params scope c') f s.heap.objs.size)) → ws.length = fr.length → vs.length = 1 → sp ws vs H Q →
      ∃ t, PE (ncx CX0 X.prog X.w X.K X.mg X.base N (LF X params scope c') f A outer s H fun _ _ _ => False) body t ∧ t (startF N vs ws) H Q)
    (he : backTo pos (starEach [e] X.env) = (false, eval e X.env) :: backTo pos (starEach [] X.env) := by rfl) (hpl : (backTo pos (starEach [e] X.env)).any (·.1) = false := by rfl) :
    PE X (.Call (.Name "min" p) [e] [⟨some "key", .Lambda params body scope lpos, kpos⟩] pos) (tMinLam X.K T js sp ta) := by
  refine ⟨fun pins s σ H Q I h => ?_⟩
  refine wpAny_Call_Name_kw (ld_blt I hg hm (by decide +kernel : bootBuiltins "min" = some (.builtin "min")) ?_ (by decide) (by decide))
  refine PyProof.Rows.callWith_kw (thn (ha.run pos pins s σ H _ I h) ?_) he hpl rfl rfl
  rintro us s1 ⟨vs, H1, I1, r1, tb, a, ns, kf, rfl, hs, hne, q⟩
  obtain rfl := Vals.ref1 r1
  show wpAny _ _ (evalAll [do let v ← eval (.Lambda params body scope lpos) X.env; standAt pos; pure v]) _ _ s1
  have hfree : ∀ y ∈ scope.names, y.2 = .free → ∃ c, X.env.cells.lookup y.1 = some c := fun y hy e => by
    rcases ndef_free hsub y hy e with z | z
    · exact I1.ok.has _ (.inl z)
    · exact I1.ok.has _ (.inr z)
  refine wpAny_evalAll_cons (wpAny_bind (lam_new I1 B code mem one tb dfl hfree fun f c' H2 s2 ex tb2 n2 n1 hco J => wpAny_bind (wpAny_standAt (wpAny_pure ?_))))
  refine wpAny_evalAll_nil ?_
  show wpAny _ _ (call (.builtin "min") [.ref a] [(Str.ofString "key", .ref f)]) _ _ s2
  have ex2 : ExtN H1 (upd H2 f (LamO f (LF X params scope c') body)) := fun b o e n => by
    rw [upd_ne (ne_of_none (ex b o e n) n2)]
    exact ex b o e n
  have tb3 : Tabs T (upd H2 f (LamO f (LF X params scope c') body)) := tb2.ext fun b u e => by rw [upd_ne (ne_of_none e n2)]; exact e
  obtain ⟨q1, q2⟩ := q _ ex2 tb3
  have hco2 : upd H2 f (LamO f (LF X params scope c') body) c' = some (CodeO c' (X.env.qual ++ "<lambda>")) := by rw [upd_ne (ne_of_none hco n2)]; exact hco
  have O : L1Ok X.prog X.w X.K X.mg X.base (k + 1) f (LF X params scope c') body [y] fr sp := l1ok_of S (fun pm ctv us hl => by
    match us, hl with
    | [u], _ => exact hb _ _ _ _ _ u) fun A outer s H vs ws Q hr hw hv hsp => hbody f c' A outer s H vs ws Q hr hw hv hsp
  refine min_call hc J (sqL_extN hs ex2) hne (fun n mn pins' s' t J' => ?_) q2
  have C := cells_of J' (Caps.made J'.ok (ndef_free hsub) (ndef_fr hsub) hjs)
  refine wpAny_call (codeAny_mono (O.run X.A.in1 X.stack s' _ [.int n t] [.int n] (js.map (slotAt σ)) _ hr.in1 J'.env0.in1 (codeO_at J'.hok hco2) (lamO_at J'.hok upd_same) C (.cons ⟨t, rfl⟩ .nil) rfl (q1 n mn)) fun rr s'' hq => ?_)
  cases rr with
  | error e => exact (show False from hq).elim
  | ok fl =>
    cases fl with
    | ret u => exact J'.after hq
    | next => exact False.elim hq
    | brk => exact False.elim hq
    | cont => exact False.elim hq
end LK
set_option Elab.async false
set_option linter.all false
set_option maxRecDepth 100000
set_option maxHeartbeats 4000000
/-! Fractions: what the class does -/
namespace FR
open PySem PySem.Spec PyProof.Rows L2
def top (i : Nat) : Stmt := PySem.Challenge.pw_surelyends_k08_errors_of_rows.main.body.getD i (.Pass ⟨0, 0, 0, 0⟩)
abbrev sPlain : Stmt := top 15
abbrev sFrac : Stmt := top 18
abbrev sInit : Stmt := inClass sFrac 0
abbrev sTop : Stmt := inClass sFrac 1
abbrev sBot : Stmt := inClass sFrac 2
abbrev sAs : Stmt := top 20
/-! ### the mathematics of the least form -/
/-- what both are divided by -/
def dv (t b : Int) : Int := if b < 0 then -((Nat.gcd t.natAbs b.natAbs : Nat) : Int) else ((Nat.gcd t.natAbs b.natAbs : Nat) : Int)
def nT (t b : Int) : Int := t.fdiv (dv t b)
def nB (t b : Int) : Int := b.fdiv (dv t b)
theorem dv_ne {t b : Int} (h : b ≠ 0) : dv t b ≠ 0 := by
  have z : 0 < Nat.gcd t.natAbs b.natAbs := Nat.gcd_pos_of_pos_right _ (by omega)
  unfold dv
  split <;> omega
theorem dv_le {t b : Int} (h : b ≠ 0) : (dv t b).natAbs ≤ b.natAbs := by
  have z : Nat.gcd t.natAbs b.natAbs ≤ b.natAbs := Nat.gcd_le_right _ (by omega)
  unfold dv
  split <;> omega
/-! ### divisions by great numbers of both signs -/
def CDivX (_ j : Int) : Prop := j ≠ 0 ∧ j.natAbs.log2 < 9000
theorem op_fdivX {X : Cx} : OpR X (binaryOp .FloorDiv) (rI CDivX fun i j => .int (i.fdiv j)) := opI fun i j _ _ _ _ _ hc q => floordiv_int hc.1 q (.inl (PyProof.noPylong_of_log2 hc.2))
theorem dv8 {t b : Int} (h : b ≠ 0) (hb : b.natAbs < 2 ^ 8000) : (dv t b).natAbs < 2 ^ 8000 := Nat.lt_of_le_of_lt (dv_le h) hb
theorem div_ok {i j : Int} {n : Nat} (h : j ≠ 0) (hb : j.natAbs < 2 ^ n) (h0 : 0 < n) (h9 : n ≤ 9000) : CDivX i j := ⟨h, Nat.lt_of_lt_of_le (PySem.Flt.log2_lt_of h0 hb) h9⟩
/-! ### what is an integer -/
def spPlain (K : PySem.W.Frag) : Sp := fun vs H Q _ => ∃ (v : V) (t : Value) (b1 b2 : Bool), vs = [v] ∧ TyX K H v t ∧ PySem.W.kitOne K t (.type "int") = some b1 ∧ PySem.W.kitOne K t (.type "bool") = some b2 ∧ Q (.bl (b1 && !b2)) H
section
variable {P : Program} {w : World} {K : PySem.W.Frag} {mg : Str → Option Value} {base : Heap}
theorem scP : FnScope ["value"] ["value"] (defScope sPlain) := ⟨rfl, rfl, rfl, by decide +kernel, rfl, by decide +kernel, by decide +kernel⟩
theorem ok_plain {f : Addr} {fd : FuncData} (F : Fun K "is_plain_integer" "is_plain_integer" sPlain f fd) (m1 : mg "isinstance" = none) (m2 : mg "int" = none) (m3 : mg "bool" = none) : FnOk P w K mg base CX0 1 f fd ["value"] (spPlain K) := by
  refine F.ok scP (fun vs H Q E h => ?_) (fun cdv A outer s H vs Q E hr h => ?_)
  · obtain ⟨v, _, _, _, rfl, _⟩ := h
    rfl
  · obtain ⟨v, t, b1, b2, rfl, ht, h1, h2, k⟩ := h
    refine ⟨_, pss_one (ps_ret (pe_and (pe_callB call_isi (by rfl) m1 PyProof.Rows.boot_isinstance (pa_cons (pv 0) (pa_cons (pe_bltn (v := .ty "int") (by rfl) m2 (by decide +kernel) rfl) pa_nil)))
      (pe_one (pe_not (pe_callB call_isi (by rfl) m1 PyProof.Rows.boot_isinstance (pa_cons (pv 0) (pa_cons (pe_bltn (v := .ty "bool") (by rfl) m3 (by decide +kernel) rfl) pa_nil))))))), ?_⟩
    refine ⟨_, rfl, v, _, t, _, b1, rfl, .ty _, ht, h1, _, rfl, ?_⟩
    cases b1 with
    | false => exact k
    | true => exact ⟨_, rfl, v, _, t, _, b2, rfl, .ty _, ht, h2, _, rfl, k⟩
theorem kI1 : PySem.W.kitOne K (.type "int") (.type "int") = some true := kit_ty (by decide +kernel)
theorem kI2 : PySem.W.kitOne K (.type "int") (.type "bool") = some false := kit_ty (by decide +kernel)
/-! ### a Fraction -/
def fl (t b : Int) : List (Str × V) := putF "_bottom" (.int b) (putF "_top" (.int t) [])
theorem nTB : ¬ (("_top" : Str) = "_bottom") := by decide +kernel
theorem fl_top (t b : Int) : (fl t b).lookup ("_top" : Str) = some (.int t) := by
  unfold fl
  rw [lookup_putF, if_neg nTB, lookup_putF, if_pos rfl]
theorem fl_bot (t b : Int) : (fl t b).lookup ("_bottom" : Str) = some (.int b) := by
  unfold fl
  rw [lookup_putF, if_pos rfl]
theorem fl_no (t b : Int) {m : Str} (h1 : ¬ m = "_bottom") (h2 : ¬ m = "_top") : (fl t b).lookup m = none := by
  unfold fl
  rw [lookup_putF, if_neg h1, lookup_putF, if_neg h2]
  all_goals rfl
/-- a Fraction with this top and bottom stands at p -/
def FrAt (C : Addr) (H : Hp) (p : Addr) (t b : Int) : Prop := ∃ dx, H p = some (.ins C dx (fl t b))
structure TxtF (K : PySem.W.Frag) (mg : Str → Option Value) (C : Addr) : Prop where
  cl : Cls K C
  nT : NoAttr K C "_top"
  nB : NoAttr K C "_bottom"
  mC : mg "Fraction" = some (.ref C)
  gcd : mg "gcd" = some (.builtin "math.gcd")
def spInit (C : Addr) : Sp := fun vs H Q _ => ∃ (p dx : Addr) (t b : Int), vs = [.ref p, .int t, .int b] ∧ H p = some (.ins C dx []) ∧ b ≠ 0 ∧ (dv t b).natAbs < 2 ^ 8000 ∧
  ∀ H', FrAt C H' p (nT t b) (nB t b) → (∀ q o, q ≠ p → H q = some o → H' q = some o) → Q .non H'
theorem scI : FnScope ["self", "top", "bottom", "shared"] ["self", "top", "bottom"] (defScope sInit) := ⟨rfl, rfl, rfl, by decide +kernel, rfl, by decide +kernel, by decide +kernel⟩
theorem ok_init {f fP C : Addr} {fd fdP : FuncData} (F : FunD K "__init__" "Fraction.__init__" (defArgs sInit) (defBody sInit) (defScope sInit) [V.int 1] [] f fd) (T : TxtF K mg C) (GP : FnOk P w K mg base CX0 1 fP fdP ["value"] (spPlain K)) (mP : mg "is_plain_integer" = some (.ref fP)) (kP : PySem.W.keepIn K (.ref fP) = true)
    (bP : Binds K fdP ["value"] []) : FnOk P w K mg base CX0 2 f fd ["self", "top", "bottom"] (spInit C) := by
  refine F.ok scI (fun vs H Q E h => ?_) (fun cdv A outer s H vs Q E hr h => ?_)
  · obtain ⟨p, dx, t, b, rfl, _⟩ := h
    rfl
  · obtain ⟨p, dx, t, b, rfl, hp, hb, hz, k⟩ := h
    refine ⟨_, pss_cons (ps_if (PW.pt (pw_or (pt_not (pt_val (pe_call GP hr (by rfl) mP kP bP .nil pass0 (pa_cons (pv 1) pa_nil)))) (pw_or (pt_not (pt_val (pe_call GP hr (by rfl) mP kP bP .nil pass0 (pa_cons (pv 2) pa_nil))))
        (pw_or1 (pt_cmpR op_eq (pv 2) pe_int (nomark _)))))) pss_never pss_nil)
      (pss_cons (ps_set (i := 3) scI.nd rfl (Or.inl rfl) (pe_callBfun cr_gcd (by rfl) T.gcd (pa_cons (pv 1) (pa_cons (pv 2) pa_nil))))
      (pss_cons (ps_if (pt_cmpR op_lt (pv 2) pe_int (nomark _)) (pss_one (ps_set (i := 3) scI.nd rfl (Or.inl rfl) (pe_un un_neg (pv 3)))) pss_nil)
      (pss_cons (ps_fld (pv 0) (pe_op op_fdivX (pv 1) (pv 3)) rfl)
      (pss_one (ps_fld (pv 0) (pe_op op_fdivX (pv 2) (pv 3)) rfl))))), ?_⟩
    refine ⟨_, rfl, _, _, true, false, rfl, .base (.int t), kI1, kI2, _, rfl, iteF ?_⟩
    refine ⟨_, rfl, _, _, true, false, rfl, .base (.int b), kI1, kI2, _, rfl, iteF ?_⟩
    refine ⟨_, rfl, rfl, _, rfl, ite2 (fun z => (hb (V.int.inj (of_decide_eq_true z))).elim) (fun _ => ?_)⟩
    refine ⟨_, rfl, _, rfl, t, b, rfl, ?_⟩
    refine ⟨_, rfl, _, _, rfl, rfl, _, rfl, ite2 (fun hn => ?_) (fun hn => ?_)⟩
    · have hn := of_decide_eq_true hn
      have ed : dv t b = -((Nat.gcd t.natAbs b.natAbs : Nat) : Int) := if_pos hn
      have dz : ∀ i : Int, CDivX i (-((Nat.gcd t.natAbs b.natAbs : Nat) : Int)) := fun i => by
        rw [← ed]
        exact div_ok (dv_ne hb) hz (by decide) (by decide)
      refine ⟨_, rfl, _, rfl, ?_⟩
      refine ⟨_, rfl, _, rfl, _, _, rfl, rfl, dz _, _, rfl, p, C, dx, _, rfl, hp, T.cl, T.nT, (by show 0 < 1000; decide), ?_⟩
      refine ⟨_, rfl, _, rfl, _, _, rfl, rfl, dz _, _, rfl, p, C, dx, _, rfl, upd_same, T.cl, T.nB, (by show 1 < 1000; decide), ?_⟩
      refine k _ ⟨dx, ?_⟩ fun q o hq e => by rw [upd_ne hq, upd_ne hq]; exact e
      unfold nT nB
      rw [ed]
      exact upd_same
    · have hn : ¬ b < 0 := fun z => hn (decide_eq_true z)
      have ed : dv t b = ((Nat.gcd t.natAbs b.natAbs : Nat) : Int) := if_neg hn
      have dz : ∀ i : Int, CDivX i ((Nat.gcd t.natAbs b.natAbs : Nat) : Int) := fun i => by
        rw [← ed]
        exact div_ok (dv_ne hb) hz (by decide) (by decide)
      refine ⟨_, rfl, _, rfl, _, _, rfl, rfl, dz _, _, rfl, p, C, dx, _, rfl, hp, T.cl, T.nT, (by show 0 < 1000; decide), ?_⟩
      refine ⟨_, rfl, _, rfl, _, _, rfl, rfl, dz _, _, rfl, p, C, dx, _, rfl, upd_same, T.cl, T.nB, (by show 1 < 1000; decide), ?_⟩
      refine k _ ⟨dx, ?_⟩ fun q o hq e => by rw [upd_ne hq, upd_ne hq]; exact e
      unfold nT nB
      rw [ed]
      exact upd_same
end
end FR
set_option Elab.async false
set_option linter.all false
set_option maxRecDepth 100000
set_option maxHeartbeats 4000000
namespace FR
open PySem PySem.Spec PyProof.Rows L2
section
variable {P : Program} {w : World} {K : PySem.W.Frag} {mg : Str → Option Value} {base : Heap}
/-- how Fraction(t) binds, and Fraction(t, b) -/
theorem init_binds {f : Addr} {fd : FuncData} (F : FunD K "__init__" "Fraction.__init__" (defArgs sInit) (defBody sInit) (defScope sInit) [V.int 1] [] f fd) :
    (∃ ds, Vals [V.int 1] ds ∧ Binds K fd ["self", "top", "bottom"] ds) ∧ Binds K fd ["self", "top", "bottom"] [] := by
  have b1 := F.binds1 (ps := ["self", "top", "bottom"]) 2 0 (by simp) rfl fun T kV doc pm an cdv ct us its hu hi => match us, its, hu, hi with | [_, _], [_], _, _ => ⟨_, rfl, rfl⟩
  have b2 := F.binds1 (ps := ["self", "top", "bottom"]) 3 1 (by simp) rfl fun T kV doc pm an cdv ct us its hu hi => match us, its, hu, hi with | [_, _, _], [_], _, _ => ⟨_, rfl, rfl⟩
  obtain ⟨ds, v, b⟩ := b2
  cases v
  exact ⟨b1, b⟩
/-! ### what the other defs lean on -/
theorem dv_one (t : Int) : dv t 1 = 1 := by
  unfold dv
  rw [if_neg (by decide)]
  have z : Nat.gcd t.natAbs (1 : Int).natAbs = 1 := Nat.gcd_one_right _
  rw [z]
  rfl
theorem nT_one (t : Int) : nT t 1 = t := by
  unfold nT
  rw [dv_one, Int.fdiv_one]
theorem nB_one (t : Int) : nB t 1 = 1 := by
  unfold nB
  rw [dv_one, Int.fdiv_one]
/-- a Fraction, or an integer, and what it stands for -/
def FV (C : Addr) (H : Hp) (v : V) (t b : Int) : Prop := (∃ p, v = .ref p ∧ FrAt C H p t b) ∨ (v = .int t ∧ b = 1)
theorem FrAt.same {C : Addr} {H H' : Hp} {p : Addr} {t b : Int} (h : FrAt C H p t b) (s : Same H H') : FrAt C H' p t b := by
  obtain ⟨dx, e⟩ := h
  exact ⟨dx, s _ _ e⟩
theorem FV.same {C : Addr} {H H' : Hp} {v : V} {t b : Int} (h : FV C H v t b) (s : Same H H') : FV C H' v t b := by
  rcases h with ⟨p, e, z⟩ | z
  · exact .inl ⟨p, e, z.same s⟩
  · exact .inr z
structure FrK (P : Program) (w : World) (K : PySem.W.Frag) (mg : Str → Option Value) (base : Heap) (C fI pT gT pB gB : Addr) (fdI fdT fdB : FuncData) : Prop where
  T : TxtF K mg C
  M : Mk K C fI
  GI : FnOk P w K mg base CX0 2 fI fdI ["self", "top", "bottom"] (spInit C)
  b1 : ∃ ds, Vals [V.int 1] ds ∧ Binds K fdI ["self", "top", "bottom"] ds
  b2 : Binds K fdI ["self", "top", "bottom"] []
  oT : PropOf K C "top" pT gT
  GT : FnOk P w K mg base CX0 1 gT fdT ["self"] (getSp C "_top")
  bT : Binds K fdT ["self"] []
  oB : PropOf K C "bottom" pB gB
  GB : FnOk P w K mg base CX0 1 gB fdB ["self"] (getSp C "_bottom")
  bB : Binds K fdB ["self"] []
  is : mg "isinstance" = none
  ha : PySem.W.findIn K (.ref C) "__class__" = some (some (.builtin "object.__class__"))
  hn : PySem.W.specialIn K (.builtin "object.__class__") "__get__" = some (some (.builtin "getset_descriptor.__get__"))
  tk : PySem.W.takesIn K (.builtin "object.__class__") = some true
  hm : PySem.W.mroIn K C (.type "object") = some true
  iC : PySem.W.kitOne K (.type "int") (.ref C) = some false
theorem kit_self (K : PySem.W.Frag) (C : Addr) : PySem.W.kitOne K (.ref C) (.ref C) = some true := if_pos (by simp)
def spAs (C : Addr) : Sp := fun vs H Q _ => ∃ (v : V) (t b : Int), vs = [v] ∧ FV C H v t b ∧ ∀ p H', FrAt C H' p t b → Same H H' → Q (.ref p) H'
theorem scA : FnScope ["value"] ["value"] (defScope sAs) := ⟨rfl, rfl, rfl, by decide +kernel, rfl, by decide +kernel, by decide +kernel⟩
theorem same_make {H H' : Hp} {x dx : Addr} (nx : H x = none) (nd : H dx = none) (s : ∀ q o, q ≠ x → upd (upd H dx (.own x)) x (.ins C dx []) q = some o → H' q = some o) : Same H H' := fun q o e => by
  have h1 : q ≠ x := ne_of_none e nx
  refine s q o h1 ?_
  rw [upd_ne h1, upd_ne (ne_of_none e nd)]
  exact e
variable {C fI pT gT pB gB : Addr} {fdI fdT fdB : FuncData}
theorem ok_as {f : Addr} {fd : FuncData} (F : Fun K "as_fraction" "as_fraction" sAs f fd) (k : FrK P w K mg base C fI pT gT pB gB fdI fdT fdB) : FnOk P w K mg base CX0 4 f fd ["value"] (spAs C) := by
  obtain ⟨ds, vds, bds⟩ := k.b1
  refine F.ok scA (fun vs H Q E h => ?_) (fun cdv A outer s H vs Q E hr h => ?_)
  · obtain ⟨v, t, b, rfl, _⟩ := h
    rfl
  · obtain ⟨v, t, b, rfl, hv, q⟩ := h
    refine ⟨_, pss_one (ps_ret (pe_ifExp (pt_val (pe_callB call_isi (by rfl) k.is PyProof.Rows.boot_isinstance (pa_cons (pv 0) (pa_cons (pe_glob (v := .ref C) (by rfl) k.T.mC rfl) pa_nil)))) (pv 0)
      (pe_make k.M k.GI hr (by rfl) k.T.mC bds vds pass0 (pa_cons (pv 0) pa_nil)))), ?_⟩
    rcases hv with ⟨p, rfl, dx, hp⟩ | ⟨rfl, rfl⟩
    · refine ⟨_, rfl, _, _, _, _, true, rfl, .own _, .base (.ins hp k.T.cl k.ha k.hn k.tk k.hm), kit_self K C, _, rfl, ?_⟩
      exact ⟨_, rfl, q p H ⟨dx, hp⟩ (Same.refl H)⟩
    · refine ⟨_, rfl, _, _, _, _, false, rfl, .own _, .base (.int t), k.iC, _, rfl, ?_⟩
      refine ⟨_, rfl, fun x dx nx nd ne => ?_⟩
      refine ⟨x, dx, t, 1, rfl, upd_same, by decide, dv8 (by decide) (by decide), fun H' hf hs => ⟨rfl, ?_⟩⟩
      rw [nT_one, nB_one] at hf
      exact q x H' hf (same_make (C := C) nx nd hs)
/-- a bound for what stands in a Fraction -/
def Sz (t b : Int) : Prop := t.natAbs < 2 ^ 3000 ∧ b.natAbs < 2 ^ 3000 ∧ b ≠ 0
theorem Sz.mul {t b t' b' : Int} (h : Sz t b) (h' : Sz t' b') : CMulW t t' ∧ CMulW t b' ∧ CMulW t' b ∧ CMulW b b' ∧ (b * b').natAbs < 2 ^ 8000 ∧ b * b' ≠ 0 := by
  obtain ⟨h1, h2, h3⟩ := h
  obtain ⟨g1, g2, g3⟩ := h'
  refine ⟨wide_mul h1 g1 (by decide) (by decide) (by decide), wide_mul h1 g2 (by decide) (by decide) (by decide), wide_mul g1 h2 (by decide) (by decide) (by decide), wide_mul h2 g2 (by decide) (by decide) (by decide), ?_, Int.mul_ne_zero h3 g3⟩
  exact Nat.lt_of_lt_of_le (wide_lt h2 g2) (Nat.pow_le_pow_right (by decide) (by decide))
end
end FR
set_option Elab.async false
set_option linter.all false
set_option maxRecDepth 100000
set_option maxHeartbeats 4000000
/-! Operators between instances of an own class and other values -/
namespace OW
open PySem PySem.Spec PySem.W PySem.Calls PyProof.Rows
section
variable {prog : Program} {w : World} {A : Around} {E : Value → Shared → Prop} {s : Shared} {K : Frag} {x C L f g : Addr} {h₀ : Heap} {m : Str → Option Value} {ox : Obj} {od : Option Obj} {T idl : String}
/-- a built-in value in front, which declines: the reflected method -/
theorem binop_right {op : Operator} {b : Value} {Q : Value → Shared → Prop} (X : K.In s.heap) (I : InstAt s.heap x ox C od) (hb : typeOf b = pure (.type T)) (hT : s.TypeIs b T) (hc : selfFirst K C = true)
    (h0 : findIn K (.ref C) (PySem.dunder op.info.2) = some (some (.ref g))) (hs : findIn K (.ref C) (dunderR op.info.2) = some (some (.ref f))) (hf : isFn K (.ref f) = true)
    (hfT : fillsNumberSlot (.type T) op.info.2 = pure true) (hsub : subIn K (.ref C) (.type T) = some false) (hl : Slot T (PySem.dunder op.info.2) idl)
    (hd : ∀ Q' : Value → Shared → Prop, Q' .notImplemented s → wpAny (model prog w) A (call (.builtin idl) [b, .ref x]) Q' E s)
    (h : wpAny (model prog w) A (call (.ref f) [.ref x, b]) (PySem.W.CmpBack Q) E s) : wpAny (model prog w) A (binaryOp op b (.ref x)) Q E s := by
  obtain ⟨cd, rest, hcd, hm⟩ := ksp_first hc
  rcases hi : op.info with ⟨sym, nm'⟩
  rw [hi] at h0 hs hfT hl
  dsimp only at h0 hs hfT hl
  have one := ksp_try X I hs hf h
  have L1 : Looks (model prog w) s.heap (typeOf (.ref x)) (.ref C) := I.type
  have L2 : Looks (model prog w) s.heap (typeOf b) (.type T) := Looks.of_pure hb
  have L3 : Looks (model prog w) s.heap (fillsNumberSlot (.ref C) nm') true := fills_K X hcd hm h0
  have L4 : Looks (model prog w) s.heap (fillsNumberSlot (.type T) nm') true := Looks.of_pure hfT
  have L5 : Looks (model prog w) s.heap (isSubtype (.ref C) (.type T)) false := looks_subIn X hsub
  have hpy : numberSlotInPython (.type T) nm' = pure false := rfl
  have hne : (Value.type T == Value.ref C) = false := Bool.eq_false_iff.mpr fun q => by cases beq_iff_eq.mp q
  simp only [binaryOp, hi]
  refine wpAny_holding (wpAny_bind ?_)
  unfold binaryOp1
  refine wpAny_bind (L2.here (wpAny_bind (L1.here (wpAny_bind (L4.here ?_)))))
  simp only [hne, Bool.false_eq_true, if_false]
  refine wpAny_bind (L3.here ?_)
  simp only [Bool.and_self, if_true]
  refine wpAny_bind (L5.here ?_)
  simp only [Bool.false_eq_true, if_false, pure_bind, Bool.not_false, Bool.and_self, if_true, hpy]
  refine wpAny_bind (m := tryMethod b _ (.ref x)) (wpAny_tryMethod_declines hT hl (hd _ ⟨rfl, ?_⟩))
  refine wpAny_bind (m := tryMethod (.ref x) _ b) (wpAny_mono one (fun r s' hr' => ?_) fun _ _ e => e)
  obtain ⟨v, rfl, hq⟩ := hr'
  exact wpAny_bind (wpAny_rule (wpAny_pure (wpAny_pure hq)))
/-! ### == and != -/
theorem try_eq {b : Value} {Q : Value → Shared → Prop} (X : K.In s.heap) (I : InstAt s.heap x ox C od) (hs : findIn K (.ref C) "__eq__" = some (some (.ref f))) (hf : isFn K (.ref f) = true)
    (h : wpAny (model prog w) A (call (.ref f) [.ref x, b]) (PySem.W.CmpBack Q) E s) : wpAny (model prog w) A (tryCompare (.ref x) "__eq__" b) (fun r s' => ∃ v, r = some v ∧ Q v s') E s := by
  unfold tryCompare
  refine wpAny_bind (ifBound_K X I hs hf (wpAny_mono h (fun v s' hv => ?_) fun _ _ e => e))
  cases v <;> first | exact hv.elim | exact wpAny_pure ⟨_, rfl, hv⟩
theorem run_ne {b : Value} {Q : Value → Shared → Prop} (hu : A.units < cLine) (X : K.In s.heap) (I : InstAt s.heap x ox C od) (hs : findIn K (.ref C) "__eq__" = some (some (.ref f))) (hf : isFn K (.ref f) = true)
    (h : wpAny (model prog w) A (call (.ref f) [.ref x, b]) (fun v s' => ∃ r, v = .bool r ∧ Q (.bool (!r)) s') E s) :
    wpAny (model prog w) A (Builtin.«object.__ne__» ⟨[.ref x, b], []⟩) (fun fin s' => ∃ v, fin = .done (.ret v) ∧ Q v s') E s := by
  unfold Builtin.«object.__ne__»
  repeat (first
    | with_reducible refine wpAny_cRoomFor hu ?_
    | (refine wpAny_bind (m := callSpecialIfBound? (.ref x) (Str.ofString "__eq__") [b]) (ifBound_K X I hs hf (wpAny_mono h (fun v s' hv => by
        obtain ⟨r, rfl, q⟩ := hv
        repeat (first | exact ⟨_, rfl, q⟩ | exact wpAny_pure ⟨_, rfl, q⟩ | (refine wpAny_bind (m := truthy (.bool _)) (wpAny_truthy_bool ?_)) | wp_step)) fun _ _ e => e)))
    | wp_step)
theorem try_ne {b : Value} {Q : Value → Shared → Prop} (hu : A.units + 1 < cLine) (X : K.In s.heap) (I : InstAt s.heap x ox C od) (hs : findIn K (.ref C) "__eq__" = some (some (.ref f))) (hf : isFn K (.ref f) = true)
    (hn : findIn K (.ref C) "__ne__" = some (some (.builtin "object.__ne__"))) (ho : subIn K (.ref C) (.type "object") = some true)
    (h : wpAny (model prog w) A.in1 (call (.ref f) [.ref x, b]) (fun v s' => ∃ r, v = .bool r ∧ Q (.bool (!r)) s') E s) :
    wpAny (model prog w) A (tryCompare (.ref x) "__ne__" b) (fun r s' => ∃ v, r = some v ∧ Q v s' ∧ ∃ z, v = .bool z) E s := by
  have L1 : Looks (model prog w) s.heap (typeOf (.ref x)) (.ref C) := I.type
  have c : wpAny (model prog w) A (call (.builtin "object.__ne__") [.ref x, b]) (fun v s' => Q v s' ∧ ∃ z, v = .bool z) E s := by
    refine wpAny_call (codeAny_call_builtin F.cmp_object.ne.plain F.cmpEntry_ne (check_slot F.cmpKind_ne F.cmpSplit_ne (L1.andThen (looks_subIn X ho)) (F.cmpArgs_ne _ _) ?_))
    refine wpAny_mono (run_ne (A := A.in1) (Q := fun v s' => Q v s' ∧ ∃ z, v = .bool z) hu X I hs hf (wpAny_mono h (fun v s' hv => ?_) fun _ _ e => e)) (fun fin s' hv => ?_) fun _ _ z => z
    · obtain ⟨r, rfl, q⟩ := hv
      exact ⟨r, rfl, q, _, rfl⟩
    · obtain ⟨v, rfl, q⟩ := hv
      exact q
  unfold tryCompare
  refine wpAny_bind ?_
  simp only [callSpecialIfBound?, bindSpecialIfBound?]
  refine wpAny_holding (wpAny_bind (wpAny_bind (wpAny_bind (I.type.here ((looks_findIn X hn).here ?_)))))
  have fin : wpAny (model prog w) A (call (.builtin "object.__ne__") ([.ref x] ++ [b]) >>= fun v => pure (some v)) (fun r s' => ∃ v, r = some v ∧ Q v s' ∧ ∃ z, v = .bool z) E s :=
    wpAny_bind (wpAny_mono c (fun v s' h' => wpAny_pure ⟨v, rfl, h'⟩) fun _ _ h' => h')
  have hb := F.cmp_object.ne.bind (.ref x)
  refine wpAny_bind (wpAny_askSetting (wpAny_ite ?_))
  have fin2 := wpAny_mono (Q' := fun r s' => wpAny (model prog w) A (match r with | some .notImplemented => pure none | none => pure none | some v => pure (some v)) (fun r s' => ∃ v, r = some v ∧ Q v s' ∧ ∃ z, v = .bool z) E s') fin (fun r s' h' => by
    obtain ⟨v, rfl, q, z, rfl⟩ := h'
    exact wpAny_pure ⟨_, rfl, q, _, rfl⟩) fun _ _ e => e
  split
  · rw [hb]
    exact wpAny_bind (wpAny_pure (wpAny_pure fin2))
  · rw [hb]
    exact wpAny_tryCatch (wpAny_bind (wpAny_pure (wpAny_pure fin2)))
end
end OW
set_option Elab.async false
set_option linter.all false
set_option maxRecDepth 100000
set_option maxHeartbeats 4000000
namespace OW
open PySem PySem.Spec PySem.W PySem.Calls PyProof.Rows
section
variable {prog : Program} {w : World} {A : Around} {E : Value → Shared → Prop} {s : Shared} {K : Frag} {x C L f g : Addr} {h₀ : Heap} {m : Str → Option Value} {ox : Obj} {od : Option Obj} {T idl : String}
theorem ne_left {b tb : Value} {Q : Value → Shared → Prop} (hu : A.units + 1 < cLine) (X : K.In s.heap) (I : InstAt s.heap x ox C od) (hb : Looks (model prog w) s.heap (typeOf b) tb) (hnf : notFirst K C tb = true)
    (hs : findIn K (.ref C) "__eq__" = some (some (.ref f))) (hf : isFn K (.ref f) = true) (hn : findIn K (.ref C) "__ne__" = some (some (.builtin "object.__ne__"))) (ho : subIn K (.ref C) (.type "object") = some true)
    (h : wpAny (model prog w) A.in1 (call (.ref f) [.ref x, b]) (fun v s' => ∃ r, v = .bool r ∧ Q (.bool (!r)) s') E s) : wpAny (model prog w) A (richCompare .NotEq (.ref x) b) Q E s := by
  have one := try_ne hu X I hs hf hn ho h
  unfold richCompare
  simp only [oneThing_ref]
  refine wpAny_holding (wpAny_bind (wpAny_cRoomFor (Nat.lt_of_succ_lt hu) ?_))
  refine wpAny_bind (I.type.here (wpAny_bind (hb.here ?_)))
  split
  · rename_i q
    have e : subIn K tb (.ref C) = some false := by
      rcases Bool.or_eq_true_iff.mp hnf with e | e
      · rw [beq_iff_eq.mp e] at q; simp at q
      · exact beq_iff_eq.mp e
    refine wpAny_bind ((looks_subIn X e).here ?_)
    simp only [Bool.false_eq_true, if_false]
    refine wpAny_bind (wpAny_mono one (fun r s' z => ?_) fun _ _ e => e)
    obtain ⟨v, rfl, hq, _⟩ := z
    exact wpAny_pure hq
  · refine wpAny_bind (wpAny_pure ?_)
    simp only [Bool.false_eq_true, if_false]
    refine wpAny_bind (wpAny_mono one (fun r s' z => ?_) fun _ _ e => e)
    obtain ⟨v, rfl, hq, _⟩ := z
    exact wpAny_pure hq
theorem eq_right {b : Value} {Q : Value → Shared → Prop} (hu : A.units < cLine) (X : K.In s.heap) (I : InstAt s.heap x ox C od) (hT : s.TypeIs b T) (hsub : subIn K (.ref C) (.type T) = some false) (hl : Slot T "__eq__" idl)
    (hd : ∀ Q' : Value → Shared → Prop, Q' .notImplemented s → wpAny (model prog w) A (call (.builtin idl) [b, .ref x]) Q' E s)
    (hs : findIn K (.ref C) "__eq__" = some (some (.ref f))) (hf : isFn K (.ref f) = true)
    (h : wpAny (model prog w) A (call (.ref f) [.ref x, b]) (PySem.W.CmpBack Q) E s) : wpAny (model prog w) A (richCompare .Eq b (.ref x)) Q E s := by
  have one := try_eq X I hs hf h
  have hne : (Value.type T != Value.ref C) = true := by simp
  unfold richCompare
  simp only [hT.oneThing_none]
  refine wpAny_holding (wpAny_bind (wpAny_cRoomFor hu ?_))
  refine wpAny_bind (wpAny_typeOf hT (wpAny_bind (I.type.here ?_)))
  simp only [hne, if_true]
  refine wpAny_bind ((looks_subIn X hsub).here ?_)
  simp only [Bool.false_eq_true, if_false, Bool.not_false, if_true]
  refine wpAny_bind (m := tryCompare b _ (.ref x)) (wpAny_tryCompare_declines hT hl (hd _ ⟨rfl, ?_⟩))
  refine wpAny_bind (m := tryCompare (.ref x) _ b) (wpAny_mono one (fun r s' z => ?_) fun _ _ e => e)
  obtain ⟨v, rfl, hq⟩ := z
  exact wpAny_pure hq
theorem ne_right {b : Value} {Q : Value → Shared → Prop} (hu : A.units + 1 < cLine) (X : K.In s.heap) (I : InstAt s.heap x ox C od) (hT : s.TypeIs b T) (hsub : subIn K (.ref C) (.type T) = some false) (hl : Slot T "__ne__" idl)
    (hd : ∀ Q' : Value → Shared → Prop, Q' .notImplemented s → wpAny (model prog w) A (call (.builtin idl) [b, .ref x]) Q' E s)
    (hs : findIn K (.ref C) "__eq__" = some (some (.ref f))) (hf : isFn K (.ref f) = true) (hn : findIn K (.ref C) "__ne__" = some (some (.builtin "object.__ne__"))) (ho : subIn K (.ref C) (.type "object") = some true)
    (h : wpAny (model prog w) A.in1 (call (.ref f) [.ref x, b]) (fun v s' => ∃ r, v = .bool r ∧ Q (.bool (!r)) s') E s) : wpAny (model prog w) A (richCompare .NotEq b (.ref x)) Q E s := by
  have one := try_ne hu X I hs hf hn ho h
  have hne : (Value.type T != Value.ref C) = true := by simp
  unfold richCompare
  simp only [hT.oneThing_none]
  refine wpAny_holding (wpAny_bind (wpAny_cRoomFor (Nat.lt_of_succ_lt hu) ?_))
  refine wpAny_bind (wpAny_typeOf hT (wpAny_bind (I.type.here ?_)))
  simp only [hne, if_true]
  refine wpAny_bind ((looks_subIn X hsub).here ?_)
  simp only [Bool.false_eq_true, if_false, Bool.not_false, if_true]
  refine wpAny_bind (m := tryCompare b _ (.ref x)) (wpAny_tryCompare_declines hT hl (hd _ ⟨rfl, ?_⟩))
  refine wpAny_bind (m := tryCompare (.ref x) _ b) (wpAny_mono one (fun r s' z => ?_) fun _ _ e => e)
  obtain ⟨v, rfl, hq, _⟩ := z
  exact wpAny_pure hq
end
/-! ### the built-in types decline -/
section
variable {C l dx : Addr}
theorem int_eq_no (b : Int) (u : Tok) : Meets (Builtin.«int.__eq__» ⟨[.int b u, .ref l], []⟩) (fun _ R s => s.heap.get? l = some (instObj C dx) ∧ R (.ok (.ret .notImplemented)) s) :=
  .of_wp fun prog w A R s h => by obtain ⟨hp, g, d, tk, os⟩ := s; obtain ⟨hl, h⟩ := h; wp_walk using wpAny_loadPart' hl, wpAny_load hl; exact ⟨_, rfl, h⟩
theorem int_ne_no (b : Int) (u : Tok) : Meets (Builtin.«int.__ne__» ⟨[.int b u, .ref l], []⟩) (fun _ R s => s.heap.get? l = some (instObj C dx) ∧ R (.ok (.ret .notImplemented)) s) :=
  .of_wp fun prog w A R s h => by obtain ⟨hp, g, d, tk, os⟩ := s; obtain ⟨hl, h⟩ := h; wp_walk using wpAny_loadPart' hl, wpAny_load hl; exact ⟨_, rfl, h⟩
theorem int_add_no (b : Int) (u : Tok) : Meets (Builtin.«int.__add__» ⟨[.int b u, .ref l], []⟩) (fun _ R s => s.heap.get? l = some (instObj C dx) ∧ R (.ok (.ret .notImplemented)) s) :=
  .of_wp fun prog w A R s h => by obtain ⟨hp, g, d, tk, os⟩ := s; obtain ⟨hl, h⟩ := h; wp_walk using wpAny_loadPart' hl, wpAny_load hl; exact ⟨_, rfl, h⟩
theorem int_sub_no (b : Int) (u : Tok) : Meets (Builtin.«int.__sub__» ⟨[.int b u, .ref l], []⟩) (fun _ R s => s.heap.get? l = some (instObj C dx) ∧ R (.ok (.ret .notImplemented)) s) :=
  .of_wp fun prog w A R s h => by obtain ⟨hp, g, d, tk, os⟩ := s; obtain ⟨hl, h⟩ := h; wp_walk using wpAny_loadPart' hl, wpAny_load hl; exact ⟨_, rfl, h⟩
theorem int_mul_no (b : Int) (u : Tok) : Meets (Builtin.«int.__mul__» ⟨[.int b u, .ref l], []⟩) (fun _ R s => s.heap.get? l = some (instObj C dx) ∧ R (.ok (.ret .notImplemented)) s) :=
  .of_wp fun prog w A R s h => by obtain ⟨hp, g, d, tk, os⟩ := s; obtain ⟨hl, h⟩ := h; wp_walk using wpAny_loadPart' hl, wpAny_load hl; exact ⟨_, rfl, h⟩
theorem bool_eq_no (b : Bool) : Meets (Builtin.«int.__eq__» ⟨[.bool b, .ref l], []⟩) (fun _ R s => s.heap.get? l = some (instObj C dx) ∧ R (.ok (.ret .notImplemented)) s) :=
  .of_wp fun prog w A R s h => by obtain ⟨hp, g, d, tk, os⟩ := s; obtain ⟨hl, h⟩ := h; wp_walk using wpAny_loadPart' hl, wpAny_load hl; exact ⟨_, rfl, h⟩
theorem str_eq_no (b : Str) (u : Tok) : Meets (Builtin.«str.__eq__» ⟨[.str b u, .ref l], []⟩) (fun _ R s => s.heap.get? l = some (instObj C dx) ∧ R (.ok (.ret .notImplemented)) s) :=
  .of_wp fun prog w A R s h => by obtain ⟨hp, g, d, tk, os⟩ := s; obtain ⟨hl, h⟩ := h; wp_walk using wpAny_loadPart' hl, wpAny_load hl; exact ⟨_, rfl, h⟩
end
end OW
set_option Elab.async false
set_option linter.all false
set_option maxRecDepth 100000
set_option maxHeartbeats 4000000
namespace OW
open PySem PySem.Spec PySem.W PySem.Calls PyProof.Rows
open AutoSeq1 (wpAny_loadPart')
section
variable {C x l dx : Addr} {K : Frag} {od : Option Obj}
theorem list_eq_no (hs : subIn K (.ref C) (.type "list") = some false) (items : Array Value) (n : Nat) (dd : Option Addr) (sl : Array (Option Value)) : Meets (Builtin.«list.__eq__» ⟨[.ref l, .ref x], []⟩)
    (fun _ R s => s.heap.get? l = some { cls := .type "list", dict := dd, data := .seq items n, slots := sl } ∧ K.In s.heap ∧ s.heap.get? x = some (instObj C dx) ∧ R (.ok (.ret .notImplemented)) s) :=
  .of_wp fun prog w A R s h => by
    obtain ⟨hl, X, hx, h⟩ := h
    have L : Looks (model prog w) s.heap (isSubtype (.ref C) (.type "list")) false := looks_subIn X hs
    obtain ⟨hp, g, d, tk, os⟩ := s
    wp_walk using wpAny_loadPart' hl, wpAny_loadPart' hx, L.here
    exact ⟨_, rfl, h⟩
theorem tuple_eq_no (hs : subIn K (.ref C) (.type "tuple") = some false) (items : Array Value) (n : Nat) (dd : Option Addr) (sl : Array (Option Value)) : Meets (Builtin.«tuple.__eq__» ⟨[.ref l, .ref x], []⟩)
    (fun _ R s => s.heap.get? l = some { cls := .type "tuple", dict := dd, data := .seq items n, slots := sl } ∧ K.In s.heap ∧ s.heap.get? x = some (instObj C dx) ∧ R (.ok (.ret .notImplemented)) s) :=
  .of_wp fun prog w A R s h => by
    obtain ⟨hl, X, hx, h⟩ := h
    have L : Looks (model prog w) s.heap (isSubtype (.ref C) (.type "tuple")) false := looks_subIn X hs
    obtain ⟨hp, g, d, tk, os⟩ := s
    wp_walk using wpAny_loadPart' hl, wpAny_loadPart' hx, L.here
    exact ⟨_, rfl, h⟩
end
section
variable {prog : Program} {w : World} {A : Around} {E : Value → Shared → Prop} {s : Shared} {K : Frag} {x C a : Addr} {ox : Obj} {od : Option Obj}
theorem dict_eq_no {Q : Value → Shared → Prop} (hT : s.TypeIs (.ref a) "dict") (X : K.In s.heap) (I : InstAt s.heap x ox C od) (hs : subIn K (.ref C) (.type "dict") = some false) (h : Q .notImplemented s) :
    wpAny (model prog w) A (call (.builtin "dict.__eq__") [.ref a, .ref x]) Q E s := by
  have L1 : Looks (model prog w) s.heap (typeOf (.ref x)) (.ref C) := I.type
  have L : Looks (model prog w) s.heap (isInstance (.ref x) (.type "dict")) false := L1.andThen (looks_subIn X hs)
  refine wpAny_call_entry PySem.F.slot_dict_eq hT PySem.F.entry_dict_eq ?_ (PySem.F.args_dict_eq_2 _ _)
  show wpAny _ _ (Builtin.Dict.dictSlotArgs "__eq__" ⟨[.ref a, .ref x], []⟩ >>= _) _ _ s
  refine wpAny_bind ?_
  unfold Builtin.Dict.dictSlotArgs
  refine wpAny_bind (wpAny_notOrdered_dict hT ?_)
  show wpAny _ _ (pure (Value.ref a, Value.ref x)) _ _ s
  refine wpAny_pure ?_
  refine wpAny_bind (L.here ?_)
  wp_walk
  exact ⟨_, rfl, h⟩
end
end OW
set_option Elab.async false
set_option linter.all false
set_option maxRecDepth 100000
set_option maxHeartbeats 4000000
namespace L2
open PySem PySem.Spec PyProof.Rows PySem.Calls
theorem rRef (a : Addr) : RelV (.ref a) (.ref a) := rfl
theorem rInt (i : Int) (t : Tok) : RelV (.int i) (.int i t) := ⟨t, rfl⟩
/-- the class at C has this name as the def at f -/
structure Dun (K : PySem.W.Frag) (C : Addr) (nm : Str) (f : Addr) : Prop where
  at_ : PySem.W.findIn K (.ref C) nm = some (some (.ref f))
  fn : PySem.W.isFn K (.ref f) = true
section
variable {X : Cx} {CX : CXT} {k : Nat} {f C C' a : Addr} {fd : FuncData} {ps : List Str} {sp : Sp} {E : XK} {pins : List (Addr × Obj)} {σ : St} {H : Hp} {s : Shared} {Q : VK}
theorem run_sub {A : Around} {us : List Value} {vs : List V} (sb : Sub X k A) (F : FnOk X.prog X.w X.K X.mg X.base CX k f fd ps sp) (hb : Binds X.K fd ps []) (hx : Passes CX X E)
    (I : Inv X pins σ H s) (r : Vals vs us) (h : sp vs H Q E) : wpAny (model X.prog X.w) A (call (.ref f) us) (EP X pins σ Q) X.xe s := by
  have e0 : Env0 X.prog X.w X.K X.mg X.base A X.stack s H := by
    have e := I.env0
    exact ⟨by rw [sb.fr]; exact e.frames, e.mod, e.bs, e.bsz, e.funs, e.frf, e.hok, e.bare⟩
  have hl := F.len _ _ _ _ h
  refine wpAny_call (codeAny_mono (F.run A X.stack s H ⟨us, []⟩ us vs Q E sb.room e0 (by
    have := hb s us I.kIn (by rw [List.append_nil, ← r.length]; exact hl)
    rw [List.append_nil] at this
    exact this) r h) fun r s' hq => ?_)
  cases r with
  | error e => exact hx pins σ H s e s' I hq
  | ok fl =>
    cases fl with
    | ret w =>
      obtain ⟨z, H', I', rz, q⟩ := I.after hq
      exact ⟨z, H', I', rz, q⟩
    | next => exact False.elim hq
    | brk => exact False.elim hq
    | cont => exact False.elim hq
theorem back_rel {v : V} {u : Value} {s' : Shared} {R : Value → Shared → Prop} (r : RelV v u) (q : R u s') : PySem.W.CmpBack R u s' := by
  cases u
  case notImplemented =>
    cases v with
    | non => exact nomatch (show Value.notImplemented = Value.none from r)
    | bl b => exact nomatch (show Value.notImplemented = Value.bool b from r)
    | int i => obtain ⟨t, e⟩ := (show ∃ t, Value.notImplemented = Value.int i t from r); exact nomatch e
    | str x => obtain ⟨t, e⟩ := (show ∃ t, Value.notImplemented = Value.str x t from r); exact nomatch e
    | byt b => obtain ⟨t, e⟩ := (show ∃ t, Value.notImplemented = Value.bytes b t from r); exact nomatch e
    | flt b => obtain ⟨t, e⟩ := (show ∃ t, Value.notImplemented = Value.float b t from r); exact nomatch e
    | ref a => exact nomatch (show Value.notImplemented = Value.ref a from r)
    | ty n => exact nomatch (show Value.notImplemented = Value.type n from r)
  all_goals exact q
theorem ins_at {dx : Addr} {fs : List (Str × V)} (I : Inv X pins σ H s) (e : H a = some (.ins C dx fs)) : ∃ od, PySem.W.InstAt s.heap a (PySem.W.instObj C dx) C (some od) ∧ s.heap.get? a = some (PySem.W.instObj C dx) := by
  obtain ⟨mA, O, _⟩ := ins_get I.hok e
  obtain ⟨od, J, _⟩ := O.look
  exact ⟨od, J, O.obj⟩
/-- x op y, x an instance whose class has the method, y one of the same class -/
def rOw2 (C : Addr) (sp : Sp) (E : XK) : R2 := fun x y H Q => ∃ a b dx dy fs gs, x = .ref a ∧ y = .ref b ∧ H a = some (.ins C dx fs) ∧ H b = some (.ins C dy gs) ∧ sp [.ref a, .ref b] H Q E
theorem op_own2 {op : Operator} (D : Dun X.K C (PySem.dunder op.info.2) f) (hc : PySem.W.selfFirst X.K C = true) (F : FnOk X.prog X.w X.K X.mg X.base CX k f fd ps sp) (hr : Room k X.A) (hb : Binds X.K fd ps []) (hx : Passes CX X E) :
    OpR X (binaryOp op) (rOw2 C sp E) := by
  intro pins s σ H x y v u Q I rx ry ⟨a, b, dx, dy, fs, gs, ex, ey, ea, eb, h⟩
  subst ex ey
  cases (show v = .ref a from rx)
  cases (show u = .ref b from ry)
  obtain ⟨od, J, _⟩ := ins_at I ea
  obtain ⟨od', J', _⟩ := ins_at I eb
  obtain ⟨m, hF⟩ := I.fr
  exact PySem.W.binop_K hF I.ok.mod.kin J J'.type hc D.at_ D.fn (wpAny_mono (run_sub ⟨hr, rfl⟩ F hb hx I (.cons (rRef a) (.cons (rRef b) .nil)) h) (fun w' s' ⟨z, H', I', rz, q⟩ => back_rel rz ⟨z, H', I', rz, q⟩) fun _ _ e => e)
/-- x op y, y an integer -/
def rOwI (C : Addr) (sp : Sp) (E : XK) : R2 := fun x y H Q => ∃ a i dx fs, x = .ref a ∧ y = .int i ∧ H a = some (.ins C dx fs) ∧ sp [.ref a, .int i] H Q E
theorem op_ownI {op : Operator} {fo ro rc : Option Value} (D : Dun X.K C (PySem.dunder op.info.2) f) (hc : PySem.W.selfFirst X.K C = true) (hR : PySem.W.findIn X.K (.ref C) (dunderR op.info.2) = some rc) (hp : rc = none ∨ ∃ g : Addr, rc = some (.ref g))
    (h1 : PySem.W.findIn X.K (.type "int") (PySem.dunder op.info.2) = some fo) (h2 : PySem.W.findIn X.K (.type "int") (dunderR op.info.2) = some ro) (hs : PySem.W.subIn X.K (.type "int") (.ref C) = some false)
    (F : FnOk X.prog X.w X.K X.mg X.base CX k f fd ps sp) (hr : Room k X.A) (hb : Binds X.K fd ps []) (hx : Passes CX X E) : OpR X (binaryOp op) (rOwI C sp E) := by
  intro pins s σ H x y v u Q I rx ry ⟨a, i, dx, fs, ex, ey, ea, h⟩
  subst ex ey
  cases (show v = .ref a from rx)
  obtain ⟨t, rfl⟩ := (show ∃ t, u = Value.int i t from ry)
  obtain ⟨od, J, _⟩ := ins_at I ea
  obtain ⟨m, hF⟩ := I.fr
  exact PySem.W.ksp_binT hF I.ok.mod.kin J rfl hc D.at_ D.fn hR hp h1 h2 hs (wpAny_mono (run_sub ⟨hr, rfl⟩ F hb hx I (.cons (rRef a) (.cons (rInt i t) .nil)) h) (fun w' s' ⟨z, H', I', rz, q⟩ => back_rel rz ⟨z, H', I', rz, q⟩) fun _ _ e => e)
/-- i op x, i an integer: the reflected method -/
def rIOw (C : Addr) (sp : Sp) (E : XK) : R2 := fun x y H Q => ∃ a i dx fs, x = .int i ∧ y = .ref a ∧ H a = some (.ins C dx fs) ∧ sp [.ref a, .int i] H Q E
theorem op_Iown {op : Operator} {g : Addr} {idl : String} {B : Builtin} (D0 : Dun X.K C (PySem.dunder op.info.2) g) (D : Dun X.K C (dunderR op.info.2) f) (hc : PySem.W.selfFirst X.K C = true)
    (hfT : fillsNumberSlot (.type "int") op.info.2 = pure true) (hl : Slot "int" (PySem.dunder op.info.2) idl) (en : entryFor table idl = some B) (ar : ∀ x y, argsOk idl ⟨[x, y], []⟩)
    (no : ∀ (i : Int) (t : Tok) (l dx : Addr), Meets (B ⟨[.int i t, .ref l], []⟩) (fun _ R s => s.heap.get? l = some (PySem.W.instObj C dx) ∧ R (.ok (.ret .notImplemented)) s)) (hs : PySem.W.subIn X.K (.ref C) (.type "int") = some false)
    (F : FnOk X.prog X.w X.K X.mg X.base CX k f fd ps sp) (hr : Room k X.A) (hb : Binds X.K fd ps []) (hx : Passes CX X E) : OpR X (binaryOp op) (rIOw C sp E) := by
  intro pins s σ H x y v u Q I rx ry ⟨a, i, dx, fs, ex, ey, ea, h⟩
  subst ex ey
  cases (show u = .ref a from ry)
  obtain ⟨t, rfl⟩ := (show ∃ t, v = Value.int i t from rx)
  obtain ⟨od, J, O⟩ := ins_at I ea
  refine OW.binop_right I.kIn J rfl (typeIs_int s i t) hc D0.at_ D.at_ D.fn hfT hs hl (fun Q' q' => call_meets hl (typeIs_int s i t) en (ar _ _) (no i t a dx) ⟨O, q'⟩) ?_
  exact wpAny_mono (run_sub ⟨hr, rfl⟩ F hb hx I (.cons (rRef a) (.cons (rInt i t) .nil)) h) (fun w' s' ⟨z, H', I', rz, q⟩ => back_rel rz ⟨z, H', I', rz, q⟩) fun _ _ e => e
/-- -x -/
def rNeg (C : Addr) (sp : Sp) (E : XK) : V → Hp → VK → Prop := fun x H Q => ∃ a dx fs, x = .ref a ∧ H a = some (.ins C dx fs) ∧ sp [.ref a] H Q E
theorem un_own (D : Dun X.K C "__neg__" f) (F : FnOk X.prog X.w X.K X.mg X.base CX k f fd ps sp) (hr : Room k X.A) (hb : Binds X.K fd ps []) (hx : Passes CX X E) : UnR X (unaryOp .USub) (rNeg C sp E) := by
  intro pins s σ H x v Q I rx ⟨a, dx, fs, ex, ea, h⟩
  subst ex
  cases (show v = .ref a from rx)
  obtain ⟨od, J, _⟩ := ins_at I ea
  obtain ⟨m, hF⟩ := I.fr
  exact PySem.W.ksp_neg hF I.ok.mod.kin J D.at_ D.fn (run_sub ⟨hr, rfl⟩ F hb hx I (.cons (rRef a) .nil) h)
/-- abs(x) -/
def rAbs (C : Addr) (sp : Sp) (E : XK) : List V → Hp → VK → Prop := fun xs H Q => ∃ a dx fs, xs = [.ref a] ∧ H a = some (.ins C dx fs) ∧ sp [.ref a] H Q E
theorem call_absOwn (D : Dun X.K C "__abs__" f) (F : FnOk X.prog X.w X.K X.mg X.base CX k f fd ps sp) (hr : Room (k + 1) X.A) (hb : Binds X.K fd ps []) (hx : Passes CX X E) : CallR X (.builtin "abs") (rAbs C sp E) := by
  intro pins s σ H xs us Q I r ⟨a, dx, fs, ex, ea, h⟩
  subst ex
  obtain ⟨u, rfl, ru⟩ := vals1 r
  cases (show u = .ref a from ru)
  obtain ⟨od, J, _⟩ := ins_at I ea
  refine call_function_entry kind_abs plain_abs entry_abs (args_abs _) ?_
  unfold Builtin.«abs»
  refine wpAny_bind (m := oneArg "abs" _) (wpAny_pure ?_)
  refine wpAny_bind (m := callSpecial? (.ref a) (Str.ofString "__abs__")) (PySem.W.special_fn I.kIn J D.at_ (beq_iff_eq.mp D.fn) (wpAny_mono (run_sub ⟨hr.in1, rfl⟩ F hb hx I (.cons (rRef a) .nil) h) (fun w' s' z => ?_) fun _ _ e => e))
  exact wpAny_pure ⟨_, rfl, z⟩
/-- str(x) -/
def rStr (C : Addr) (sp : Sp) (E : XK) : List V → Hp → VK → Prop := fun xs H Q => ∃ a dx fs, xs = [.ref a] ∧ H a = some (.ins C dx fs) ∧ sp [.ref a] H (fun z H' => (∃ t, z = .str t) ∧ Q z H') E
theorem call_strOwn (D : Dun X.K C "__str__" f) (F : FnOk X.prog X.w X.K X.mg X.base CX k f fd ps sp) (hr : Room (k + 2) X.A) (hb : Binds X.K fd ps []) (hx : Passes CX X E) : CallR X (.type "str") (rStr C sp E) := by
  intro pins s σ H xs us Q I r ⟨a, dx, fs, ex, ea, h⟩
  subst ex
  obtain ⟨u, rfl, ru⟩ := vals1 r
  cases (show u = .ref a from ru)
  obtain ⟨od, J, _⟩ := ins_at I ea
  refine PySem.W.kso_call hr.in1.in1.units0 I.kIn J D.at_ D.fn (wpAny_mono (run_sub ⟨hr.in1.in1, rfl⟩ F hb hx I (.cons (rRef a) .nil) h) (fun w' s' ⟨z, H', I', rz, ⟨t, ez⟩, q⟩ => ?_) fun _ _ e => e)
  subst ez
  obtain ⟨tk, rfl⟩ := (show ∃ tk, w' = Value.str t tk from rz)
  exact ⟨_, H', I', rz, q⟩
end
end L2
set_option Elab.async false
set_option linter.all false
set_option maxRecDepth 100000
set_option maxHeartbeats 4000000
namespace L2
open PySem PySem.Spec PyProof.Rows PySem.Calls
section
variable {X : Cx} {CX : CXT} {k : Nat} {f C a : Addr} {fd : FuncData} {ps : List Str} {sp : Sp} {E : XK} {pins : List (Addr × Obj)} {σ : St} {H : Hp} {s : Shared} {Q : VK}
/-- x == y, x an instance whose class has __eq__ -/
def rEqL (K : PySem.W.Frag) (C : Addr) (sp : Sp) (E : XK) : R2 := fun x y H Q => ∃ a dx fs t, x = .ref a ∧ H a = some (.ins C dx fs) ∧ TyX K H y t ∧ PySem.W.notFirst K C t = true ∧ sp [.ref a, y] H Q E
theorem op_eqL (D : Dun X.K C "__eq__" f) (F : FnOk X.prog X.w X.K X.mg X.base CX k f fd ps sp) (hr : Room k X.A) (hb : Binds X.K fd ps []) (hx : Passes CX X E) : OpR X (compareOp .Eq) (rEqL X.K C sp E) := by
  intro pins s σ H x y v u Q I rx ry ⟨a, dx, fs, t, ex, ea, ty, hn, h⟩
  subst ex
  cases (show v = .ref a from rx)
  obtain ⟨od, J, _⟩ := ins_at I ea
  obtain ⟨m, hF⟩ := I.fr
  obtain ⟨P, Z, p, _⟩ := kit_of I ry ty
  exact PySem.W.cmp_K (op := .Eq) (tb := t) hr.units0 hF I.ok.mod.kin J (Z.ty _ _ I.kIn p) hn D.at_ D.fn (wpAny_mono (run_sub ⟨hr, rfl⟩ F hb hx I (.cons (rRef a) (.cons ry .nil)) h) (fun w' s' ⟨z, H', I', rz, q⟩ => back_rel rz ⟨z, H', I', rz, q⟩) fun _ _ e => e)
/-- x != y, by the class's __eq__ -/
def rNeL (K : PySem.W.Frag) (C : Addr) (sp : Sp) (E : XK) : R2 := fun x y H Q => ∃ a dx fs t, x = .ref a ∧ H a = some (.ins C dx fs) ∧ TyX K H y t ∧ PySem.W.notFirst K C t = true ∧ sp [.ref a, y] H (fun z H' => ∃ r, z = .bl r ∧ Q (.bl (!r)) H') E
structure NeOf (K : PySem.W.Frag) (C : Addr) : Prop where
  ne : PySem.W.findIn K (.ref C) "__ne__" = some (some (.builtin "object.__ne__"))
  ob : PySem.W.subIn K (.ref C) (.type "object") = some true
theorem op_neL (D : Dun X.K C "__eq__" f) (N : NeOf X.K C) (F : FnOk X.prog X.w X.K X.mg X.base CX k f fd ps sp) (hr : Room (k + 1) X.A) (hb : Binds X.K fd ps []) (hx : Passes CX X E) : OpR X (compareOp .NotEq) (rNeL X.K C sp E) := by
  intro pins s σ H x y v u Q I rx ry ⟨a, dx, fs, t, ex, ea, ty, hn, h⟩
  subst ex
  cases (show v = .ref a from rx)
  obtain ⟨od, J, _⟩ := ins_at I ea
  obtain ⟨P, Z, p, _⟩ := kit_of I ry ty
  refine OW.ne_left (by have := hr.un; omega) I.kIn J (Z.ty _ _ I.kIn p) hn D.at_ D.fn N.ne N.ob (wpAny_mono (run_sub ⟨hr.in1, rfl⟩ F hb hx I (.cons (rRef a) (.cons ry .nil)) h) (fun w' s' ⟨z, H', I', rz, r, ez, q⟩ => ?_) fun _ _ e => e)
  subst ez
  cases (show w' = .bool r from rz)
  exact ⟨r, rfl, .bl (!r), H', I', rfl, q⟩
/-- a value of a built-in type, which declines when it is compared with an instance -/
inductive Odd (K : PySem.W.Frag) (H : Hp) : V → String → Prop where
  | non : Odd K H .non "NoneType"
  | bl (b : Bool) : Odd K H (.bl b) "bool"
  | int (i : Int) : Odd K H (.int i) "int"
  | str (x : Str) : Odd K H (.str x) "str"
  | lst {a : Addr} {xs : List V} (e : H a = some (.lst xs)) : Odd K H (.ref a) "list"
  | tup {a : Addr} {xs : List V} (e : H a = some (.tup xs)) : Odd K H (.ref a) "tuple"
  | dK {a : Addr} {kvs : List (Key × V)} (e : H a = some (.dK kvs)) : Odd K H (.ref a) "dict"
theorem Odd.ty {K : PySem.W.Frag} {x : V} {T : String} (o : Odd K H x T) : TyX K H x (.type T) := by
  cases o with
  | non => exact .base .non
  | bl b => exact .base (.bl b)
  | int i => exact .base (.int i)
  | str y => exact .base (.str y)
  | lst e => exact .base (.lst e)
  | tup e => exact .base (.tup e)
  | dK e => exact .base (.dK e)
/-- y == x, y such a value -/
def rEqR (K : PySem.W.Frag) (C : Addr) (sp : Sp) (E : XK) : R2 := fun x y H Q => ∃ a dx fs T, y = .ref a ∧ H a = some (.ins C dx fs) ∧ Odd K H x T ∧ PySem.W.subIn K (.ref C) (.type T) = some false ∧ sp [.ref a, x] H Q E
theorem op_eqR (D : Dun X.K C "__eq__" f) (F : FnOk X.prog X.w X.K X.mg X.base CX k f fd ps sp) (hr : Room k X.A) (hb : Binds X.K fd ps []) (hx : Passes CX X E) : OpR X (compareOp .Eq) (rEqR X.K C sp E) := by
  intro pins s σ H x y v u Q I rx ry ⟨a, dx, fs, T, ey, ea, od', hs, h⟩
  subst ey
  cases (show u = .ref a from ry)
  obtain ⟨od, J, O⟩ := ins_at I ea
  have fin : wpAny (model X.prog X.w) X.A (call (.ref f) [.ref a, v]) (PySem.W.CmpBack (EP X pins σ Q)) X.xe s :=
    wpAny_mono (run_sub ⟨hr, rfl⟩ F hb hx I (.cons (rRef a) (.cons rx .nil)) h) (fun w' s' ⟨z, H', I', rz, q⟩ => back_rel rz ⟨z, H', I', rz, q⟩) fun _ _ e => e
  show wpAny (model X.prog X.w) X.A (richCompare .Eq v (.ref a)) (EP X pins σ Q) X.xe s
  cases od' with
  | non =>
    cases (show v = .none from rx)
    exact OW.eq_right hr.units0 I.kIn J rfl hs PySem.F.slot_NoneType_eq (fun Q' q' => call_gives PySem.F.slot_NoneType_eq rfl PySem.F.entry_NoneType_eq (PySem.F.args_NoneType_eq_2 _ _) (PySem.SeqAt.NoneType___eq___none_ref_0 a) q') D.at_ D.fn fin
  | bl b =>
    cases (show v = .bool b from rx)
    exact OW.eq_right hr.units0 I.kIn J rfl hs PySem.F.slot_bool_eq (fun Q' q' => call_meets PySem.F.slot_bool_eq rfl PySem.F.entry_int_eq (PySem.F.args_int_eq_2 _ _) (OW.bool_eq_no (C := C) (dx := dx) b) ⟨O, q'⟩) D.at_ D.fn fin
  | int i =>
    obtain ⟨t, rfl⟩ := (show ∃ t, v = Value.int i t from rx)
    exact OW.eq_right hr.units0 I.kIn J (typeIs_int s i t) hs PySem.F.slot_int_eq (fun Q' q' => call_meets PySem.F.slot_int_eq (typeIs_int s i t) PySem.F.entry_int_eq (PySem.F.args_int_eq_2 _ _) (OW.int_eq_no (C := C) (dx := dx) i t) ⟨O, q'⟩) D.at_ D.fn fin
  | str z =>
    obtain ⟨t, rfl⟩ := (show ∃ t, v = Value.str z t from rx)
    exact OW.eq_right hr.units0 I.kIn J (typeIs_str s z t) hs PySem.F.slot_str_eq (fun Q' q' => call_meets PySem.F.slot_str_eq (typeIs_str s z t) PySem.F.entry_str_eq (PySem.F.args_str_eq_2 _ _) (OW.str_eq_no (C := C) (dx := dx) z t) ⟨O, q'⟩) D.at_ D.fn fin
  | @lst l xs e =>
    cases (show v = .ref l from rx)
    obtain ⟨z, its, n, r, e1⟩ := I.hok l _ e
    exact OW.eq_right hr.units0 I.kIn J ⟨_, e1, rfl⟩ hs PySem.F.slot_list_eq (fun Q' q' => call_meets PySem.F.slot_list_eq ⟨_, e1, rfl⟩ PySem.F.entry_list_eq (PySem.F.args_list_eq_2 _ _) (OW.list_eq_no hs _ _ _ _) ⟨e1, I.kIn, O, q'⟩) D.at_ D.fn fin
  | @tup l xs e =>
    cases (show v = .ref l from rx)
    obtain ⟨_, its, _, o, h1, h2, n, h3⟩ := (show ObjOk X.prog X.w H s.heap l (.tup xs) from I.hok l _ e)
    obtain ⟨cls, dd, data, sl⟩ := o
    simp only at h2 h3
    subst h2 h3
    exact OW.eq_right hr.units0 I.kIn J ⟨_, h1, rfl⟩ hs PySem.F.slot_tuple_eq (fun Q' q' => call_meets PySem.F.slot_tuple_eq ⟨_, h1, rfl⟩ PySem.F.entry_tuple_eq (PySem.F.args_tuple_eq_2 _ _) (OW.tuple_eq_no hs _ _ _ _) ⟨h1, I.kIn, O, q'⟩) D.at_ D.fn fin
  | @dK l kvs e =>
    cases (show v = .ref l from rx)
    obtain ⟨_, _, vs, _, o, es, ep, h1, h2, _⟩ := (show ObjOk X.prog X.w H s.heap l (.dK kvs) from I.hok l _ e)
    have hT : s.TypeIs (.ref l) "dict" := ⟨_, h1, h2.1⟩
    exact OW.eq_right hr.units0 I.kIn J hT hs PySem.F.slot_dict_eq (fun Q' q' => OW.dict_eq_no hT I.kIn J hs q') D.at_ D.fn fin
/-- i != x, i an integer -/
def rNeR (C : Addr) (sp : Sp) (E : XK) : R2 := fun x y H Q => ∃ a dx fs i, y = .ref a ∧ H a = some (.ins C dx fs) ∧ x = .int i ∧ sp [.ref a, .int i] H (fun z H' => ∃ r, z = .bl r ∧ Q (.bl (!r)) H') E
theorem op_neR (D : Dun X.K C "__eq__" f) (N : NeOf X.K C) (hs : PySem.W.subIn X.K (.ref C) (.type "int") = some false) (F : FnOk X.prog X.w X.K X.mg X.base CX k f fd ps sp) (hr : Room (k + 1) X.A) (hb : Binds X.K fd ps []) (hx : Passes CX X E) :
    OpR X (compareOp .NotEq) (rNeR C sp E) := by
  intro pins s σ H x y v u Q I rx ry ⟨a, dx, fs, i, ey, ea, ex, h⟩
  subst ex ey
  cases (show u = .ref a from ry)
  obtain ⟨t, rfl⟩ := (show ∃ t, v = Value.int i t from rx)
  obtain ⟨od, J, O⟩ := ins_at I ea
  refine OW.ne_right (by have := hr.un; omega) I.kIn J (typeIs_int s i t) hs PySem.F.slot_int_ne (fun Q' q' => call_meets PySem.F.slot_int_ne (typeIs_int s i t) PySem.F.entry_int_ne (PySem.F.args_int_ne_2 _ _) (OW.int_ne_no (C := C) (dx := dx) i t) ⟨O, q'⟩) D.at_ D.fn N.ne N.ob
    (wpAny_mono (run_sub ⟨hr.in1, rfl⟩ F hb hx I (.cons (rRef a) (.cons (rInt i t) .nil)) h) (fun w' s' ⟨z, H', I', rz, r, ez, q⟩ => ?_) fun _ _ e => e)
  subst ez
  cases (show w' = .bool r from rz)
  exact ⟨r, rfl, .bl (!r), H', I', rfl, q⟩
theorem op_neLK {K : PySem.W.Frag} (hK : X.K = K) (D : Dun K C "__eq__" f) (N : NeOf K C) (F : FnOk X.prog X.w K X.mg X.base CX k f fd ps sp) (hr : Room (k + 1) X.A) (hb : Binds K fd ps []) (hx : Passes CX X E) : OpR X (compareOp .NotEq) (rNeL K C sp E) := by
  subst hK
  exact op_neL D N F hr hb hx
theorem op_eqLK {K : PySem.W.Frag} (hK : X.K = K) (D : Dun K C "__eq__" f) (F : FnOk X.prog X.w K X.mg X.base CX k f fd ps sp) (hr : Room k X.A) (hb : Binds K fd ps []) (hx : Passes CX X E) : OpR X (compareOp .Eq) (rEqL K C sp E) := by
  subst hK
  exact op_eqL D F hr hb hx
theorem op_eqRK {K : PySem.W.Frag} (hK : X.K = K) (D : Dun K C "__eq__" f) (F : FnOk X.prog X.w K X.mg X.base CX k f fd ps sp) (hr : Room k X.A) (hb : Binds K fd ps []) (hx : Passes CX X E) : OpR X (compareOp .Eq) (rEqR K C sp E) := by
  subst hK
  exact op_eqR D F hr hb hx
end
end L2
set_option Elab.async false
set_option linter.all false
set_option maxRecDepth 100000
set_option maxHeartbeats 4000000
namespace FR
open PySem PySem.Spec PyProof.Rows L2
section
variable {P : Program} {w : World} {K : PySem.W.Frag} {mg : Str → Option Value} {base : Heap} {C fI pT gT pB gB : Addr} {fdI fdT fdB : FuncData}
/-- what the text says of a built-in type beside the class -/
structure OddC (K : PySem.W.Frag) (C : Addr) (T : String) : Prop where
  k : PySem.W.kitOne K (.type T) (.ref C) = some false
  s : PySem.W.subIn K (.ref C) (.type T) = some false
  n : PySem.W.notFirst K C (.type T) = true
structure OddsC (K : PySem.W.Frag) (C : Addr) : Prop where
  non : OddC K C "NoneType"
  bl : OddC K C "bool"
  int : OddC K C "int"
  str : OddC K C "str"
  lst : OddC K C "list"
  tup : OddC K C "tuple"
  dK : OddC K C "dict"
theorem OddsC.of {H : Hp} (o : OddsC K C) {x : V} {T : String} (h : Odd K H x T) : OddC K C T := by
  cases h with
  | non => exact o.non
  | bl b => exact o.bl
  | int i => exact o.int
  | str y => exact o.str
  | lst e => exact o.lst
  | tup e => exact o.tup
  | dK e => exact o.dK
/-- a fraction, or a value of a built-in type; and whether a fraction t / b is equal to it -/
def Oth (K : PySem.W.Frag) (C : Addr) (H : Hp) (v : V) (t b : Int) (r : Bool) : Prop :=
  (∃ q t' b', v = .ref q ∧ FrAt C H q t' b' ∧ r = decide (t = t' ∧ b = b')) ∨ (∃ i, v = .int i ∧ r = decide (b = 1 ∧ t = i)) ∨ (∃ T, Odd K H v T ∧ T ≠ "int" ∧ r = false)
def spEq (K : PySem.W.Frag) (C : Addr) : Sp := fun vs H Q _ => ∃ (p : Addr) (v : V) (t b : Int) (r : Bool), vs = [.ref p, v] ∧ FrAt C H p t b ∧ Oth K C H v t b r ∧ Q (.bl r) H
abbrev sEq : Stmt := inClass sFrac 11
theorem scEq : FnScope ["self", "other"] ["self", "other"] (defScope sEq) := ⟨rfl, rfl, rfl, by decide +kernel, rfl, by decide +kernel, by decide +kernel⟩
theorem odd_plain {H : Hp} {v : V} {T : String} (o : Odd K H v T) (hT : T ≠ "int") : ∃ b1 b2, PySem.W.kitOne K (.type T) (.type "int") = some b1 ∧ PySem.W.kitOne K (.type T) (.type "bool") = some b2 ∧ (b1 && !b2) = false := by
  cases o with
  | non => exact ⟨false, false, kit_ty (by decide +kernel), kit_ty (by decide +kernel), rfl⟩
  | bl b => exact ⟨true, true, kit_ty (by decide +kernel), kit_ty (by decide +kernel), rfl⟩
  | int i => exact absurd rfl hT
  | str y => exact ⟨false, false, kit_ty (by decide +kernel), kit_ty (by decide +kernel), rfl⟩
  | lst e => exact ⟨false, false, kit_ty (by decide +kernel), kit_ty (by decide +kernel), rfl⟩
  | tup e => exact ⟨false, false, kit_ty (by decide +kernel), kit_ty (by decide +kernel), rfl⟩
  | dK e => exact ⟨false, false, kit_ty (by decide +kernel), kit_ty (by decide +kernel), rfl⟩
theorem dec_and {p q : Prop} [Decidable p] [Decidable q] : decide (p ∧ q) = (decide p && decide q) := by
  by_cases h : p <;> by_cases g : q <;> simp [h, g]
theorem dec_int (i j : Int) : decide (V.int i = V.int j) = decide (i = j) := by
  by_cases h : i = j
  · subst h; simp
  · rw [decide_eq_false h, decide_eq_false fun z => h (V.int.inj z)]
theorem ok_eq {f fP : Addr} {fd fdP : FuncData} (F : Fun K "__eq__" "Fraction.__eq__" sEq f fd) (k : FrK P w K mg base C fI pT gT pB gB fdI fdT fdB) (o : OddsC K C) (GP : FnOk P w K mg base CX0 1 fP fdP ["value"] (spPlain K)) (mP : mg "is_plain_integer" = some (.ref fP))
    (kP : PySem.W.keepIn K (.ref fP) = true) (bP : Binds K fdP ["value"] []) : FnOk P w K mg base CX0 3 f fd ["self", "other"] (spEq K C) := by
  refine F.ok scEq (fun vs H Q E h => ?_) (fun cdv A outer s H vs Q E hr h => ?_)
  · obtain ⟨p, v, t, b, r, rfl, _⟩ := h
    rfl
  · obtain ⟨p, v, t, b, r, rfl, ⟨dp, hp⟩, hv, q⟩ := h
    refine ⟨_, pss_cons (ps_if (pt_val (pe_callB call_isi (by rfl) k.is PyProof.Rows.boot_isinstance (pa_cons (pv 1) (pa_cons (pe_glob (v := .ref C) (by rfl) k.T.mC rfl) pa_nil))))
        (pss_one (ps_ret (pe_and (pe_cmpR op_eq (pe_prop (pv 0) k.T.cl k.oT k.GT (hr.mono (by decide)) k.bT .nil pass0 rfl) (pe_prop (pv 1) k.T.cl k.oT k.GT (hr.mono (by decide)) k.bT .nil pass0 rfl) (nomark _))
          (pe_one (pe_cmpR op_eq (pe_prop (pv 0) k.T.cl k.oB k.GB (hr.mono (by decide)) k.bB .nil pass0 rfl) (pe_prop (pv 1) k.T.cl k.oB k.GB (hr.mono (by decide)) k.bB .nil pass0 rfl) (nomark _)))))) pss_nil)
      (pss_one (ps_ret (pe_and (pe_call GP (hr.mono (by decide)) (by rfl) mP kP bP .nil pass0 (pa_cons (pv 1) pa_nil)) (pe_and (pe_cmpR op_eq (pe_prop (pv 0) k.T.cl k.oB k.GB (hr.mono (by decide)) k.bB .nil pass0 rfl) pe_int (nomark _))
          (pe_one (pe_cmpR op_eq (pe_prop (pv 0) k.T.cl k.oT k.GT (hr.mono (by decide)) k.bT .nil pass0 rfl) (pv 1) (nomark _))))))), ?_⟩
    rcases hv with ⟨q', t', b', rfl, ⟨dq, hq⟩, rfl⟩ | ⟨i, rfl, rfl⟩ | ⟨T, od, hT, rfl⟩
    · refine ⟨_, rfl, _, _, _, _, true, rfl, .own _, .base (.ins hq k.T.cl k.ha k.hn k.tk k.hm), kit_self K C, _, rfl, ?_⟩
      refine ⟨_, rfl, p, dp, _, rfl, hp, p, dp, _, _, rfl, hp, fl_top _ _, _, rfl, q', dq, _, rfl, hq, q', dq, _, _, rfl, hq, fl_top _ _, rfl, _, rfl, ?_⟩
      rw [dec_and] at q
      refine ite2 (fun z => ?_) (fun z => ?_)
      · rw [dec_int] at z
        rw [z, Bool.true_and] at q
        refine ⟨_, rfl, p, dp, _, rfl, hp, p, dp, _, _, rfl, hp, fl_bot _ _, _, rfl, q', dq, _, rfl, hq, q', dq, _, _, rfl, hq, fl_bot _ _, rfl, ?_⟩
        rw [dec_int]
        exact q
      · rw [dec_int] at z
        rw [Bool.eq_false_iff.mpr z, Bool.false_and] at q
        exact q
    · refine ⟨_, rfl, _, _, _, _, false, rfl, .own _, .base (.int i), o.int.k, _, rfl, iteF ?_⟩
      refine ⟨_, rfl, _, _, true, false, rfl, .base (.int i), kI1, kI2, _, rfl, ?_⟩
      refine ⟨_, rfl, p, dp, _, rfl, hp, p, dp, _, _, rfl, hp, fl_bot _ _, rfl, _, rfl, ?_⟩
      rw [dec_and] at q
      refine ite2 (fun z => ?_) (fun z => ?_)
      · rw [dec_int] at z
        rw [z, Bool.true_and] at q
        refine ⟨_, rfl, p, dp, _, rfl, hp, p, dp, _, _, rfl, hp, fl_top _ _, _, rfl, rfl, ?_⟩
        rw [dec_int]
        exact q
      · rw [dec_int] at z
        rw [Bool.eq_false_iff.mpr z, Bool.false_and] at q
        exact q
    · obtain ⟨b1, b2, e1, e2, e3⟩ := odd_plain (K := K) od hT
      refine ⟨_, rfl, _, _, _, _, false, rfl, .own _, od.ty, (o.of od).k, _, rfl, iteF ?_⟩
      refine ⟨_, rfl, _, _, b1, b2, rfl, od.ty, e1, e2, _, rfl, ?_⟩
      rw [e3]
      exact q
end
end FR
set_option Elab.async false
set_option linter.all false
set_option maxRecDepth 100000
set_option maxHeartbeats 4000000
namespace FR
open PySem PySem.Spec PyProof.Rows L2
section
variable {P : Program} {w : World} {K : PySem.W.Frag} {mg : Str → Option Value} {base : Heap} {C fI pT gT pB gB : Addr} {fdI fdT fdB : FuncData}
/-! ### is_fraction -/
abbrev sIsF : Stmt := top 19
theorem scIsF : FnScope ["value"] ["value"] (defScope sIsF) := ⟨rfl, rfl, rfl, by decide +kernel, rfl, by decide +kernel, by decide +kernel⟩
/-- whether it is a fraction -/
def IsFr (K : PySem.W.Frag) (C : Addr) (H : Hp) (v : V) (r : Bool) : Prop := (∃ q t b, v = .ref q ∧ FrAt C H q t b ∧ r = true) ∨ (∃ i, v = .int i ∧ r = true) ∨ (∃ T, Odd K H v T ∧ T ≠ "int" ∧ r = false)
def spIsF (K : PySem.W.Frag) (C : Addr) : Sp := fun vs H Q _ => ∃ v r, vs = [v] ∧ IsFr K C H v r ∧ Q (.bl r) H
theorem ok_isF {f fP : Addr} {fd fdP : FuncData} (F : Fun K "is_fraction" "is_fraction" sIsF f fd) (k : FrK P w K mg base C fI pT gT pB gB fdI fdT fdB) (o : OddsC K C) (GP : FnOk P w K mg base CX0 1 fP fdP ["value"] (spPlain K)) (mP : mg "is_plain_integer" = some (.ref fP))
    (kP : PySem.W.keepIn K (.ref fP) = true) (bP : Binds K fdP ["value"] []) : FnOk P w K mg base CX0 2 f fd ["value"] (spIsF K C) := by
  refine F.ok scIsF (fun vs H Q E h => ?_) (fun cdv A outer s H vs Q E hr h => ?_)
  · obtain ⟨v, r, rfl, _⟩ := h
    rfl
  · obtain ⟨v, r, rfl, hv, q⟩ := h
    refine ⟨_, pss_one (ps_ret (pe_or (pe_callB call_isi (by rfl) k.is PyProof.Rows.boot_isinstance (pa_cons (pv 0) (pa_cons (pe_glob (v := .ref C) (by rfl) k.T.mC rfl) pa_nil)))
      (pe_one (pe_call GP hr (by rfl) mP kP bP .nil pass0 (pa_cons (pv 0) pa_nil))))), ?_⟩
    rcases hv with ⟨p, t, b, rfl, ⟨dx, hp⟩, rfl⟩ | ⟨i, rfl, rfl⟩ | ⟨T, od, hT, rfl⟩
    · exact ⟨_, rfl, _, _, _, _, true, rfl, .own _, .base (.ins hp k.T.cl k.ha k.hn k.tk k.hm), kit_self K C, _, rfl, q⟩
    · exact ⟨_, rfl, _, _, _, _, false, rfl, .own _, .base (.int i), o.int.k, _, rfl, _, rfl, _, _, true, false, rfl, .base (.int i), kI1, kI2, q⟩
    · obtain ⟨b1, b2, e1, e2, e3⟩ := odd_plain (K := K) od hT
      refine ⟨_, rfl, _, _, _, _, false, rfl, .own _, od.ty, (o.of od).k, _, rfl, _, rfl, _, _, b1, b2, rfl, od.ty, e1, e2, ?_⟩
      rw [e3]
      exact q
end
end FR
set_option Elab.async false
set_option linter.all false
namespace FR
/-! ### the least form, as mathematics -/
theorem dv_dvd_t {t b : Int} (h : b ≠ 0) : dv t b ∣ t := by
  have z : ((Nat.gcd t.natAbs b.natAbs : Nat) : Int) ∣ t := Int.ofNat_dvd_left.mpr (Nat.gcd_dvd_left _ _)
  unfold dv
  split
  · exact Int.neg_dvd.mpr z
  · exact z
theorem dv_dvd_b {t b : Int} (h : b ≠ 0) : dv t b ∣ b := by
  have z : ((Nat.gcd t.natAbs b.natAbs : Nat) : Int) ∣ b := Int.ofNat_dvd_left.mpr (Nat.gcd_dvd_right _ _)
  unfold dv
  split
  · exact Int.neg_dvd.mpr z
  · exact z
theorem nT_mul {t b : Int} (h : b ≠ 0) : nT t b * dv t b = t := Int.fdiv_mul_cancel (dv_dvd_t h)
theorem nB_mul {t b : Int} (h : b ≠ 0) : nB t b * dv t b = b := Int.fdiv_mul_cancel (dv_dvd_b h)
theorem dv_sign {t b : Int} (h : b ≠ 0) : (0 < b → 0 < dv t b) ∧ (b < 0 → dv t b < 0) := by
  have z : 0 < Nat.gcd t.natAbs b.natAbs := Nat.gcd_pos_of_pos_right _ (by omega)
  unfold dv
  constructor
  · intro q
    rw [if_neg (by omega)]
    omega
  · intro q
    rw [if_pos q]
    omega
theorem nB_pos {t b : Int} (h : b ≠ 0) : 0 < nB t b := by
  have e := nB_mul (t := t) h
  obtain ⟨s1, s2⟩ := dv_sign (t := t) h
  rcases Int.lt_or_gt_of_ne h with q | q
  · have d := s2 q
    refine Int.not_le.mp fun c => ?_
    have := Int.mul_nonneg_of_nonpos_of_nonpos c (Int.le_of_lt d)
    omega
  · have d := s1 q
    refine Int.not_le.mp fun c => ?_
    have := Int.mul_nonpos_of_nonpos_of_nonneg c (Int.le_of_lt d)
    omega
/-- two forms of a fraction with bottoms above 0 and no common divisor are the same -/
theorem nT_le {t b : Int} (h : b ≠ 0) : (nT t b).natAbs ≤ t.natAbs := by
  have e := congrArg Int.natAbs (nT_mul (t := t) h)
  rw [Int.natAbs_mul] at e
  have z : 0 < (dv t b).natAbs := Int.natAbs_pos.mpr (dv_ne h)
  rw [← e]
  exact Nat.le_mul_of_pos_right _ z
theorem nB_le {t b : Int} (h : b ≠ 0) : (nB t b).natAbs ≤ b.natAbs := by
  have e := congrArg Int.natAbs (nB_mul (t := t) h)
  rw [Int.natAbs_mul] at e
  have z : 0 < (dv t b).natAbs := Int.natAbs_pos.mpr (dv_ne h)
  rw [← e]
  exact Nat.le_mul_of_pos_right _ z
theorem dv_scale {t b k : Int} (hk : 0 < k) : dv (k * t) (k * b) = k * dv t b := by
  have g : Nat.gcd (k * t).natAbs (k * b).natAbs = k.natAbs * Nat.gcd t.natAbs b.natAbs := by
    rw [Int.natAbs_mul, Int.natAbs_mul, Nat.gcd_mul_left]
  have kk : ((k.natAbs : Nat) : Int) = k := by omega
  have hb : k * b < 0 ↔ b < 0 := by
    constructor
    · intro q
      refine Int.not_le.mp fun c => ?_
      have := Int.mul_nonneg (Int.le_of_lt hk) c
      omega
    · intro q
      exact Int.mul_neg_of_pos_of_neg hk q
  unfold dv
  rw [g, Int.natCast_mul, kk]
  by_cases q : b < 0
  · rw [if_pos q, if_pos (hb.mpr q), Int.mul_neg]
  · rw [if_neg q, if_neg fun z => q (hb.mp z)]
theorem nT_scale {t b k : Int} (hk : 0 < k) : nT (k * t) (k * b) = nT t b := by
  unfold nT
  rw [dv_scale hk]
  exact Int.mul_fdiv_mul_of_pos _ _ hk
theorem nB_scale {t b k : Int} (hk : 0 < k) : nB (k * t) (k * b) = nB t b := by
  unfold nB
  rw [dv_scale hk]
  exact Int.mul_fdiv_mul_of_pos _ _ hk
theorem dv_neg {t b : Int} (h : b ≠ 0) : dv (-t) (-b) = -dv t b := by
  unfold dv
  rw [Int.natAbs_neg, Int.natAbs_neg]
  by_cases q : b < 0
  · rw [if_pos q, if_neg (by omega), Int.neg_neg]
  · rw [if_neg q, if_pos (by omega)]
theorem nT_neg {t b : Int} (h : b ≠ 0) : nT (-t) (-b) = nT t b := by
  unfold nT
  rw [dv_neg h, Int.neg_fdiv_neg]
theorem nB_neg {t b : Int} (h : b ≠ 0) : nB (-t) (-b) = nB t b := by
  unfold nB
  rw [dv_neg h, Int.neg_fdiv_neg]
theorem n_gcd {t b : Int} (h : b ≠ 0) : Nat.gcd (nT t b).natAbs (nB t b).natAbs = 1 := by
  have e1 := congrArg Int.natAbs (nT_mul (t := t) h)
  have e2 := congrArg Int.natAbs (nB_mul (t := t) h)
  rw [Int.natAbs_mul] at e1 e2
  have ed : (dv t b).natAbs = Nat.gcd t.natAbs b.natAbs := by
    unfold dv
    split <;> omega
  have g : Nat.gcd t.natAbs b.natAbs = Nat.gcd (nT t b).natAbs (nB t b).natAbs * (dv t b).natAbs := by
    rw [← Nat.gcd_mul_right, e1, e2]
  have z : 0 < (dv t b).natAbs := Int.natAbs_pos.mpr (dv_ne h)
  rw [ed] at g z
  exact Nat.eq_of_mul_eq_mul_right z (by rw [Nat.one_mul]; exact g.symm)
theorem dv_n {t b : Int} (h : b ≠ 0) : dv (nT t b) (nB t b) = 1 := by
  have p := nB_pos (t := t) h
  unfold dv
  rw [if_neg (by omega), n_gcd h]
  rfl
theorem nT_n {t b : Int} (h : b ≠ 0) : nT (nT t b) (nB t b) = nT t b := by
  show (nT t b).fdiv (dv (nT t b) (nB t b)) = _
  rw [dv_n h, Int.fdiv_one]
theorem nB_n {t b : Int} (h : b ≠ 0) : nB (nT t b) (nB t b) = nB t b := by
  show (nB t b).fdiv (dv (nT t b) (nB t b)) = _
  rw [dv_n h, Int.fdiv_one]
theorem n_int {t b n : Int} (h : b ≠ 0) : (nB t b = 1 ∧ nT t b = n) ↔ n * b = t := by
  constructor
  · rintro ⟨e1, e2⟩
    have m1 := nT_mul (t := t) h
    have m2 := nB_mul (t := t) h
    rw [e2] at m1
    rw [e1, Int.one_mul] at m2
    rw [m2] at m1
    exact m1
  · intro e
    have d : dv t b = b := by
      have hn : Nat.gcd t.natAbs b.natAbs = b.natAbs := by
        rw [← e, Int.natAbs_mul]
        exact Nat.gcd_mul_left_left _ _
      unfold dv
      rw [hn]
      split <;> omega
    unfold nB nT
    rw [d]
    refine ⟨Int.fdiv_self h, ?_⟩
    rw [← e, Int.mul_fdiv_cancel _ h]
end FR
set_option Elab.async false
set_option linter.all false
namespace FR
/-! ### pairs in least form -/
def Lf (t b : Int) : Prop := 0 < b ∧ Nat.gcd t.natAbs b.natAbs = 1
theorem Lf.dv1 {t b : Int} (h : Lf t b) : dv t b = 1 := by
  unfold dv
  rw [if_neg (by have := h.1; omega), h.2]
  rfl
theorem Lf.nT {t b : Int} (h : Lf t b) : nT t b = t := by
  unfold FR.nT
  rw [h.dv1, Int.fdiv_one]
theorem Lf.nB {t b : Int} (h : Lf t b) : nB t b = b := by
  unfold FR.nB
  rw [h.dv1, Int.fdiv_one]
theorem Lf.ne {t b : Int} (h : Lf t b) : b ≠ 0 := by have := h.1; omega
theorem lf_n {t b : Int} (h : b ≠ 0) : Lf (nT t b) (nB t b) := ⟨nB_pos h, n_gcd h⟩
theorem Lf.neg {t b : Int} (h : Lf t b) : Lf (-t) b := ⟨h.1, by rw [Int.natAbs_neg]; exact h.2⟩
theorem Lf.one (t : Int) : Lf t 1 := ⟨by decide, Nat.gcd_one_right _⟩
/-- forms of one fraction have one least form -/
theorem n_mul {t b k : Int} (hb : b ≠ 0) (hk : k ≠ 0) : nT (k * t) (k * b) = nT t b ∧ nB (k * t) (k * b) = nB t b := by
  rcases Int.lt_or_gt_of_ne hk with q | q
  · have e1 : k * t = -((-k) * t) := by rw [Int.neg_mul, Int.neg_neg]
    have e2 : k * b = -((-k) * b) := by rw [Int.neg_mul, Int.neg_neg]
    have n0 : -k * b ≠ 0 := Int.mul_ne_zero (by omega) hb
    rw [e1, e2, nT_neg n0, nB_neg n0, nT_scale (by omega), nB_scale (by omega)]
    exact ⟨rfl, rfl⟩
  · rw [nT_scale q, nB_scale q]
    exact ⟨rfl, rfl⟩
theorem n_cross {t b t' b' : Int} (hb : b ≠ 0) (hb' : b' ≠ 0) (h : t * b' = t' * b) : nT t b = nT t' b' ∧ nB t b = nB t' b' := by
  obtain ⟨a1, a2⟩ := n_mul (t := t) hb hb'
  obtain ⟨c1, c2⟩ := n_mul (t := t') hb' hb
  have e1 : b' * t = b * t' := by rw [Int.mul_comm, h, Int.mul_comm]
  have e2 : b' * b = b * b' := Int.mul_comm _ _
  rw [e1, e2] at a1 a2
  exact ⟨a1.symm.trans c1, a2.symm.trans c2⟩
/-- the least form, by its cross -/
theorem n_back {t b : Int} (hb : b ≠ 0) : nT t b * b = t * nB t b := by
  have e1 := nT_mul (t := t) hb
  have e2 := nB_mul (t := t) hb
  generalize nT t b = x at *
  generalize nB t b = y at *
  generalize dv t b = d at *
  subst e1
  rw [← e2, Int.mul_comm y d, ← Int.mul_assoc]
abbrev PI := Int × Int
def plusP (a c : PI) : PI := (nT (a.1 * c.2 + c.1 * a.2) (a.2 * c.2), nB (a.1 * c.2 + c.1 * a.2) (a.2 * c.2))
def sumP (ps : List PI) : PI := ps.foldl plusP (0, 1)
def lc (a b : Int) : Int := ((Nat.lcm a.natAbs b.natAbs : Nat) : Int)
def lcmP (ps : List PI) : Int := ps.foldl (fun a p => lc a p.2) 1
def topsP (ps : List PI) (m : Int) : List Int := ps.map fun p => p.1 * m.fdiv p.2
def AllLf (ps : List PI) : Prop := ∀ p ∈ ps, Lf p.1 p.2
theorem take_snoc {α : Type} {l : List α} {i : Nat} {x : α} (h : l[i]? = some x) : l.take (i + 1) = l.take i ++ [x] := by
  rw [List.take_add_one, h]
  rfl
theorem lc_dvd (a b : Int) : a ∣ lc a b ∧ b ∣ lc a b := ⟨Int.natAbs_dvd.mp (Int.ofNat_dvd.mpr (Nat.dvd_lcm_left _ _)), Int.natAbs_dvd.mp (Int.ofNat_dvd.mpr (Nat.dvd_lcm_right _ _))⟩
theorem lc_pos {a b : Int} (h : 0 < a) (g : 0 < b) : 0 < lc a b := by
  have z : 0 < Nat.lcm a.natAbs b.natAbs := Nat.lcm_pos (by omega) (by omega)
  unfold lc
  omega
theorem lc_le {a b : Int} {n m : Nat} (h : 0 < a) (g : 0 < b) (ha : a.natAbs < 2 ^ n) (hb : b.natAbs < 2 ^ m) : (lc a b).natAbs < 2 ^ (n + m) := by
  show Nat.lcm _ _ < _
  rw [Nat.pow_add]
  refine Nat.lt_of_le_of_lt (Nat.le_of_dvd (Nat.mul_pos (by omega) (by omega)) (Nat.lcm_dvd_mul _ _)) (Nat.mul_lt_mul'' ha hb)
theorem lcmP_snoc (ps : List PI) (p : PI) : lcmP (ps ++ [p]) = lc (lcmP ps) p.2 := by
  unfold lcmP
  rw [List.foldl_append]
  rfl
theorem sumP_snoc (ps : List PI) (p : PI) : sumP (ps ++ [p]) = plusP (sumP ps) p := by
  unfold sumP
  rw [List.foldl_append]
  rfl
theorem snoc_ind {α : Type} {Q : List α → Prop} (h0 : Q []) (h : ∀ l x, Q l → Q (l ++ [x])) (l : List α) : Q l := by
  have z : ∀ n (l : List α), l.length = n → Q l := by
    intro n
    induction n with
    | zero =>
      intro l e
      rw [List.length_eq_zero_iff.mp e]
      exact h0
    | succ n ih =>
      intro l e
      have e1 : l ≠ [] := by rintro rfl; exact absurd e (by simp)
      rw [← List.dropLast_concat_getLast e1]
      exact h _ _ (ih _ (by rw [List.length_dropLast, e]; rfl))
  exact z _ l rfl
theorem AllLf.init {ps : List PI} {p : PI} (h : AllLf (ps ++ [p])) : AllLf ps ∧ Lf p.1 p.2 :=
  ⟨fun q m => h q (List.mem_append_left _ m), h p (List.mem_append_right _ (List.mem_singleton.mpr rfl))⟩
theorem lcmP_pos {ps : List PI} (h : AllLf ps) : 0 < lcmP ps := by
  induction ps using snoc_ind with
  | h0 => decide
  | h l x ih =>
    rw [lcmP_snoc]
    exact lc_pos (ih h.init.1) h.init.2.1
theorem lcmP_dvd (ps : List PI) : ∀ p ∈ ps, p.2 ∣ lcmP ps := by
  induction ps using snoc_ind with
  | h0 => exact fun p m => absurd m (by simp)
  | h l x ih =>
    intro p m
    rw [lcmP_snoc]
    rcases List.mem_append.mp m with m | m
    · exact Int.dvd_trans (ih p m) (lc_dvd _ _).1
    · rw [List.mem_singleton.mp m]
      exact (lc_dvd _ _).2
theorem fdiv_mul {m b : Int} (h : b ∣ m) : m.fdiv b * b = m := Int.fdiv_mul_cancel h
theorem fdiv_le {m b : Int} (h : b ∣ m) (hb : 0 < b) : (m.fdiv b).natAbs ≤ m.natAbs := by
  have e := congrArg Int.natAbs (fdiv_mul h)
  rw [Int.natAbs_mul] at e
  rw [← e]
  exact Nat.le_mul_of_pos_right _ (by omega)
theorem sumP_lf {ps : List PI} (h : AllLf ps) : Lf (sumP ps).1 (sumP ps).2 := by
  induction ps using snoc_ind with
  | h0 => exact Lf.one 0
  | h l x ih =>
    rw [sumP_snoc]
    exact lf_n (Int.mul_ne_zero (ih h.init.1).ne h.init.2.ne)
/-- the sum of the tops over any bottom that serves, against the sum of the pairs -/
theorem sum_cross {ps : List PI} (h : AllLf ps) {m : Int} (hm : ∀ p ∈ ps, p.2 ∣ m) : (topsP ps m).sum * (sumP ps).2 = (sumP ps).1 * m := by
  induction ps using snoc_ind with
  | h0 => simp [topsP, sumP]
  | h l x ih =>
    have i1 := ih h.init.1 fun p k => hm p (List.mem_append_left _ k)
    have l0 := sumP_lf h.init.1
    have lx := h.init.2
    have dx := fdiv_mul (hm x (List.mem_append_right _ (List.mem_singleton.mpr rfl)))
    have nb := n_back (t := (sumP l).1 * x.2 + x.1 * (sumP l).2) (Int.mul_ne_zero l0.ne lx.ne)
    have hb := Int.mul_ne_zero l0.ne lx.ne
    have e1 : (topsP (l ++ [x]) m).sum = (topsP l m).sum + x.1 * m.fdiv x.2 := by
      unfold topsP
      rw [List.map_append, List.sum_append]
      simp
    rw [sumP_snoc, e1]
    show (_ + _) * nB _ _ = nT _ _ * m
    refine Int.eq_of_mul_eq_mul_right hb ?_
    generalize nT ((sumP l).1 * x.2 + x.1 * (sumP l).2) ((sumP l).2 * x.2) = N at *
    generalize nB ((sumP l).1 * x.2 + x.1 * (sumP l).2) ((sumP l).2 * x.2) = B at *
    generalize (sumP l).1 = s at *
    generalize (sumP l).2 = u at *
    generalize x.1 = p at *
    generalize x.2 = q at *
    generalize m.fdiv q = d at *
    generalize (topsP l m).sum = T at *
    have a1 : N * m * (u * q) = N * (u * q) * m := by ac_rfl
    have a2 : (T + p * d) * B * (u * q) = ((T * u) * q + (p * u) * (d * q)) * B := by
      rw [Int.add_mul, Int.add_mul, Int.add_mul]
      ac_rfl
    rw [a1, a2, nb, i1, dx]
    rw [Int.add_mul, Int.add_mul, Int.add_mul]
    ac_rfl
theorem total_is {ps : List PI} (h : AllLf ps) : nT (topsP ps (lcmP ps)).sum (lcmP ps) = (sumP ps).1 ∧ nB (topsP ps (lcmP ps)).sum (lcmP ps) = (sumP ps).2 := by
  have l := sumP_lf h
  have c := n_cross (t := (topsP ps (lcmP ps)).sum) (b := lcmP ps) (t' := (sumP ps).1) (b' := (sumP ps).2) (by have := lcmP_pos h; omega) l.ne (sum_cross h (lcmP_dvd ps))
  rw [l.nT, l.nB] at c
  exact c
/-! ### the least and the greatest one -/
def lessP (a c : PI) : Bool := decide (a.1 * c.2 < c.1 * a.2)
def leastP (a c : PI) : PI := if lessP c a then c else a
def mostP (a c : PI) : PI := if lessP a c then c else a
def fDown (t b n : Int) : Int := (t * n).fdiv b
def fUp (t b n : Int) : Int := if fDown t b n * b = t * n then fDown t b n else fDown t b n + 1
theorem up_is {t b n : Int} (hb : 0 < b) : -((-t * n).fdiv b) = fUp t b n := by
  have e : -t * n = -(t * n) := Int.neg_mul _ _
  unfold fUp fDown
  rw [e]
  generalize t * n = x
  rw [Int.fdiv_eq_ediv_of_nonneg _ (Int.le_of_lt hb), Int.fdiv_eq_ediv_of_nonneg _ (Int.le_of_lt hb)]
  have d := Int.mul_ediv_add_emod x b
  have m0 := Int.emod_nonneg x (by omega : b ≠ 0)
  have m1 := Int.emod_lt_of_pos x hb
  rw [Int.mul_comm] at d
  generalize x / b = q at *
  by_cases z : q * b = x
  · rw [if_pos z, ← z, ← Int.neg_mul, Int.mul_ediv_cancel _ (by omega), Int.neg_neg]
  · rw [if_neg z]
    have s : -x = (b - x % b) + (-(q + 1)) * b := by
      rw [Int.neg_mul, Int.add_mul, Int.one_mul]
      omega
    rw [s, Int.add_mul_ediv_right _ _ (by omega), Int.ediv_eq_zero_of_lt (by omega) (by omega)]
    omega
end FR
set_option Elab.async false
set_option linter.all false
set_option maxRecDepth 100000
set_option maxHeartbeats 4000000
namespace FR
open PySem PySem.Spec PyProof.Rows L2
/-! ### math.lcm -/
def rLcm : List V → Hp → VK → Prop := fun vs H Q => ∃ a b : Int, vs = [.int a, .int b] ∧ 0 < a ∧ 0 < b ∧ a.natAbs < 2 ^ 3000 ∧ b.natAbs < 2 ^ 3000 ∧ Q (.int (lc a b)) H
theorem cr_lcm {X : Cx} : CallR X (.builtin "math.lcm") rLcm := by
  intro pins s σ H vs us Q I r h
  obtain ⟨a, b, rfl, pa, pb, za, zb, q⟩ := h
  obtain ⟨t, u, rfl⟩ := Vals.int2 r
  have h1 : (max 1 a.natAbs).log2 < 3000 := PySem.Flt.log2_lt_of (by decide) (Nat.max_lt.mpr ⟨by decide +kernel, za⟩)
  have h2 : (max a.natAbs b.natAbs).log2 < 3000 := PySem.Flt.log2_lt_of (by decide) (Nat.max_lt.mpr ⟨za, zb⟩)
  have e : (Nat.lcm 1 a.natAbs).lcm b.natAbs = Nat.lcm a.natAbs b.natAbs := by rw [Nat.lcm_one_left]
  have g := PySem.W.mg_run_lcm a t b u (by omega) (by omega) (by
    rw [e]
    have : (lc a b).natAbs.log2 < 6000 := PySem.Flt.log2_lt_of (by decide) (lc_le pa pb za zb)
    show (lc a b).natAbs.log2 < bitsLine
    rw [bitsLine_eq]
    omega)
  rw [e] at g
  exact call_function_meets PySem.W.MGF.kind_lcm PySem.W.MGF.plain_lcm PySem.W.MGF.entry_lcm (PySem.W.MGF.args_lcm _ _) g.meets ⟨.int _, H, I.tok _, ⟨_, rfl⟩, q⟩
/-! ### lists of values that stand for pairs -/
def A2 (R : V → PI → Prop) (vs : List V) (ps : List PI) : Prop := vs.length = ps.length ∧ ∀ (i : Nat) (v : V), vs[i]? = some v → ∃ p : PI, ps[i]? = some p ∧ R v p
theorem A2.nil {R : V → PI → Prop} : A2 R [] [] := ⟨rfl, fun i v h => by simp at h⟩
theorem A2.cons {R : V → PI → Prop} {v : V} {p : PI} {vs : List V} {ps : List PI} (r : R v p) (h : A2 R vs ps) : A2 R (v :: vs) (p :: ps) := by
  refine ⟨by simp [h.1], fun i x hx => ?_⟩
  cases i with
  | zero => exact ⟨p, rfl, by cases hx; exact r⟩
  | succ i => exact h.2 i x hx
theorem A2.uncons {R : V → PI → Prop} {v : V} {p : PI} {vs : List V} {ps : List PI} (h : A2 R (v :: vs) (p :: ps)) : R v p ∧ A2 R vs ps := by
  refine ⟨?_, by simpa using h.1, fun i x hx => h.2 (i + 1) x hx⟩
  obtain ⟨q, e, r⟩ := h.2 0 v rfl
  cases e
  exact r
theorem A2.snoc {R : V → PI → Prop} {v : V} {p : PI} : ∀ {vs : List V} {ps : List PI}, A2 R vs ps → R v p → A2 R (vs ++ [v]) (ps ++ [p])
  | [], [], _, r => A2.cons r A2.nil
  | _ :: _, _ :: _, h, r => A2.cons h.uncons.1 (A2.snoc h.uncons.2 r)
  | [], _ :: _, h, _ => absurd h.1 (by simp)
  | _ :: _, [], h, _ => absurd h.1 (by simp)
theorem A2.imp {R R' : V → PI → Prop} {vs : List V} {ps : List PI} (h : A2 R vs ps) (f : ∀ v p, R v p → R' v p) : A2 R' vs ps := ⟨h.1, fun i v e => by
  obtain ⟨p, e', r⟩ := h.2 i v e
  exact ⟨p, e', f v p r⟩⟩
/-- a fraction, as an object -/
def FR1 (C : Addr) (H : Hp) (v : V) (p : PI) : Prop := ∃ q, v = .ref q ∧ FrAt C H q p.1 p.2
/-- a pair of integers, as a tuple -/
def TP1 (H : Hp) (v : V) (p : PI) : Prop := ∃ q, v = .ref q ∧ H q = some (.tup [.int p.1, .int p.2])
abbrev FVs (C : Addr) (H : Hp) (vs : List V) (ps : List PI) : Prop := A2 (fun v p => FV C H v p.1 p.2) vs ps
abbrev FRs (C : Addr) (H : Hp) (vs : List V) (ps : List PI) : Prop := A2 (FR1 C H) vs ps
abbrev TPs (H : Hp) (vs : List V) (ps : List PI) : Prop := A2 (TP1 H) vs ps
theorem FrAt.updl {C : Addr} {H : Hp} {p D : Addr} {t b : Int} {xs : List V} {o : HO} (h : FrAt C H p t b) (hD : H D = some (.lst xs)) : FrAt C (upd H D o) p t b := by
  obtain ⟨dx, e⟩ := h
  exact ⟨dx, by rw [upd_ne fun z => by rw [z, hD] at e; cases e]; exact e⟩
theorem tup_updl {H : Hp} {p D : Addr} {ys xs : List V} {o : HO} (h : H p = some (.tup ys)) (hD : H D = some (.lst xs)) : upd H D o p = some (.tup ys) := by
  rw [upd_ne fun z => by rw [z, hD] at h; cases h]
  exact h
theorem FRs.updl {C : Addr} {H : Hp} {D : Addr} {xs : List V} {o : HO} {vs : List V} {ps : List PI} (h : FRs C H vs ps) (hD : H D = some (.lst xs)) : FRs C (upd H D o) vs ps :=
  A2.imp h fun _ _ ⟨q, e, f⟩ => ⟨q, e, f.updl hD⟩
theorem TPs.updl {H : Hp} {D : Addr} {xs : List V} {o : HO} {vs : List V} {ps : List PI} (h : TPs H vs ps) (hD : H D = some (.lst xs)) : TPs (upd H D o) vs ps :=
  A2.imp h fun _ _ ⟨q, e, f⟩ => ⟨q, e, tup_updl f hD⟩
theorem FRs.same {C : Addr} {H H' : Hp} {vs : List V} {ps : List PI} (h : FRs C H vs ps) (s : Same H H') : FRs C H' vs ps := A2.imp h fun _ _ ⟨q, e, f⟩ => ⟨q, e, f.same s⟩
theorem FVs.same {C : Addr} {H H' : Hp} {vs : List V} {ps : List PI} (h : FVs C H vs ps) (s : Same H H') : FVs C H' vs ps := A2.imp h fun _ _ f => f.same s
theorem TPs.same {H H' : Hp} {vs : List V} {ps : List PI} (h : TPs H vs ps) (s : Same H H') : TPs H' vs ps := A2.imp h fun _ _ ⟨q, e, f⟩ => ⟨q, e, s _ _ f⟩
theorem same_grow {H H' : Hp} {D : Addr} {o : HO} (hD : H D = none) (s : Same H H') : Same H (upd H' D o) := fun q o' e => by
  rw [upd_ne (ne_of_none e hD)]
  exact s _ _ e
theorem same_new {H : Hp} {p : Addr} {o : HO} (h : H p = none) : Same H (upd H p o) := fun q o' e => by rw [upd_ne (ne_of_none e h)]; exact e
/-! ### is_at_least, is_fractions -/
section
variable {P : Program} {w : World} {K : PySem.W.Frag} {mg : Str → Option Value} {base : Heap} {C fI pT gT pB gB : Addr} {fdI fdT fdB : FuncData}
abbrev sFs : Stmt := top 21
abbrev NFs : List Str := ["value", "one"]
theorem scFs : FnScope NFs ["value"] (defScope sFs) := ⟨rfl, rfl, rfl, by decide +kernel, rfl, by decide +kernel, by decide +kernel⟩
/-- short, and so is the least bottom that all can have -/
def Shr (ps : List PI) : Prop := (lcmP ps).natAbs < 2 ^ 2401 ∧ ∀ p ∈ ps, p.1.natAbs < 2 ^ 2400 ∧ p.2.natAbs < 2 ^ 2400
/-- a tuple of fractions, few and short -/
structure Tf (C : Addr) (H : Hp) (tp : Addr) (ps : List PI) : Prop where
  at_ : ∃ xs, H tp = some (.tup xs) ∧ FVs C H xs ps
  few : ps.length ≤ 80
  lf : AllLf ps
  sz : Shr ps
theorem Tf.same {H H' : Hp} {tp : Addr} {ps : List PI} (t : Tf C H tp ps) (s : Same H H') : Tf C H' tp ps := by
  obtain ⟨⟨xs, h, f⟩, a, b, c⟩ := t
  exact ⟨⟨xs, s _ _ h, f.same s⟩, a, b, c⟩
def spFs (C : Addr) : Sp := fun vs H Q _ => ∃ (tp : Addr) (ps : List PI), vs = [.ref tp] ∧ Tf C H tp ps ∧ ∀ H', Same H H' → Q (.bl true) H'
theorem ok_fs {f fF : Addr} {fd fdF : FuncData} (F : Fun K "is_fractions" "is_fractions" sFs f fd) (GF : FnOk P w K mg base CX0 2 fF fdF ["value"] (spIsF K C)) (mF : mg "is_fraction" = some (.ref fF))
    (kF : PySem.W.keepIn K (.ref fF) = true) (bF : Binds K fdF ["value"] []) (m1 : mg "isinstance" = none) (m2 : mg "tuple" = none) (m3 : mg "all" = none) : FnOk P w K mg base CX0 3 f fd ["value"] (spFs C) := by
  refine F.ok scFs (fun vs H Q E h => ?_) (fun cdv A outer s H vs Q E hr h => ?_)
  · obtain ⟨tp, ps, rfl, _⟩ := h
    rfl
  · obtain ⟨tp, ps, rfl, ⟨⟨xs, hx, hf⟩, hn, _, _⟩, q⟩ := h
    refine ⟨_, pss_one (ps_ret (pe_and (pe_callB call_isi (by rfl) m1 PyProof.Rows.boot_isinstance (pa_cons (pv 0) (pa_cons (pe_bltn (v := .ty "tuple") (by rfl) m2 (by decide +kernel) rfl) pa_nil)))
      (pe_one (pe_callB (cr_all rfl) (by rfl) m3 (by decide +kernel) (pa_cons (pe_lc (own := [("one", 1)]) (g := gName 1) (tt := tYes) rfl scFs.nd (pi_tup (pv 0)) (blkOk_by (N := NFs) (sc := defScope sFs) (by decide +kernel))
        (fun _ _ _ _ _ => pg_name (i := 1) scFs.nd rfl (.inl rfl)) (fun _ _ _ _ _ => pts_nil) (fun _ _ _ _ _ => pe_call GF hr (by rfl) mF kF bF .nil pass0 (pa_cons (pv 1) pa_nil))) pa_nil))))), ?_⟩
    refine ⟨_, rfl, _, _, _, _, true, rfl, .ty _, .base (.tup hx), kit_ty (by decide +kernel), _, rfl, ?_⟩
    refine ⟨_, rfl, tp, rfl, ⟨_, SqT.of hx⟩, fun D hD => ?_⟩
    refine lc_tup (xs := xs) (fun i Hc => Same H Hc ∧ Hc D = some (.lst ((List.replicate i true).map V.bl))) ⟨same_new hD, upd_same⟩ (fun i Hc _ p => SqT.of (p.1 _ _ hx)) ?_ ?_
    · rintro i v Hc hv ⟨sm, hDc⟩
      obtain ⟨p, hp, fv⟩ := hf.2 i v hv
      have hi : i < ps.length := (List.getElem?_eq_some_iff.mp hp).1
      have isf : IsFr K C Hc v true := by
        rcases fv.same sm with ⟨q', e, z⟩ | ⟨e, _⟩
        · exact .inl ⟨q', _, _, e, z, rfl⟩
        · exact .inr (.inl ⟨_, e, rfl⟩)
      refine ⟨rfl, _, rfl, v, true, rfl, isf, _, hDc, small1000 (by rw [List.length_map, List.length_replicate]; omega), same_grow hD sm, ?_⟩
      rw [List.replicate_succ', List.map_append]
      exact upd_same
    · rintro Hc ⟨sm, hDc⟩
      refine ⟨D, _, rfl, SqL.of hDc, ?_⟩
      have e : (List.replicate xs.length true).all id = true := by simp
      rw [e]
      exact q _ sm
end
end FR
set_option Elab.async false
set_option linter.all false
set_option maxRecDepth 100000
set_option maxHeartbeats 4000000
namespace FR
open PySem PySem.Spec PyProof.Rows L2
section
variable {P : Program} {w : World} {K : PySem.W.Frag} {mg : Str → Option Value} {base : Heap} {C fI pT gT pB gB : Addr} {fdI fdT fdB : FuncData}
/-! ### over_one_bottom -/
theorem pow_up {x : Int} {n m : Nat} (h : x.natAbs < 2 ^ n) (g : n ≤ m) : x.natAbs < 2 ^ m := Nat.lt_of_lt_of_le h (Nat.pow_le_pow_right (by decide) g)
theorem lcmP_sz {ps : List PI} (h : AllLf ps) (hs : ∀ p ∈ ps, p.1.natAbs < 2 ^ 30 ∧ p.2.natAbs < 2 ^ 30) : (lcmP ps).natAbs < 2 ^ (30 * ps.length + 1) := by
  induction ps using snoc_ind with
  | h0 => decide
  | h l x ih =>
    rw [lcmP_snoc]
    have i1 := ih h.init.1 fun p m => hs p (List.mem_append_left _ m)
    have z := lc_le (lcmP_pos h.init.1) h.init.2.1 i1 (hs x (List.mem_append_right _ (List.mem_singleton.mpr rfl))).2
    refine pow_up z ?_
    rw [List.length_append, List.length_singleton]
    omega
theorem lcm_step : ∀ (r : List PI) (a : Int), a ∣ r.foldl (fun a p => lc a p.2) a
  | [], a => Int.dvd_refl a
  | p :: r, a => Int.dvd_trans (lc_dvd a p.2).1 (lcm_step r (lc a p.2))
theorem lcm_take {ps : List PI} (h : AllLf ps) (i : Nat) : (lcmP (ps.take i)).natAbs ≤ (lcmP ps).natAbs := by
  have e : lcmP ps = (ps.drop i).foldl (fun a p => lc a p.2) (lcmP (ps.take i)) := by
    unfold lcmP
    rw [← List.foldl_append, List.take_append_drop]
  have d : lcmP (ps.take i) ∣ lcmP ps := by
    rw [e]
    exact lcm_step _ _
  have p := lcmP_pos h
  exact Nat.le_of_dvd (by omega) (Int.natAbs_dvd_natAbs.mpr d)
theorem Shr.of {ps : List PI} (h : AllLf ps) (few : ps.length ≤ 80) (hs : ∀ p ∈ ps, p.1.natAbs < 2 ^ 30 ∧ p.2.natAbs < 2 ^ 30) : Shr ps :=
  ⟨pow_up (lcmP_sz h hs) (by omega), fun p m => ⟨pow_up (hs p m).1 (by decide), pow_up (hs p m).2 (by decide)⟩⟩
theorem take_all {α : Type} {ps : List α} {n : Nat} (h : n = ps.length) : ps.take n = ps := by rw [h, List.take_length]
abbrev sOver : Stmt := top 22
abbrev NOv : List Str := ["fractions", "parts", "bottom", "part", "one"]
theorem scOv : FnScope NOv ["fractions"] (defScope sOver) := ⟨rfl, rfl, rfl, by decide +kernel, rfl, by decide +kernel, by decide +kernel⟩
def spOver (C : Addr) : Sp := fun vs H Q _ => ∃ (tp : Addr) (ps : List PI), vs = [.ref tp] ∧ Tf C H tp ps ∧
  ∀ a b H', H' a = some (.lst ((topsP ps (lcmP ps)).map V.int)) → H' b = some (.tup [.ref a, .int (lcmP ps)]) → Same H H' → H a = none → Q (.ref b) H'
theorem ok_over {f fA : Addr} {fd fdA : FuncData} (F : Fun K "over_one_bottom" "over_one_bottom" sOver f fd) (k : FrK P w K mg base C fI pT gT pB gB fdI fdT fdB) (GA : FnOk P w K mg base CX0 4 fA fdA ["value"] (spAs C)) (mA : mg "as_fraction" = some (.ref fA))
    (kA : PySem.W.keepIn K (.ref fA) = true) (bA : Binds K fdA ["value"] []) (mL : mg "lcm" = some (.builtin "math.lcm")) : FnOk P w K mg base CX0 5 f fd ["fractions"] (spOver C) := by
  refine F.ok scOv (fun vs H Q E h => ?_) (fun cdv A outer s H vs Q E hr h => ?_)
  · obtain ⟨tp, ps, rfl, _⟩ := h
    rfl
  · obtain ⟨tp, ps, rfl, ⟨⟨xs, hx, hf⟩, hn, hl, hz⟩, q⟩ := h
    have hr4 := hr.mono (j := 4) (by decide)
    have hr2 := hr.mono (j := 2) (by decide)
    refine ⟨_, pss_cons (ps_setLc (i := 1) (own := [("one", 4)]) (g := gName 4) (tt := tYes) rfl scOv.nd rfl rfl (sw_true rfl rfl rfl (by decide +kernel)) (pi_tup (pv 0)) (blkOk_by (N := NOv) (sc := defScope sOver) (by decide +kernel))
        (fun _ _ _ _ _ => pg_name (i := 4) scOv.nd rfl (.inl rfl)) (fun _ _ _ _ _ => pts_nil) (fun _ _ _ _ _ => pe_call GA hr4 (by rfl) mA kA bA .nil pass0 (pa_cons (pv 4) pa_nil)))
      (pss_cons (ps_set (i := 2) scOv.nd rfl (Or.inr rfl) pe_int)
      (pss_cons (ps_for PassesOwn.never rfl (pi_list (pv 1)) (pg_name (i := 3) scOv.nd rfl (.inl rfl))
        (pss_one (ps_set (i := 2) scOv.nd rfl (Or.inr rfl) (pe_callBfun cr_lcm (by rfl) mL (pa_cons (pv 2) (pa_cons (pe_prop (pv 3) k.T.cl k.oB k.GB hr2 k.bB .nil pass0 rfl) pa_nil))))))
      (pss_one (ps_ret (pe_tup (pa_cons (pe_lc (own := [("part", 3)]) (g := gName 3) (tt := tYes) rfl scOv.nd (pi_list (pv 1)) (blkOk_by (N := NOv) (sc := defScope sOver) (by decide +kernel))
          (fun _ _ _ _ _ => pg_name (i := 3) scOv.nd rfl (.inl rfl)) (fun _ _ _ _ _ => pts_nil)
          (fun _ _ _ _ _ => pe_op op_mulW (pe_prop (pv 3) k.T.cl k.oT k.GT hr2 k.bT .nil pass0 rfl) (pe_op op_fdivX (pv 2) (pe_prop (pv 3) k.T.cl k.oB k.GB hr2 k.bB .nil pass0 rfl)))) (pa_cons (pv 2) pa_nil))))))), ?_⟩
    refine ⟨_, rfl, tp, rfl, ⟨_, SqT.of hx⟩, fun D hD => ?_⟩
    refine lc_tup (xs := xs) (fun i Hc => Same H Hc ∧ ∃ vs, Hc D = some (.lst vs) ∧ FRs C Hc vs (ps.take i)) ⟨same_new hD, [], upd_same, A2.nil⟩ (fun i Hc _ p => SqT.of (p.1 _ _ hx)) ?_ ?_
    · rintro i v Hc hv ⟨sm, vs, hDc, hr'⟩
      obtain ⟨p, hp, fv⟩ := hf.2 i v hv
      have hi : i < ps.length := (List.getElem?_eq_some_iff.mp hp).1
      refine ⟨rfl, _, rfl, v, p.1, p.2, rfl, fv.same sm, fun y H2 hy s2 => ?_⟩
      refine ⟨vs, s2 _ _ hDc, small1000 (by rw [hr'.1, List.length_take]; omega), same_grow hD (sm.trans s2), vs ++ [.ref y], upd_same, ?_⟩
      rw [take_snoc hp]
      exact A2.snoc ((hr'.same s2).updl (s2 _ _ hDc)) ⟨y, rfl, hy.updl (s2 _ _ hDc)⟩
    rintro H1 ⟨s1, vs, hD1, hv⟩
    rw [hf.1, List.take_length] at hv
    refine ⟨_, rfl, D, rfl, ⟨_, SqL.of hD1⟩, ?_⟩
    have few : vs.length ≤ 80 := by rw [hv.1]; exact hn
    refine for_list (xs := vs) (fun i σ Hc => Hc = H1 ∧ ∃ x3 : Option V, σ = [some (.ref tp), some (.ref D), some (.int (lcmP (ps.take i))), x3, none]) ⟨rfl, none, rfl⟩ (fun i σ Hc _ p => by rw [p.1]; exact SqL.of hD1) ?_ ?_
    · rintro i v σ Hc hvi ⟨rfl, x3, rfl⟩
      obtain ⟨p, hp, y, rfl, hy⟩ := hv.2 i v hvi
      obtain ⟨dy, hyi⟩ := id hy
      have mp : p ∈ ps := List.mem_of_getElem? hp
      have sub : ∀ q ∈ ps.take i, q ∈ ps := fun q hq => List.mem_of_mem_take hq
      have l1 : AllLf (ps.take i) := fun q hq => hl q (sub q hq)
      have z1 := Nat.lt_of_le_of_lt (lcm_take hl i) hz.1
      have i5 : (ps.take i).length ≤ 80 := by rw [List.length_take]; omega
      refine ⟨_, rfl, _, rfl, y, dy, _, rfl, hyi, y, dy, _, _, rfl, hyi, fl_bot _ _, _, _, rfl, lcmP_pos l1, (hl p mp).1, pow_up z1 (by decide), pow_up (hz.2 p mp).2 (by decide), rfl, some (.ref y), ?_⟩
      rw [take_snoc hp, lcmP_snoc]
      rfl
    rintro σ Hc ⟨rfl, x3, rfl⟩
    rw [take_all hv.1]
    refine ⟨_, rfl, D, rfl, ⟨_, SqL.of hD1⟩, fun D2 hD2 => ?_⟩
    have mz := hz.1
    refine lc_list (xs := vs) (fun i Hx => Same Hc Hx ∧ Hx D2 = some (.lst ((topsP (ps.take i) (lcmP ps)).map V.int))) ⟨same_new hD2, upd_same⟩ (fun i Hx _ p => SqL.of (p.1 _ _ hD1)) ?_ ?_
    · rintro i v Hx hvi ⟨sm, hDx⟩
      obtain ⟨p, hp, y, rfl, hy⟩ := (hv.same sm).2 i v hvi
      obtain ⟨dy, hyi⟩ := id hy
      have mp : p ∈ ps := List.mem_of_getElem? hp
      have hi : i < ps.length := (List.getElem?_eq_some_iff.mp hp).1
      have dz := fdiv_le (lcmP_dvd ps p mp) (hl p mp).1
      refine ⟨rfl, _, rfl, y, dy, _, rfl, hyi, y, dy, _, _, rfl, hyi, fl_top _ _, ?_⟩
      refine ⟨_, rfl, _, rfl, y, dy, _, rfl, hyi, y, dy, _, _, rfl, hyi, fl_bot _ _, _, _, rfl, rfl, div_ok (hl p mp).ne (hz.2 p mp).2 (by decide) (by decide), _, _, rfl, rfl, wide_mul (hz.2 p mp).1 (Nat.lt_of_le_of_lt dz mz) (by decide) (by decide) (by decide), ?_⟩
      refine ⟨_, hDx, small1000 (by unfold topsP; rw [List.length_map, List.length_map, List.length_take]; omega), same_grow hD2 sm, ?_⟩
      unfold topsP
      rw [take_snoc hp, List.map_append, List.map_append]
      exact upd_same
    rintro Hx ⟨sm, hDx⟩
    rw [take_all hv.1] at hDx
    refine ⟨_, rfl, small1000 (by show 1 ≤ 1000; decide), fun b hb => ?_⟩
    exact q D2 b _ (same_new hb _ _ hDx) upd_same ((s1.trans sm).trans (same_new hb)) (Same.free s1 hD2)
end
end FR
set_option Elab.async false
set_option linter.all false
set_option maxRecDepth 100000
set_option maxHeartbeats 4000000
/-! lists of integers, lists of such lists; walks over two lists -/
namespace FR
open PySem PySem.Spec PyProof.Rows L2 RF
def retE : Stmt → Expr
  | .Return (some e) _ => e
  | _ => .Constant .none 0 ⟨0, 0, 0, 0⟩
/-- a block's scope within a def -/
def relS (sc fs : Scope) : Scope := { sc with names := sc.names.map fun (n, k) => if (k == .free && fs.kind == .function && fs.names.lookup n == some .cell) then (n, .cell) else (n, k) }
def lcEl : Expr → Expr
  | .ListComp e _ _ _ => e
  | e => e
def lcSc : Expr → Scope
  | .ListComp _ _ sc _ => sc
  | _ => defScope (.Pass ⟨0, 0, 0, 0⟩)
/-! rules whose reading names K apart, for blocks within blocks -/
theorem pi_zipK {X : Cx} {K : PySem.W.Frag} {e e2 : Expr} {ta : TA} {p pos tpos : Pos} {elts : List Expr} {kk : Nat} (hK : X.K = K) (hg : Gl X "zip") (hm : X.mg "zip" = none) (ha : PA X [e, e2] ta)
    (hs : starEach [e, e2] X.env = (false, eval e X.env) :: starEach [e2] X.env := by rfl) (hpl : (backTo pos (starEach [e2] X.env)).any (·.1) = false := by rfl) :
    L2.PI X (.Tuple elts kk tpos) (.Call (.Name "zip" p) [e, e2] [] pos) (iZip K ta) := by
  subst hK
  exact pi_zip hg hm ha hs hpl
theorem ix_listK {X : Cx} {K : PySem.W.Frag} (hK : X.K = K) : IxR X (rIxL K) := by
  subst hK
  exact ix_list
theorem pg_tupK {X : Cx} {K : PySem.W.Frag} {es : List Expr} {k : Nat} {pos : Pos} {t : TGs} {n : Nat} (hK : X.K = K) (hc : X.calm = true) (h : PGs X es t)
    (hn : (assignEach es X.env).length = n := by rfl) (hst : (assignEach es X.env).findIdx? (·.1) = none := by rfl) : PG X (.Tuple es k pos) (gTup K n t) := by
  subst hK
  exact pg_tup hc h hn hst
/-- a list of integers -/
def IL (H : Hp) (v : V) (r : List Int) : Prop := ∃ q, v = .ref q ∧ H q = some (.lst (r.map V.int))
theorem IL.same {H H' : Hp} {v : V} {r : List Int} (h : IL H v r) (s : Same H H') : IL H' v r := by
  obtain ⟨q, e, z⟩ := h
  exact ⟨q, e, s _ _ z⟩
/-- item by item -/
def AG {α : Type} (R : V → α → Prop) (vs : List V) (as : List α) : Prop := vs.length = as.length ∧ ∀ (i : Nat) (v : V), vs[i]? = some v → ∃ p : α, as[i]? = some p ∧ R v p
theorem AG.nil {α : Type} {R : V → α → Prop} : AG R [] [] := ⟨rfl, fun i v h => by simp at h⟩
theorem AG.snoc {α : Type} {R : V → α → Prop} {v : V} {p : α} {vs : List V} {ps : List α} (h : AG R vs ps) (r : R v p) : AG R (vs ++ [v]) (ps ++ [p]) := by
  refine ⟨by rw [List.length_append, List.length_append, h.1]; rfl, fun i w e => ?_⟩
  by_cases z : i < vs.length
  · rw [List.getElem?_append_left z] at e
    obtain ⟨q, hq, hr⟩ := h.2 i w e
    exact ⟨q, by rw [List.getElem?_append_left (by rw [← h.1]; exact z)]; exact hq, hr⟩
  · rw [List.getElem?_append_right (by omega)] at e
    have e0 : i = vs.length := by
      have := (List.getElem?_eq_some_iff.mp e).1
      rw [List.length_singleton] at this
      omega
    subst e0
    rw [Nat.sub_self] at e
    cases e
    refine ⟨p, by rw [List.getElem?_append_right (by rw [h.1]; exact Nat.le_refl _), h.1, Nat.sub_self]; rfl, r⟩
theorem AG.imp {α : Type} {R R' : V → α → Prop} {vs : List V} {ps : List α} (h : AG R vs ps) (f : ∀ v p, R v p → R' v p) : AG R' vs ps := ⟨h.1, fun i v e => by
  obtain ⟨p, hp, r⟩ := h.2 i v e
  exact ⟨p, hp, f v p r⟩⟩
theorem AG.take {α : Type} {R : V → α → Prop} {vs : List V} {ps : List α} (h : AG R vs ps) (n : Nat) : AG R (vs.take n) (ps.take n) := ⟨by rw [List.length_take, List.length_take, h.1], fun i v e => by
  rw [List.getElem?_take] at e ⊢
  split at e
  · next z => rw [if_pos z]; exact h.2 i v e
  · cases e⟩
/-- a list of lists of integers at a -/
def LM (H : Hp) (a : Addr) (rows : List (List Int)) : Prop := ∃ vs, H a = some (.lst vs) ∧ AG (IL H) vs rows
theorem LM.same {H H' : Hp} {a : Addr} {rows : List (List Int)} (h : LM H a rows) (s : Same H H') : LM H' a rows := by
  obtain ⟨vs, e, z⟩ := h
  exact ⟨vs, s _ _ e, z.imp fun _ _ x => x.same s⟩
theorem IL.updl {H : Hp} {D : Addr} {xs : List V} {o : HO} {v : V} {r : List Int} (h : IL H v r) (hD : ∀ q, v = .ref q → q ≠ D) : IL (upd H D o) v r := by
  obtain ⟨q, e, z⟩ := h
  exact ⟨q, e, by rw [upd_ne (hD q e)]; exact z⟩
/-- one that is not at D -/
def ILx (D : Addr) (H : Hp) (v : V) (r : List Int) : Prop := ∃ q, v = .ref q ∧ q ≠ D ∧ H q = some (.lst (r.map V.int))
theorem ILx.same {D : Addr} {H H' : Hp} {v : V} {r : List Int} (h : ILx D H v r) (s : Same H H') : ILx D H' v r := by
  obtain ⟨q, e, n, z⟩ := h
  exact ⟨q, e, n, s _ _ z⟩
theorem ILx.upd {D : Addr} {H : Hp} {o : HO} {v : V} {r : List Int} (h : ILx D H v r) : ILx D (upd H D o) v r := by
  obtain ⟨q, e, n, z⟩ := h
  exact ⟨q, e, n, by rw [upd_ne n]; exact z⟩
theorem ILx.il {D : Addr} {H : Hp} {v : V} {r : List Int} (h : ILx D H v r) : IL H v r := by
  obtain ⟨q, e, _, z⟩ := h
  exact ⟨q, e, z⟩
theorem same_upd {H0 H : Hp} {D : Addr} {o : HO} (hD : H0 D = none) (s : Same H0 H) : Same H0 (upd H D o) := same_grow hD s
theorem il_at {xs : List Int} {i : Nat} {v : V} (h : (xs.map V.int)[i]? = some v) : ∃ x, xs[i]? = some x ∧ v = .int x := by
  rw [List.getElem?_map] at h
  cases e : xs[i]? with
  | none => rw [e] at h; cases h
  | some x => rw [e] at h; exact ⟨x, rfl, (Option.some.inj h).symm⟩
theorem take_zw {f : Int → Int → Int} {xs ys : List Int} {i : Nat} {x y : Int} (hx : xs[i]? = some x) (hy : ys[i]? = some y) : (List.zipWith f xs ys).take (i + 1) = (List.zipWith f xs ys).take i ++ [f x y] := by
  refine take_snoc ?_
  rw [List.getElem?_zipWith, hx, hy]
/-- [e for a, b in zip(xs, ys)], integers of integers, where e leaves the heap -/
theorem lz_ints {K : PySem.W.Frag} {a b D : Addr} {xs ys : List Int} (hl : xs.length = ys.length) (hk : xs.length ≤ 900) {vs : List Nat} {σ : L2.St} {H1 : Hp} {Qd : Hp → Prop} {i1 i2 : Nat} {te : TE} (f : Int → Int → Int) (hD : H1 D = none)
    (ha : H1 a = some (.lst (xs.map V.int))) (hb : H1 b = some (.lst (ys.map V.int))) (wp : ∀ v w : V, wipe (((wipe σ vs).set i1 (some v)).set i2 (some w)) vs = wipe σ vs)
    (he : ∀ (i : Nat) (x y : Int) (H : Hp) (Q : VK), xs[i]? = some x → ys[i]? = some y → Same H1 H → Q (.int (f x y)) H → te (((wipe σ vs).set i1 (some (.int x))).set i2 (some (.int y))) H Q)
    (hd : ∀ H, Same H1 H → H D = some (.lst ((List.zipWith f xs ys).map V.int)) → Qd H) :
    ∃ Wk : Nat → Nat → Hp → Prop, (∃ m0, Wk 0 m0 (upd H1 D (.lst []))) ∧ ∀ (i0 m0 : Nat) (h0 : Hp), Wk i0 m0 h0 →
      ((Itz K a b).stop i0 h0 ∧ Qd h0) ∨ ((Itz K a b).go i0 h0 ∧ ∃ Nk : Hp → Prop, (∀ h1, Nk h1 → ∃ m1, m1 < m0 ∧ Wk (i0 + 1) m1 h1) ∧ ∀ x h2, (Itz K a b).yld i0 h0 x h2 → gTup K 2 (gCons (gName i1) (gCons (gName i2) gNil)) x (wipe σ vs) h2 fun σ2 H2 => wipe σ2 vs = wipe σ vs ∧ tYes σ2 H2 fun b H3 =>
        if b = true then te σ2 H3 fun y H4 => ∃ got, H4 D = some (.lst got) ∧ got.length < sizeLine ∧ Nk (upd H4 D (.lst (got ++ [y]))) else Nk H3) := by
  have len : (List.zipWith f xs ys).length = xs.length := by rw [List.length_zipWith]; omega
  refine lc_it (walk_zip (xs := xs.map V.int) (ys := ys.map V.int) (n := xs.length) (by rw [List.length_map, List.length_map]; omega)) (fun i H => Same H1 H ∧ H D = some (.lst (((List.zipWith f xs ys).take i).map V.int)))
    ⟨same_new hD, upd_same⟩ (fun i H _ p => ⟨SqL.of (p.1 _ _ ha), SqL.of (p.1 _ _ hb)⟩) ?_ fun H p => ?_
  · rintro i v H H' hi ⟨sm, hDc⟩ ⟨T, x, y, rfl, nT, rfl, hx, hy⟩
    obtain ⟨x, hx2, rfl⟩ := il_at hx
    obtain ⟨y, hy2, rfl⟩ := il_at hy
    clear hx hy
    have hx := hx2
    have hy := hy2
    have hDc' : upd H T (.tup [.int x, .int y]) D = some (.lst (((List.zipWith f xs ys).take i).map V.int)) := by rw [upd_ne (ne_of_none hDc nT)]; exact hDc
    have sm' : Same H1 (upd H T (.tup [.int x, .int y])) := sm.trans (same_new nT)
    refine ⟨T, _, rfl, SqT.of upd_same, rfl, _, _, rfl, _, _, rfl, rfl, wp _ _, ?_⟩
    refine he i x y _ _ hx hy sm' ⟨_, hDc', small1000 (by rw [List.length_map, List.length_take]; omega), same_upd hD sm', ?_⟩
    rw [take_zw hx hy, List.map_append]
    exact upd_same
  · obtain ⟨sm, hDc⟩ := p
    rw [List.take_of_length_le (by omega)] at hDc
    exact hd H sm hDc
/-- [e for a in xs], integers of integers, where e leaves the heap -/
theorem ll_ints {K : PySem.W.Frag} {a D : Addr} {xs : List Int} (hk : xs.length ≤ 900) {vs : List Nat} {σ : L2.St} {H1 : Hp} {Qd : Hp → Prop} {i1 : Nat} {te : TE} (f : Int → Int) (hD : H1 D = none)
    (ha : H1 a = some (.lst (xs.map V.int))) (wp : ∀ v : V, wipe ((wipe σ vs).set i1 (some v)) vs = wipe σ vs)
    (he : ∀ (i : Nat) (x : Int) (H : Hp) (Q : VK), xs[i]? = some x → Same H1 H → Q (.int (f x)) H → te ((wipe σ vs).set i1 (some (.int x))) H Q)
    (hd : ∀ H, Same H1 H → H D = some (.lst ((xs.map f).map V.int)) → Qd H) :
    ∃ Wk : Nat → Nat → Hp → Prop, (∃ m0, Wk 0 m0 (upd H1 D (.lst []))) ∧ ∀ (i0 m0 : Nat) (h0 : Hp), Wk i0 m0 h0 →
      ((Itl K a).stop i0 h0 ∧ Qd h0) ∨ ((Itl K a).go i0 h0 ∧ ∃ Nk : Hp → Prop, (∀ h1, Nk h1 → ∃ m1, m1 < m0 ∧ Wk (i0 + 1) m1 h1) ∧ ∀ x h2, (Itl K a).yld i0 h0 x h2 → gName i1 x (wipe σ vs) h2 fun σ2 H2 => wipe σ2 vs = wipe σ vs ∧ tYes σ2 H2 fun b H3 =>
        if b = true then te σ2 H3 fun y H4 => ∃ got, H4 D = some (.lst got) ∧ got.length < sizeLine ∧ Nk (upd H4 D (.lst (got ++ [y]))) else Nk H3) := by
  refine lc_list (xs := xs.map V.int) (fun i H => Same H1 H ∧ H D = some (.lst (((xs.map f).take i).map V.int)))
    ⟨same_new hD, upd_same⟩ (fun i H _ p => SqL.of (p.1 _ _ ha)) ?_ fun H p => ?_
  · rintro i v H hx ⟨sm, hDc⟩
    obtain ⟨x, hx2, rfl⟩ := il_at hx
    clear hx
    have hx := hx2
    have hi := (List.getElem?_eq_some_iff.mp hx).1
    refine ⟨wp _, ?_⟩
    refine he i x _ _ hx sm ⟨_, hDc, small1000 (by rw [List.length_map, List.length_take, List.length_map]; omega), same_upd hD sm, ?_⟩
    rw [take_snoc (x := f x) (by rw [List.getElem?_map, hx]; rfl), List.map_append]
    exact upd_same
  · obtain ⟨sm, hDc⟩ := p
    rw [List.take_of_length_le (by rw [List.length_map, List.length_map]; omega)] at hDc
    exact hd H sm hDc
section
variable {P : Program} {w : World} {K : PySem.W.Frag} {mg : Str → Option Value} {base : Heap} {C : Addr}
/-! ### cleared_by -/
theorem atI_ent {l : List Int} {q : Nat} (h : q < l.length) : atI (l.map V.int) (q : Int) = some (.int (ent l q)) := by
  exact atI_nat (by rw [List.getElem?_map, get_ent h]; rfl)
abbrev sClr : Stmt := top 8
abbrev NCl : List Str := ["rows", "line", "at", "divisor", "lead", "row", "entry", "other"]
abbrev lcClr : Scope := lcSc (retE ((defBody sClr).getD 1 (.Pass ⟨0, 0, 0, 0⟩)))
theorem scCl : FnScope NCl ["rows", "line", "at", "divisor"] (defScope sClr) := ⟨rfl, rfl, rfl, by decide +kernel, rfl, by decide +kernel, by decide +kernel⟩
/-- entries of a list are short -/
def Sh (l : List Int) (s : Nat) : Prop := ∀ j, (ent l j).natAbs < 2 ^ s
theorem Sh.get {l : List Int} {s i : Nat} {x : Int} (h : Sh l s) (e : l[i]? = some x) : x.natAbs < 2 ^ s := by
  have := h i
  rw [ent_some e] at this
  exact this
def spClr : Sp := fun vs H Q _ => ∃ (a l : Addr) (rows : List (List Int)) (line : List Int) (q : Nat) (d : Int) (n m t : Nat), vs = [.ref a, .ref l, .int q, .int d] ∧ LM H a rows ∧ H l = some (.lst (line.map V.int)) ∧ rows.length ≤ 90 ∧ (∀ r ∈ rows, r.length = n ∧ Sh r m) ∧ line.length = n ∧ Sh line t ∧ n ≤ 90 ∧ q < n ∧
  d ≠ 0 ∧ d.natAbs < 2 ^ m ∧ m ≤ 8000 ∧ t ≤ 8000 ∧ 0 < m ∧ 0 < t ∧ ∀ x H', LM H' x (clearedBy rows line q d) → Same H H' → Q (.ref x) H'
theorem ok_clr {f : Addr} {fd : FuncData} (F : Fun K "cleared_by" "cleared_by" sClr f fd) (mZ : mg "zip" = none) : FnOk P w K mg base CX0 1 f fd ["rows", "line", "at", "divisor"] spClr := by
  refine F.ok scCl (fun vs H Q E h => ?_) (fun cdv A outer s H vs Q E hr h => ?_)
  · obtain ⟨a, l, rows, line, q, d, n, m, t, rfl, _⟩ := h
    rfl
  · obtain ⟨a, l, rows, line, q, d, n, m, t, rfl, ⟨vs, ha, hv⟩, hl, few, hrow, hn, hsl, n90, hq, d0, dz, s8, t8, s0, t0, Qx⟩ := h
    refine ⟨_, pss_cons (ps_set (i := 4) scCl.nd rfl (Or.inr rfl) (pe_ix ix_list (pv 1) (pv 2) (fun _ _ => rfl)))
      (pss_one (ps_ret (pe_lc (X := (cxOf CX0 P w K mg base NCl "cleared_by" (defScope sClr) f cdv A outer s H E).nox) (own := [("row", 5)]) (g := gName 5) (tt := tYes) rfl scCl.nd (pi_list (pv 0)) (blkOk_by (N := NCl) (sc := defScope sClr) (by decide +kernel))
        (fun _ _ _ _ _ => pg_name (i := 5) scCl.nd rfl (.inr rfl)) (fun _ _ _ _ _ => pts_nil)
        (fun s0 H0 C0 cl0 fp0 => pe_lc (X := ((cxOf CX0 P w K mg base NCl "cleared_by" (defScope sClr) f cdv A outer s H E).nox).blk s0 H0 lcClr (compEnvC lcClr cl0 C0 ((cxOf CX0 P w K mg base NCl "cleared_by" (defScope sClr) f cdv A outer s H E).nox).env) fp0) (own := [("entry", 6), ("other", 7)]) (g := gTup _ 2 (gCons (gName 6) (gCons (gName 7) gNil))) (tt := tYes) rfl scCl.nd (pi_zipK (K := K) rfl (by rfl) mZ (pa_cons (pv 5) (pa_cons (pv 1) pa_nil))) (blkOk_by (N := NCl) (sc := relS lcClr (defScope sClr)) (by decide +kernel))
          (fun _ _ _ _ _ => pg_tupK (K := K) rfl rfl (pgs_cons (pg_name (i := 6) scCl.nd rfl (.inl rfl)) (pgs_cons (pg_name (i := 7) scCl.nd rfl (.inl rfl)) pgs_nil))) (fun _ _ _ _ _ => pts_nil)
          (fun _ _ _ _ _ => pe_op op_fdivX (pe_op op_sub (pe_op op_mulW (pv 6) (pv 4)) (pe_op op_mulW (pe_ix (ix_listK (K := K) rfl) (pv 5) (pv 2) (fun _ _ => rfl)) (pv 7))) (pv 3)))))), ?_⟩
    refine ⟨_, rfl, _, rfl, l, _, _, _, rfl, rfl, SqL.of hl, atI_ent (by rw [hn]; exact hq), ?_⟩
    refine ⟨_, rfl, a, rfl, ⟨_, SqL.of ha⟩, fun D hD => ?_⟩
    refine lc_list (xs := vs) (fun i Hc => Same H Hc ∧ ∃ us, Hc D = some (.lst us) ∧ AG (ILx D Hc) us ((clearedBy rows line q d).take i)) ⟨same_new hD, [], upd_same, AG.nil⟩ (fun i Hc _ p => SqL.of (p.1 _ _ ha)) ?_ ?_
    · rintro i v Hc hvi ⟨sm, us, hDc, hu⟩
      obtain ⟨r, hri, p, rfl, hp⟩ := hv.2 i v hvi
      have hi := (List.getElem?_eq_some_iff.mp hri).1
      obtain ⟨rn, rs⟩ := hrow r (List.mem_of_getElem? hri)
      have hp := sm _ _ hp
      have hl' := sm _ _ hl
      refine ⟨rfl, _, rfl, _, rfl, p, l, _, _, rfl, SqL.of hp, SqL.of hl', fun D2 hD2 => ?_⟩
      refine lz_ints (xs := r) (ys := line) (by omega) (by omega) (fun e o => (e * ent line q - ent r q * o).fdiv d) hD2 hp hl' (fun _ _ => rfl) ?_ ?_
      · intro i2 x y H2 Q2 hx hy s2 q2
        refine ⟨_, rfl, _, rfl, _, _, rfl, rfl, wide_mul (rs.get hx) (hsl q) (by omega) (by omega) (by omega), ?_⟩
        refine ⟨_, rfl, _, rfl, p, _, _, _, rfl, rfl, SqL.of (s2 _ _ hp), atI_ent (by omega), _, rfl, _, _, rfl, rfl, wide_mul (rs q) (hsl.get hy) (by omega) (by omega) (by omega), ?_⟩
        exact ⟨_, _, rfl, rfl, _, rfl, _, _, rfl, rfl, div_ok d0 dz (by omega) (by omega), q2⟩
      · intro H2 s2 hD3
        have e1 := s2 _ _ hDc
        have ne : D2 ≠ D := fun z => by rw [z, hDc] at hD2; cases hD2
        refine ⟨us, e1, small1000 (by rw [hu.1, List.length_take]; have := few; unfold clearedBy; rw [List.length_map]; omega), same_upd hD (sm.trans s2), us ++ [.ref D2], upd_same, ?_⟩
        rw [take_snoc (x := List.zipWith (fun e o => (e * ent line q - ent r q * o).fdiv d) r line) (by unfold clearedBy; rw [List.getElem?_map, hri]; rfl)]
        exact AG.snoc (hu.imp fun _ _ z => (z.same s2).upd) ⟨D2, rfl, ne, by rw [upd_ne ne]; exact hD3⟩
    · rintro Hc ⟨sm, us, hDc, hu⟩
      rw [List.take_of_length_le (by unfold clearedBy; rw [List.length_map, hv.1]; exact Nat.le_refl _)] at hu
      exact Qx D Hc ⟨us, hDc, hu.imp fun _ _ z => z.il⟩ sm
end
end FR
set_option Elab.async false
set_option linter.all false
set_option maxRecDepth 100000
set_option maxHeartbeats 4000000
/-! the class Echelon -/
namespace FR
open PySem PySem.Spec PyProof.Rows L2 RF
abbrev sEch : Stmt := top 9
abbrev sEi : Stmt := inClass sEch 0
abbrev sEr : Stmt := inClass sEch 1
abbrev sEp : Stmt := inClass sEch 2
abbrev sEt : Stmt := inClass sEch 3
structure TxtE (K : PySem.W.Frag) (mg : Str → Option Value) (D : Addr) : Prop where
  cl : Cls K D
  nW : NoAttr K D "width"
  nR : NoAttr K D "rows"
  nP : NoAttr K D "places"
  nD : NoAttr K D "divisor"
  zip : mg "zip" = none
  range : mg "range" = none
/-- what an Echelon holds -/
structure EcF (fs : List (Str × V)) (n : Nat) (a b : Addr) (d : Int) : Prop where
  w : fs.lookup ("width" : Str) = some (.int n)
  r : fs.lookup ("rows" : Str) = some (.ref a)
  p : fs.lookup ("places" : Str) = some (.ref b)
  d : fs.lookup ("divisor" : Str) = some (.int d)
  few : fs.length ≤ 900
  no : ∀ m : Str, ¬ m = "width" → ¬ m = "rows" → ¬ m = "places" → ¬ m = "divisor" → fs.lookup m = none
def Ec (D : Addr) (H : Hp) (x : Addr) (n : Nat) (rows : List (List Int)) (places : List Nat) (d : Int) : Prop :=
  ∃ dx fs a b, H x = some (.ins D dx fs) ∧ EcF fs n a b d ∧ LM H a rows ∧ H b = some (.lst (places.map fun i => V.int (i : Nat)))
theorem Ec.same {D : Addr} {H H' : Hp} {x : Addr} {n : Nat} {rows : List (List Int)} {places : List Nat} {d : Int} (h : Ec D H x n rows places d) (s : Same H H') : Ec D H' x n rows places d := by
  obtain ⟨dx, fs, a, b, h1, h2, h3, h4⟩ := h
  exact ⟨dx, fs, a, b, s _ _ h1, h2, h3.same s, s _ _ h4⟩
section
variable {P : Program} {w : World} {K : PySem.W.Frag} {mg : Str → Option Value} {base : Heap} {D : Addr}
def spEi (D : Addr) : Sp := fun vs H Q _ => ∃ (x dx : Addr) (n : Nat), vs = [.ref x, .int n] ∧ H x = some (.ins D dx []) ∧ ∀ H', Ec D H' x n [] [] 1 → (∀ q o, q ≠ x → H q = some o → H' q = some o) → Q .non H'
theorem scEi : FnScope ["self", "width"] ["self", "width"] (defScope sEi) := ⟨rfl, rfl, rfl, by decide +kernel, rfl, by decide +kernel, by decide +kernel⟩
theorem pe_fldK {X : Cx} {K : PySem.W.Frag} {e : Expr} {ta : TE} {f : Str} {pos : Pos} (hK : X.K = K) (he : PE X e ta) (hb : attributeBase e f X.env (eval e X.env) = eval e X.env) : PE X (.Attribute e f pos) (tFld K ta f) := by
  subst hK
  exact pe_fld he hb
theorem neq_of {i j : Int} (z : (!decide (V.int i = V.int j)) = true) : i ≠ j := fun e => by
  subst e
  simp at z
theorem neq_to {i j : Int} (z : i ≠ j) : (!decide (V.int i = V.int j)) = true := by
  simp
  exact z
theorem ne_fld {a b : Str} (h : ¬ a = b := by decide +kernel) : ¬ a = b := h
theorem ok_ei {f : Addr} {fd : FuncData} (F : Fun K "__init__" "Echelon.__init__" sEi f fd) (T : TxtE K mg D) : FnOk P w K mg base CX0 1 f fd ["self", "width"] (spEi D) := by
  refine F.ok scEi (fun vs H Q E h => ?_) (fun cdv A outer s H vs Q E hr h => ?_)
  · obtain ⟨x, dx, n, rfl, _⟩ := h
    rfl
  · obtain ⟨x, dx, n, rfl, hx, q⟩ := h
    refine ⟨_, pss_cons (ps_fld (pv 0) (pv 1) rfl) (pss_cons (ps_fld (pv 0) (pe_lst pa_nil) rfl) (pss_cons (ps_fld (pv 0) (pe_lst pa_nil) rfl) (pss_one (ps_fld (pv 0) pe_int rfl)))), ?_⟩
    refine ⟨_, rfl, _, rfl, x, D, dx, _, rfl, hx, T.cl, T.nW, (by show 0 < 1000; decide), ?_⟩
    refine ⟨Nat.zero_le _, fun a ha => ?_⟩
    have xa : x ≠ a := fun z => by rw [← z, upd_same] at ha; cases ha
    refine ⟨_, rfl, x, D, dx, _, rfl, by rw [upd_ne xa, upd_same], T.cl, T.nR, (by show 1 < 1000; decide), ?_⟩
    refine ⟨Nat.zero_le _, fun b hb => ?_⟩
    have xb : x ≠ b := fun z => by rw [← z, upd_same] at hb; cases hb
    have ab : a ≠ b := fun z => by rw [← z, upd_ne (Ne.symm xa), upd_same] at hb; cases hb
    refine ⟨_, rfl, x, D, dx, _, rfl, by rw [upd_ne xb, upd_same], T.cl, T.nP, (by show 2 < 1000; decide), ?_⟩
    refine ⟨_, rfl, x, D, dx, _, rfl, upd_same, T.cl, T.nD, (by show 3 < 1000; decide), ?_⟩
    refine q _ ⟨dx, _, a, b, upd_same, ⟨?_, ?_, ?_, ?_, by show 4 ≤ 900; decide, fun m h1 h2 h3 h4 => by rw [lookup_putF, if_neg h4, lookup_putF, if_neg h3, lookup_putF, if_neg h2, lookup_putF, if_neg h1]; rfl⟩, ⟨[], ?_, AG.nil⟩, ?_⟩ ?_
    · rw [lookup_putF, if_neg ne_fld, lookup_putF, if_neg ne_fld, lookup_putF, if_neg ne_fld, lookup_putF, if_pos rfl]
    · rw [lookup_putF, if_neg ne_fld, lookup_putF, if_neg ne_fld, lookup_putF, if_pos rfl]
    · rw [lookup_putF, if_neg ne_fld, lookup_putF, if_pos rfl]
    · rw [lookup_putF, if_pos rfl]
    · rw [upd_ne (Ne.symm xa), upd_ne (Ne.symm xa), upd_ne ab, upd_ne (Ne.symm xa), upd_same]
    · rw [upd_ne (Ne.symm xb), upd_ne (Ne.symm xb), upd_same]; rfl
    · intro z o hz e
      have za : z ≠ a := fun y => by rw [← y, upd_ne hz, e] at ha; cases ha
      have zb : z ≠ b := fun y => by rw [← y, upd_ne hz, upd_ne za, upd_ne hz, e] at hb; cases hb
      rw [upd_ne hz, upd_ne hz, upd_ne zb, upd_ne hz, upd_ne za, upd_ne hz]; exact e
/-! ### rest_of -/
abbrev NEr : List Str := ["self", "line", "rest", "row", "place", "factor", "entry", "other"]
theorem scEr : FnScope NEr ["self", "line"] (defScope sEr) := ⟨rfl, rfl, rfl, by decide +kernel, rfl, by decide +kernel, by decide +kernel⟩
/-- rows and places that belong together -/
structure Rws (rows : List (List Int)) (places : List Nat) (d : Int) (n m : Nat) : Prop where
  ln : rows.length = places.length
  few : rows.length ≤ 90
  row : ∀ r ∈ rows, r.length = n ∧ Sh r m
  pl : ∀ i ∈ places, i < n
  dz : d.natAbs < 2 ^ m
def spEr (D : Addr) : Sp := fun vs H Q _ => ∃ (x l : Addr) (w0 n m t : Nat) (rows : List (List Int)) (places : List Nat) (d : Int) (line : List Int), vs = [.ref x, .ref l] ∧ Ec D H x w0 rows places d ∧ H l = some (.lst (line.map V.int)) ∧ Rws rows places d n m ∧ line.length = n ∧ Sh line t ∧ n ≤ 90 ∧
  m ≤ 8000 ∧ t ≤ 8000 ∧ 0 < m ∧ 0 < t ∧ ∀ y H', H' y = some (.lst ((restL d (rows.zip places) line).map V.int)) → Same H H' → Q (.ref y) H'
theorem ok_er {f : Addr} {fd : FuncData} (F : Fun K "rest_of" "Echelon.rest_of" sEr f fd) (T : TxtE K mg D) : FnOk P w K mg base CX0 1 f fd ["self", "line"] (spEr D) := by
  refine F.ok scEr (fun vs H Q E h => ?_) (fun cdv A outer s H vs Q E hr h => ?_)
  · obtain ⟨x, l, w0, n, m, t, rows, places, d, line, rfl, _⟩ := h
    rfl
  · obtain ⟨x, l, w0, n, m, t, rows, places, d, line, rfl, ⟨dx, fs, a, b, hx, ef, ⟨vs, ha, hv⟩, hb⟩, hl, rw_, hn, hsl, n90, m8, t8, m0, t0, q⟩ := h
    refine ⟨_, pss_cons (ps_setLc (i := 2) (own := [("entry", 6)]) (g := gName 6) (tt := tYes) rfl scEr.nd rfl rfl (sw_true rfl rfl rfl (by decide +kernel)) (pi_list (pv 1)) (blkOk_by (N := NEr) (sc := defScope sEr) (by decide +kernel))
        (fun _ _ _ _ _ => pg_name (i := 6) scEr.nd rfl (.inl rfl)) (fun _ _ _ _ _ => pts_nil) (fun _ _ _ _ _ => pe_op op_mulW (pe_fldK (K := K) rfl (pv 0) rfl) (pv 6)))
      (pss_cons (ps_for PassesOwn.never rfl (pi_zip (by rfl) T.zip (pa_cons (pe_fld (pv 0) rfl) (pa_cons (pe_fld (pv 0) rfl) pa_nil))) (pg_tup rfl (pgs_cons (pg_name (i := 3) scEr.nd rfl (.inl rfl)) (pgs_cons (pg_name (i := 4) scEr.nd rfl (.inl rfl)) pgs_nil)))
        (pss_cons (ps_set (i := 5) scEr.nd rfl (Or.inr rfl) (pe_ix ix_list (pv 1) (pv 4) (fun _ _ => rfl)))
        (pss_one (ps_if (pt_cmpR op_ne (pv 5) pe_int (nomark _)) (pss_one (ps_setLc (i := 2) (own := [("entry", 6), ("other", 7)]) (g := gTup K 2 (gCons (gName 6) (gCons (gName 7) gNil))) (tt := tYes) rfl scEr.nd rfl rfl (sw_true rfl rfl rfl (by decide +kernel)) (pi_zip (by rfl) T.zip (pa_cons (pv 2) (pa_cons (pv 3) pa_nil))) (blkOk_by (N := NEr) (sc := defScope sEr) (by decide +kernel))
          (fun _ _ _ _ _ => pg_tupK (K := K) rfl rfl (pgs_cons (pg_name (i := 6) scEr.nd rfl (.inl rfl)) (pgs_cons (pg_name (i := 7) scEr.nd rfl (.inl rfl)) pgs_nil))) (fun _ _ _ _ _ => pts_nil)
          (fun _ _ _ _ _ => pe_op op_sub (pv 6) (pe_op op_mulW (pv 5) (pv 7))))) pss_nil))))
      (pss_one (ps_ret (pv 2)))), ?_⟩
    refine ⟨_, rfl, l, rfl, ⟨_, SqL.of hl⟩, fun R0 hR0 => ?_⟩
    refine ll_ints (xs := line) (by omega) (d * ·) hR0 hl (fun _ => rfl) ?_ ?_
    · intro i y H2 Q2 hy s2 q2
      exact ⟨_, rfl, x, D, dx, _, _, rfl, s2 _ _ hx, T.cl, T.nD, ef.d, _, rfl, _, _, rfl, rfl, wide_mul rw_.dz (hsl.get hy) (by omega) (by omega) (by omega), q2⟩
    intro H1 s1 hR1
    refine ⟨_, rfl, x, D, dx, _, _, rfl, s1 _ _ hx, T.cl, T.nR, ef.r, _, rfl, x, D, dx, _, _, rfl, s1 _ _ hx, T.cl, T.nP, ef.p, a, b, _, _, rfl, SqL.of (s1 _ _ ha), SqL.of (s1 _ _ hb), ?_⟩
    have wd : ∀ p, p ∈ rows.zip places → p.1.length = n := fun p hp => (rw_.row _ (List.of_mem_zip (show (p.1, p.2) ∈ _ from hp)).1).1
    refine for_it (walk_zip (xs := vs) (ys := places.map fun i => V.int (i : Nat)) (n := rows.length) (by rw [List.length_map, hv.1, rw_.ln]; omega))
      (fun i σ Hc => Same H Hc ∧ ∃ (y : Addr) (x3 x4 x5 : Option V), σ = [some (.ref x), some (.ref l), some (.ref y), x3, x4, x5, none, none] ∧ Hc y = some (.lst ((restL d ((rows.zip places).take i) line).map V.int)))
      ⟨s1, R0, _, _, _, rfl, hR1⟩ (fun i σ Hc _ p => ⟨SqL.of (p.1 _ _ ha), SqL.of (p.1 _ _ hb)⟩) ?_ ?_
    · rintro i v σ Hc H' hi ⟨sm, y, x3, x4, x5, rfl, hy⟩ ⟨T0, u1, u2, rfl, nT, rfl, h1, h2⟩
      obtain ⟨r, hri, p, rfl, hp⟩ := hv.2 i u1 h1
      obtain ⟨pc, g2⟩ : ∃ pc, places[i]? = some pc := ⟨_, List.getElem?_eq_getElem (by rw [← rw_.ln]; exact hi)⟩
      have e2 : u2 = .int (pc : Nat) := by
        have h2' : (places.map fun i => V.int (i : Nat))[i]? = some u2 := h2
        rw [List.getElem?_map, g2] at h2'
        exact (Option.some.inj h2').symm
      subst e2
      obtain ⟨rn, rs⟩ := rw_.row r (List.mem_of_getElem? hri)
      have pl := rw_.pl pc (List.mem_of_getElem? g2)
      have sm' : Same H (upd Hc T0 (.tup [.ref p, .int (pc : Nat)])) := sm.trans (same_new nT)
      have hy' := same_new (o := .tup [.ref p, .int (pc : Nat)]) nT _ _ hy
      have tk : (rows.zip places).take (i + 1) = (rows.zip places).take i ++ [(r, pc)] := take_snoc (by rw [List.getElem?_zip_eq_some]; exact ⟨hri, g2⟩)
      have rl : (restL d ((rows.zip places).take i) line).length = n := rest_len hn fun p hp => wd p (List.mem_of_mem_take hp)
      have step : restL d ((rows.zip places).take (i + 1)) line = restStep line (restL d ((rows.zip places).take i) line) (r, pc) := by
        unfold restL
        rw [tk, List.foldl_append]
        rfl
      have tt : upd Hc T0 (.tup [.ref p, .int (pc : Nat)]) T0 = some (.tup [.ref p, .int (pc : Nat)]) := upd_same
      generalize upd Hc T0 _ = Hn at sm' hy' tt ⊢
      generalize restL d ((rows.zip places).take i) line = cur at *
      refine ⟨T0, _, rfl, SqT.of tt, rfl, _, _, rfl, _, _, rfl, rfl, ?_⟩
      refine ⟨_, rfl, _, rfl, l, _, _, _, rfl, rfl, SqL.of (sm' _ _ hl), atI_ent (by omega), ?_⟩
      refine ⟨_, rfl, rfl, _, rfl, ite2 (fun z => ?_) (fun z => ?_)⟩
      · have z : ent line pc ≠ 0 := neq_of z
        refine ⟨_, rfl, _, rfl, y, p, _, _, rfl, SqL.of hy', SqL.of (sm' _ _ hp), fun R2 hR2 => ?_⟩
        refine lz_ints (xs := cur) (ys := r) (by omega) (by omega) (fun e o => e - ent line pc * o) hR2 hy' (sm' _ _ hp) (fun _ _ => rfl) ?_ ?_
        · intro i2 u v2 H2 Q2 hu hv2 s2 q2
          exact ⟨_, rfl, _, rfl, _, rfl, _, _, rfl, rfl, wide_mul (hsl pc) (rs.get hv2) (by omega) (by omega) (by omega), _, _, rfl, rfl, q2⟩
        · intro H2 s2 hR3
          refine ⟨sm'.trans s2, R2, _, _, _, rfl, ?_⟩
          rw [step]
          unfold restStep
          rw [if_pos z]
          exact hR3
      · have z : ¬ ent line pc ≠ 0 := fun y => z (neq_to y)
        refine ⟨sm', y, _, _, _, rfl, ?_⟩
        rw [step]
        unfold restStep
        rw [if_neg z]
        exact hy'
    · rintro σ Hc ⟨sm, y, x3, x4, x5, rfl, hy⟩
      rw [List.take_of_length_le (by rw [List.length_zip]; omega)] at hy
      exact ⟨_, rfl, q y Hc hy sm⟩
end
end FR
set_option Elab.async false
set_option linter.all false
set_option maxRecDepth 100000
set_option maxHeartbeats 4000000
namespace FR
open PySem PySem.Spec PyProof.Rows L2 RF
/-- a def of the top, with its promise -/
structure Glo (P : Program) (w : World) (K : PySem.W.Frag) (mg : Str → Option Value) (base : Heap) (nm : Str) (n : Nat) (ps : List Str) (sp : Sp) where
  f : Addr
  fd : FuncData
  G : FnOk P w K mg base CX0 n f fd ps sp
  m : mg nm = some (.ref f)
  k : PySem.W.keepIn K (.ref f) = true
  b : Binds K fd ps []
/-- a method -/
structure Met (P : Program) (w : World) (K : PySem.W.Frag) (mg : Str → Option Value) (base : Heap) (C : Addr) (nm : Str) (n : Nat) (ps : List Str) (sp : Sp) where
  f : Addr
  fd : FuncData
  D : Dun K C nm f
  kp : PySem.W.keepIn K (.ref f) = true
  G : FnOk P w K mg base CX0 n f fd ps sp
  b : Binds K fd ps []
section
variable {P : Program} {w : World} {K : PySem.W.Frag} {mg : Str → Option Value} {base : Heap} {D : Addr}
def spEp (D : Addr) : Sp := fun vs H Q _ => ∃ (x r : Addr) (n : Nat) (rows : List (List Int)) (places : List Nat) (d : Int) (rest : List Int), vs = [.ref x, .ref r] ∧ Ec D H x n rows places d ∧ H r = some (.lst (rest.map V.int)) ∧ n ≤ rest.length ∧ n ≤ 90 ∧
  (∀ q, q < n → (∀ j, j < q → ent rest j = 0) → ent rest q ≠ 0 → Q (.int (q : Nat)) H) ∧ ((∀ j, j < n → ent rest j = 0) → Q .non H)
abbrev NEp : List Str := ["self", "rest", "place"]
theorem scEp : FnScope NEp ["self", "rest"] (defScope sEp) := ⟨rfl, rfl, rfl, by decide +kernel, rfl, by decide +kernel, by decide +kernel⟩
theorem ok_ep {f : Addr} {fd : FuncData} (F : Fun K "place_in" "Echelon.place_in" sEp f fd) (T : TxtE K mg D) : FnOk P w K mg base CX0 1 f fd ["self", "rest"] (spEp D) := by
  refine F.ok scEp (fun vs H Q E h => ?_) (fun cdv A outer s H vs Q E hr h => ?_)
  · obtain ⟨x, r, n, rows, places, d, rest, rfl, _⟩ := h
    rfl
  · obtain ⟨x, r, n, rows, places, d, rest, rfl, ⟨dx, fs, a, b, hx, ef, _, _⟩, hl, hn, n90, q1, q2⟩ := h
    refine ⟨_, pss_cons (ps_for PassesOwn.never rfl (pi_range1 (by rfl) T.range (pa_cons (pe_fld (pv 0) rfl) pa_nil)) (pg_name (i := 2) scEp.nd rfl (.inl rfl))
        (pss_one (ps_if (pt_cmpR op_ne (pe_ix ix_list (pv 1) (pv 2) (fun _ _ => rfl)) pe_int (nomark _)) (pss_one (ps_ret (pv 2))) pss_nil)))
      (pss_one (ps_ret pe_non)), ?_⟩
    refine ⟨_, rfl, x, D, dx, _, _, rfl, hx, T.cl, T.nW, ef.w, (n : Int), rfl, by omega, by omega, ?_⟩
    refine for_range (fun i σ Hc => Hc = H ∧ (∀ j, j < i → ent rest j = 0) ∧ ∃ x2 : Option V, σ = [some (.ref x), some (.ref r), x2]) ⟨rfl, fun j hj => by omega, _, rfl⟩ ?_ ?_
    · rintro i σ Hc hi ⟨rfl, h0, x2, rfl⟩
      have hi : i < n := by omega
      have e : (0 : Int) + (i : Nat) = (i : Nat) := by omega
      rw [e]
      refine ⟨_, rfl, _, rfl, r, _, _, _, rfl, rfl, SqL.of hl, atI_ent (by omega), rfl, _, rfl, ite2 (fun z => ?_) (fun z => ?_)⟩
      · exact ⟨_, rfl, q1 i hi h0 (neq_of z)⟩
      · have z : ent rest i = 0 := Classical.byContradiction fun y => z (neq_to y)
        refine ⟨rfl, fun j hj => ?_, _, rfl⟩
        by_cases y : j = i
        · rw [y]; exact z
        · exact h0 j (by omega)
    · rintro σ Hc ⟨rfl, h0, x2, rfl⟩
      exact q2 fun j hj => h0 j (by omega)
theorem putF_len {f : Str} {u v : V} : ∀ {fs : List (Str × V)}, fs.lookup f = some u → (putF f v fs).length = fs.length
  | [], h => by simp at h
  | (g, y) :: r, h => by
    show (if g = f then (g, v) :: r else (g, y) :: putF f v r).length = _
    by_cases e : g = f
    · rw [if_pos e]; rfl
    · rw [if_neg e]
      have h' : r.lookup f = some u := by
        rw [List.lookup_cons] at h
        have : (f == g) = false := by
          cases z : (f == g) with
          | false => rfl
          | true => exact absurd (eq_of_beq z).symm e
        rw [this] at h
        exact h
      show (putF f v r).length + 1 = r.length + 1
      rw [putF_len h']
def spEt (D : Addr) : Sp := fun vs H Q _ => ∃ (x r : Addr) (q w0 n m t : Nat) (rows : List (List Int)) (places : List Nat) (d : Int) (rest : List Int), vs = [.ref x, .ref r, .int (q : Nat)] ∧ Ec D H x w0 rows places d ∧ H r = some (.lst (rest.map V.int)) ∧ Rws rows places d n m ∧ rest.length = n ∧ Sh rest t ∧ n ≤ 90 ∧ q < n ∧ d ≠ 0 ∧
  m ≤ 8000 ∧ t ≤ 8000 ∧ 0 < m ∧ 0 < t ∧ ∀ H', Ec D H' x w0 (clearedBy rows rest q d ++ [rest]) (places ++ [q]) (ent rest q) → (∀ z o, z ≠ x → H z = some o → H' z = some o) → Q .non H'
abbrev NEt : List Str := ["self", "rest", "place"]
theorem scEt : FnScope NEt ["self", "rest", "place"] (defScope sEt) := ⟨rfl, rfl, rfl, by decide +kernel, rfl, by decide +kernel, by decide +kernel⟩
theorem ok_et {f : Addr} {fd : FuncData} (F : Fun K "take" "Echelon.take" sEt f fd) (T : TxtE K mg D) (gC : Glo P w K mg base "cleared_by" 1 ["rows", "line", "at", "divisor"] spClr) : FnOk P w K mg base CX0 2 f fd ["self", "rest", "place"] (spEt D) := by
  refine F.ok scEt (fun vs H Q E h => ?_) (fun cdv A outer s H vs Q E hr h => ?_)
  · obtain ⟨x, r, q, w0, n, m, t, rows, places, d, rest, rfl, _⟩ := h
    rfl
  · obtain ⟨x, r, q, w0, n, m, t, rows, places, d, rest, rfl, ⟨dx, fs, a, b, hx, ef, hm, hb⟩, hl, rw_, hn, hsl, n90, hq, d0, m8, t8, m0, t0, k⟩ := h
    refine ⟨_, pss_cons (ps_fld (pv 0) (pe_op op_cat (pe_call gC.G hr (by rfl) gC.m gC.k gC.b .nil pass0 (pa_cons (pe_fld (pv 0) rfl) (pa_cons (pv 1) (pa_cons (pv 2) (pa_cons (pe_fld (pv 0) rfl) pa_nil))))) (pe_lst (pa_cons (pv 1) pa_nil))) rfl)
      (pss_cons (ps_fld (pv 0) (pe_op op_cat (pe_fld (pv 0) rfl) (pe_lst (pa_cons (pv 2) pa_nil))) rfl)
      (pss_one (ps_fld (pv 0) (pe_ix ix_list (pv 1) (pv 2) (fun _ _ => rfl)) rfl))), ?_⟩
    refine ⟨_, rfl, x, D, dx, _, _, rfl, hx, T.cl, T.nR, ef.r, _, rfl, _, rfl, _, rfl, x, D, dx, _, _, rfl, hx, T.cl, T.nD, ef.d, ?_⟩
    refine ⟨a, r, rows, rest, q, d, n, m, t, rfl, hm, hl, rw_.few, rw_.row, hn, hsl, n90, hq, d0, rw_.dz, m8, t8, m0, t0, fun y H1 hy s1 => ?_⟩
    obtain ⟨us, hy1, hu⟩ := hy
    refine ⟨_, rfl, small1000 (by show 0 ≤ 1000; decide), fun l1 hl1 => ?_⟩
    have s2 : Same H1 (upd H1 l1 (.lst [.ref r])) := same_new hl1
    have hl2 : upd H1 l1 (.lst [.ref r]) l1 = some (.lst [.ref r]) := upd_same
    have e1 := s2 _ _ hy1
    have s12 := s1.trans s2
    have hu2 := hu.imp fun _ _ z => z.same s2
    generalize upd H1 l1 _ = H2 at *
    have ulen : us.length ≤ 90 := by rw [hu.1]; unfold clearedBy; rw [List.length_map]; exact rw_.few
    refine ⟨y, l1, _, _, rfl, rfl, e1, hl2, Nat.le_of_lt (small1000 (by show us.length + 1 ≤ 1000; omega)), fun l2 hl3 => ?_⟩
    have s3 : Same H2 (upd H2 l2 (.lst (us ++ [.ref r]))) := same_new hl3
    have e3 : upd H2 l2 (.lst (us ++ [.ref r])) l2 = some (.lst (us ++ [.ref r])) := upd_same
    have s13 := s12.trans s3
    have hu3 := hu2.imp fun _ _ z => z.same s3
    have hx3 := s13 _ _ hx
    have hr3 := s13 _ _ hl
    have hb3 := s13 _ _ hb
    generalize upd H2 l2 _ = H3 at *
    refine ⟨_, rfl, x, D, dx, _, rfl, hx3, T.cl, T.nR, (by have := ef.few; omega), ?_⟩
    have xr : x ≠ r := fun z => by rw [z, hr3] at hx3; cases hx3
    have xb : x ≠ b := fun z => by rw [z, hb3] at hx3; cases hx3
    have xl2 : x ≠ l2 := fun z => by rw [z, e3] at hx3; cases hx3
    refine ⟨_, rfl, x, D, dx, _, _, rfl, upd_same, T.cl, T.nP, by rw [lookup_putF, if_neg ne_fld]; exact ef.p, _, rfl, small1000 (by show 0 ≤ 1000; decide), fun l3 hl5 => ?_⟩
    have g4 : ∀ z o, z ≠ x → H3 z = some o → upd H3 x (.ins D dx (putF "rows" (.ref l2) fs)) z = some o := fun z o n e => by rw [upd_ne n]; exact e
    have hx4 : upd H3 x (.ins D dx (putF "rows" (.ref l2) fs)) x = some (.ins D dx (putF "rows" (.ref l2) fs)) := upd_same
    generalize upd H3 x _ = H4 at *
    have hb4 := g4 _ _ (Ne.symm xb) hb3
    have hr4 := g4 _ _ (Ne.symm xr) hr3
    have he4 := g4 _ _ (Ne.symm xl2) e3
    have hu4 := hu3.imp (R' := IL H4) fun _ _ ⟨z, ez, hz⟩ => ⟨z, ez, g4 _ _ (fun y => by rw [y, hx3] at hz; cases hz) hz⟩
    have s5 : Same H4 (upd H4 l3 (.lst [.int (q : Nat)])) := same_new hl5
    have hl6 : upd H4 l3 (.lst [.int (q : Nat)]) l3 = some (.lst [.int (q : Nat)]) := upd_same
    have hx5 := s5 _ _ hx4
    have hb5 := s5 _ _ hb4
    have hr5 := s5 _ _ hr4
    have he5 := s5 _ _ he4
    have hu5 := hu4.imp fun _ _ z => IL.same z s5
    generalize upd H4 l3 _ = H5 at *
    refine ⟨b, l3, _, _, rfl, rfl, hb5, hl6, Nat.le_of_lt (small1000 (by rw [List.length_map, ← rw_.ln]; have := rw_.few; show rows.length + 1 ≤ 1000; omega)), fun l4 hl7 => ?_⟩
    have s6 : Same H5 (upd H5 l4 (.lst ((places.map fun i => V.int (i : Nat)) ++ [.int (q : Nat)]))) := same_new hl7
    have hp6 : upd H5 l4 (.lst ((places.map fun i => V.int (i : Nat)) ++ [.int (q : Nat)])) l4 = some (.lst ((places.map fun i => V.int (i : Nat)) ++ [.int (q : Nat)])) := upd_same
    have hx6 := s6 _ _ hx5
    have hr6 := s6 _ _ hr5
    have he6 := s6 _ _ he5
    have hu6 := hu5.imp fun _ _ z => IL.same z s6
    have s46 := s5.trans s6
    generalize upd H5 l4 _ = H6 at *
    have xl4 : x ≠ l4 := fun z => by rw [z, hp6] at hx6; cases hx6
    refine ⟨_, rfl, x, D, dx, _, rfl, hx6, T.cl, T.nP, by rw [putF_len ef.r]; have := ef.few; omega, ?_⟩
    refine ⟨_, rfl, _, rfl, r, _, _, _, rfl, rfl, SqL.of (by rw [upd_ne (Ne.symm xr)]; exact hr6), atI_ent (by omega), ?_⟩
    have lp : (putF "rows" (.ref l2) fs).lookup ("places" : Str) = some (.ref b) := by rw [lookup_putF, if_neg ne_fld]; exact ef.p
    refine ⟨_, rfl, x, D, dx, _, rfl, upd_same, T.cl, T.nD, by rw [putF_len lp, putF_len ef.r]; have := ef.few; omega, ?_⟩
    refine k _ ⟨dx, _, l2, l4, upd_same, ⟨?_, ?_, ?_, ?_, ?_, fun m h1 h2 h3 h4 => by rw [lookup_putF, if_neg h4, lookup_putF, if_neg h3, lookup_putF, if_neg h2]; exact ef.no m h1 h2 h3 h4⟩, ⟨us ++ [.ref r], ?_, ?_⟩, ?_⟩ ?_
    · rw [lookup_putF, if_neg ne_fld, lookup_putF, if_neg ne_fld, lookup_putF, if_neg ne_fld]; exact ef.w
    · rw [lookup_putF, if_neg ne_fld, lookup_putF, if_neg ne_fld, lookup_putF, if_pos rfl]
    · rw [lookup_putF, if_neg ne_fld, lookup_putF, if_pos rfl]
    · rw [lookup_putF, if_pos rfl]
    · have ld : (putF "places" (.ref l4) (putF "rows" (.ref l2) fs)).lookup ("divisor" : Str) = some (.int d) := by rw [lookup_putF, if_neg ne_fld, lookup_putF, if_neg ne_fld]; exact ef.d
      rw [putF_len ld, putF_len lp, putF_len ef.r]; exact ef.few
    · rw [upd_ne (Ne.symm xl2), upd_ne (Ne.symm xl2)]; exact he6
    · refine AG.snoc (hu6.imp fun _ _ ⟨z, ez, hz⟩ => ⟨z, ez, ?_⟩) ⟨r, rfl, by rw [upd_ne (Ne.symm xr), upd_ne (Ne.symm xr)]; exact hr6⟩
      have zx : z ≠ x := fun y => by rw [y, hx6] at hz; cases hz
      rw [upd_ne zx, upd_ne zx]; exact hz
    · rw [upd_ne (Ne.symm xl4), upd_ne (Ne.symm xl4), List.map_append]; exact hp6
    · intro z o n e
      rw [upd_ne n, upd_ne n]
      exact s46 _ _ (g4 _ _ n (s13 _ _ e))
end
def fldE : Stmt → Expr
  | .Assign _ e _ => e
  | _ => .Constant .none 0 ⟨0, 0, 0, 0⟩
end FR
set_option Elab.async false
set_option linter.all false
set_option maxRecDepth 100000
set_option maxHeartbeats 4000000
namespace FR
open PySem PySem.Spec PyProof.Rows L2 RF
section
variable {P : Program} {w : World} {K : PySem.W.Frag} {mg : Str → Option Value} {base : Heap} {C fI pT gT pB gB : Addr} {fdI fdT fdB : FuncData}
abbrev sBet : Stmt := top 16
theorem scBet : FnScope ["value", "least", "greatest"] ["value", "least", "greatest"] (defScope sBet) := ⟨rfl, rfl, rfl, by decide +kernel, rfl, by decide +kernel, by decide +kernel⟩
def spBet : Sp := fun vs H Q _ => ∃ i lo hi : Int, vs = [.int i, .int lo, .int hi] ∧ lo ≤ i ∧ i ≤ hi ∧ Q (.bl true) H
theorem ok_bet {f fP : Addr} {fd fdP : FuncData} (F : Fun K "is_between" "is_between" sBet f fd) (GP : FnOk P w K mg base CX0 1 fP fdP ["value"] (spPlain K)) (mP : mg "is_plain_integer" = some (.ref fP))
    (kP : PySem.W.keepIn K (.ref fP) = true) (bP : Binds K fdP ["value"] []) : FnOk P w K mg base CX0 2 f fd ["value", "least", "greatest"] spBet := by
  refine F.ok scBet (fun vs H Q E h => ?_) (fun cdv A outer s H vs Q E hr h => ?_)
  · obtain ⟨i, lo, hi, rfl, _⟩ := h
    rfl
  · obtain ⟨i, lo, hi, rfl, h1, h2, q⟩ := h
    refine ⟨_, pss_one (ps_ret (pe_and (pe_call GP hr (by rfl) mP kP bP .nil pass0 (pa_cons (pv 0) pa_nil)) (pe_one (pe_chain op_le op_le (pv 1) (pv 0) (pv 2))))), ?_⟩
    refine ⟨_, rfl, _, _, true, false, rfl, .base (.int i), kI1, kI2, _, rfl, ?_⟩
    refine ⟨_, rfl, _, rfl, _, _, rfl, rfl, _, rfl, ?_⟩
    rw [if_pos (decide_eq_true h1)]
    refine ⟨_, rfl, _, _, rfl, rfl, ?_⟩
    show Q (.bl (decide (i ≤ hi))) H
    rw [decide_eq_true h2]
    exact q

/-! ### _over -/
abbrev sOvr : Stmt := top 49
abbrev NOr : List Str := ["tops", "bottom", "top"]
theorem scOr : FnScope NOr ["tops", "bottom"] (defScope sOvr) := ⟨rfl, rfl, rfl, by decide +kernel, rfl, by decide +kernel, by decide +kernel⟩
/-- a tuple of Fractions -/
def TFr (C : Addr) (H : Hp) (a : Addr) (ps : List PI) : Prop := ∃ xs, H a = some (.tup xs) ∧ FRs C H xs ps
theorem TFr.same {H H' : Hp} {a : Addr} {ps : List PI} (h : TFr C H a ps) (s : Same H H') : TFr C H' a ps := by
  obtain ⟨xs, e, z⟩ := h
  exact ⟨xs, s _ _ e, z.same s⟩
def ovP (tops : List Int) (b : Int) : List PI := tops.map fun t => (nT t b, nB t b)
def spOvr (C : Addr) : Sp := fun vs H Q _ => ∃ (a : Addr) (tops : List Int) (b : Int), vs = [.ref a, .int b] ∧ H a = some (.lst (tops.map V.int)) ∧ tops.length ≤ 90 ∧ b ≠ 0 ∧ b.natAbs < 2 ^ 8000 ∧ ∀ t H', TFr C H' t (ovP tops b) → Same H H' → Q (.ref t) H'
theorem ok_ovr {f : Addr} {fd : FuncData} (F : Fun K "_over" "_over" sOvr f fd) (k : FrK P w K mg base C fI pT gT pB gB fdI fdT fdB) (mT : mg "tuple" = none) : FnOk P w K mg base CX0 4 f fd ["tops", "bottom"] (spOvr C) := by
  refine F.ok scOr (fun vs H Q E h => ?_) (fun cdv A outer s H vs Q E hr h => ?_)
  · obtain ⟨a, tops, b, rfl, _⟩ := h
    rfl
  · obtain ⟨a, tops, b, rfl, ha, hl, b0, bz, q⟩ := h
    refine ⟨_, pss_one (ps_ret (pe_callTy call_tuple_of (by rfl) mT (by decide +kernel) (pa_cons (pe_lc (own := [("top", 2)]) (g := gName 2) (tt := tYes) rfl scOr.nd (pi_list (pv 0)) (blkOk_by (N := NOr) (sc := defScope sOvr) (by decide +kernel))
        (fun _ _ _ _ _ => pg_name (i := 2) scOr.nd rfl (.inl rfl)) (fun _ _ _ _ _ => pts_nil) (fun _ _ _ _ _ => pe_make k.M k.GI hr (by rfl) k.T.mC k.b2 .nil pass0 (pa_cons (pv 2) (pa_cons (pv 1) pa_nil)))) pa_nil))), ?_⟩
    refine ⟨_, rfl, a, rfl, ⟨_, SqL.of ha⟩, fun D hD => ?_⟩
    refine lc_list (xs := tops.map V.int) (fun i Hc => Same H Hc ∧ ∃ vs, Hc D = some (.lst vs) ∧ FRs C Hc vs ((ovP tops b).take i)) ⟨same_new hD, [], upd_same, A2.nil⟩ (fun i Hc _ p => SqL.of (p.1 _ _ ha)) ?_ ?_
    · rintro i v Hc hv ⟨sm, vs, hDc, hf⟩
      obtain ⟨y, hy, rfl⟩ := il_at hv
      have hi := (List.getElem?_eq_some_iff.mp hy).1
      refine ⟨rfl, _, rfl, _, rfl, fun x dx nx nd ne => ?_⟩
      refine ⟨x, dx, _, _, rfl, upd_same, b0, dv8 b0 bz, fun H' hf' hs => ⟨rfl, ?_⟩⟩
      have s2 := same_make (C := C) nx nd hs
      refine ⟨vs, s2 _ _ hDc, small1000 (by rw [hf.1, List.length_take]; omega), same_upd hD (sm.trans s2), vs ++ [.ref x], upd_same, ?_⟩
      rw [take_snoc (x := (nT y b, nB y b)) (by unfold ovP; rw [List.getElem?_map, hy]; rfl)]
      exact A2.snoc ((hf.same s2).updl (s2 _ _ hDc)) ⟨x, rfl, hf'.updl (s2 _ _ hDc)⟩
    · rintro Hc ⟨sm, vs, hDc, hf⟩
      rw [List.take_of_length_le (by unfold ovP; rw [List.length_map, List.length_map]; exact Nat.le_refl _)] at hf
      refine ⟨D, _, rfl, .inl ⟨SqL.of hDc, fun t ht => ?_⟩⟩
      exact q t _ ⟨vs, upd_same, hf.same (same_new ht)⟩ (sm.trans (same_new ht))
end
end FR
set_option Elab.async false
set_option linter.all false
set_option maxRecDepth 100000
set_option maxHeartbeats 4000000
namespace FR
open PySem PySem.Spec PyProof.Rows L2 RF
theorem pi_tupK {X : Cx} {K : PySem.W.Frag} {tg l : Expr} {tl : TE} (hK : X.K = K) (hl : PE X l tl) : L2.PI X tg l (iTup K tl) := by
  subst hK
  exact pi_tup hl
theorem pi_listK {X : Cx} {K : PySem.W.Frag} {tg l : Expr} {tl : TE} (hK : X.K = K) (hl : PE X l tl) : L2.PI X tg l (iList K tl) := by
  subst hK
  exact pi_list hl
theorem ix_tupK {X : Cx} {K : PySem.W.Frag} (hK : X.K = K) : IxR X (rIxT K) := by
  subst hK
  exact ix_tup
theorem call_tuple_ofK {X : Cx} {K : PySem.W.Frag} (hK : X.K = K) : CallR X (.type "tuple") (fun xs H Q => ∃ p ys, xs = [.ref p] ∧ ((SqL K H p ys ∧ ∀ l, H l = none → Q (.ref l) (upd H l (.tup ys))) ∨ (SqT K H p ys ∧ Q (.ref p) H))) := by
  subst hK
  exact call_tuple_of
theorem FV.updl {C : Addr} {H : Hp} {D : Addr} {xs : List V} {o : HO} {v : V} {t b : Int} (h : FV C H v t b) (hD : H D = some (.lst xs)) : FV C (upd H D o) v t b := by
  rcases h with ⟨p, e, z⟩ | z
  · exact .inl ⟨p, e, z.updl hD⟩
  · exact .inr z
theorem FVs.updl {C : Addr} {H : Hp} {D : Addr} {xs : List V} {o : HO} {vs : List V} {ps : List PI} (h : FVs C H vs ps) (hD : H D = some (.lst xs)) : FVs C (upd H D o) vs ps := A2.imp h fun _ _ f => f.updl hD
/-- a tuple of tuples of fractions -/
def TMx (C : Addr) (H : Hp) (a : Addr) (pss : List (List PI)) : Prop := ∃ vs, H a = some (.tup vs) ∧ AG (fun v ps => ∃ q, v = .ref q ∧ Tf C H q ps) vs pss
theorem TMx.same {C : Addr} {H H' : Hp} {a : Addr} {pss : List (List PI)} (h : TMx C H a pss) (s : Same H H') : TMx C H' a pss := by
  obtain ⟨vs, e, z⟩ := h
  exact ⟨vs, s _ _ e, z.imp fun _ _ ⟨q, e, t⟩ => ⟨q, e, t.same s⟩⟩
def turnP (pss : List (List PI)) (n : Nat) : List (List PI) := (List.range n).map fun j => pss.map fun ps => ps.getD j (0, 1)
/-- rows: as many as can be, all of one length -/
structure Rs (pss : List (List PI)) (n : Nat) : Prop where
  ne : 0 < pss.length
  few : pss.length ≤ 80
  n1 : 0 < n
  n12 : n ≤ 12
  len : ∀ ps ∈ pss, ps.length = n
  lf : ∀ ps ∈ pss, AllLf ps
  sz : ∀ ps ∈ pss, Shr ps
/-- small entries -/
def Sm (pss : List (List PI)) : Prop := ∀ ps ∈ pss, ∀ p ∈ ps, p.1.natAbs < 2 ^ 30 ∧ p.2.natAbs < 2 ^ 30
section
variable {P : Program} {w : World} {K : PySem.W.Frag} {mg : Str → Option Value} {base : Heap} {C fI pT gT pB gB : Addr} {fdI fdT fdB : FuncData}
abbrev sTrn : Stmt := top 47
abbrev NTn : List Str := ["rows", "at", "row"]
theorem scTn : FnScope NTn ["rows"] (defScope sTrn) := ⟨rfl, rfl, rfl, by decide +kernel, rfl, by decide +kernel, by decide +kernel⟩
def callA : Expr → Expr
  | .Call _ (a :: _) _ _ => a
  | e => e
abbrev lcTn : Scope := lcSc (callA (retE ((defBody sTrn).getD 0 (.Pass ⟨0, 0, 0, 0⟩))))
def spTrn (C : Addr) : Sp := fun vs H Q _ => ∃ (a : Addr) (pss : List (List PI)) (n : Nat), vs = [.ref a] ∧ TMx C H a pss ∧ Rs pss n ∧ Sm pss ∧ ∀ t H', TMx C H' t (turnP pss n) → Same H H' → Q (.ref t) H'
theorem ok_trn {f : Addr} {fd : FuncData} (F : Fun K "_turned" "_turned" sTrn f fd) (mT : mg "tuple" = none) (mR : mg "range" = none) (mL : mg "len" = none) : FnOk P w K mg base CX0 1 f fd ["rows"] (spTrn C) := by
  refine F.ok scTn (fun vs H Q E h => ?_) (fun cdv A outer s H vs Q E hr h => ?_)
  · obtain ⟨a, pss, n, rfl, _⟩ := h
    rfl
  · obtain ⟨a, pss, n, rfl, ⟨vs, ha, hv⟩, R, Z, q⟩ := h
    refine ⟨_, pss_one (ps_ret (pe_callTy call_tuple_of (by rfl) mT (by decide +kernel) (pa_cons (pe_lc (X := (cxOf CX0 P w K mg base NTn "_turned" (defScope sTrn) f cdv A outer s H E).nox) (own := [("at", 1)]) (g := gName 1) (tt := tYes) rfl scTn.nd
        (pi_range1 (by rfl) mR (pa_cons (pe_callB call_len_seq (by rfl) mL PySem.boot_len (pa_cons (pe_ix ix_tup (pv 0) pe_int (fun _ _ => rfl)) pa_nil)) pa_nil)) (blkOk_by (N := NTn) (sc := defScope sTrn) (by decide +kernel))
        (fun _ _ _ _ _ => pg_name (i := 1) scTn.nd rfl (.inr rfl)) (fun _ _ _ _ _ => pts_nil)
        (fun s0 H0 C0 cl0 fp0 => pe_callTy (call_tuple_ofK (K := K) rfl) (by rfl) mT (by decide +kernel) (pa_cons (pe_lc (X := ((cxOf CX0 P w K mg base NTn "_turned" (defScope sTrn) f cdv A outer s H E).nox).blk s0 H0 lcTn (compEnvC lcTn cl0 C0 ((cxOf CX0 P w K mg base NTn "_turned" (defScope sTrn) f cdv A outer s H E).nox).env) fp0)
          (own := [("row", 2)]) (g := gName 2) (tt := tYes) rfl scTn.nd (pi_tupK (K := K) rfl (pv 0)) (blkOk_by (N := NTn) (sc := relS lcTn (defScope sTrn)) (by decide +kernel))
          (fun _ _ _ _ _ => pg_name (i := 2) scTn.nd rfl (.inl rfl)) (fun _ _ _ _ _ => pts_nil) (fun _ _ _ _ _ => pe_ix (ix_tupK (K := K) rfl) (pv 2) (pv 1) (fun _ _ => rfl))) pa_nil))) pa_nil))), ?_⟩
    match pss, vs, hv, R, ha, Z, q with
    | [], _, _, R, _, _, _ => exact absurd R.ne (by decide)
    | p0 :: pr, [], hv, _, _, _, _ => exact absurd hv.1 (by simp)
    | p0 :: pr, v0 :: vr, hv, R, ha, Z, q =>
    obtain ⟨z0, hz0, q0, rfl, tf0⟩ := hv.2 0 v0 rfl
    cases hz0
    obtain ⟨xs0, hx0, hf0⟩ := tf0.at_
    have l0 : xs0.length = n := by rw [hf0.1]; exact R.len p0 List.mem_cons_self
    have n12 := R.n12
    refine ⟨_, rfl, a, _, 0, _, rfl, rfl, SqT.of ha, atI_nat (j := 0) rfl, ?_⟩
    refine ⟨q0, xs0, rfl, .inr (SqT.of hx0), (xs0.length : Int), rfl, by omega, by omega, fun D hD => ?_⟩
    have nat : (xs0.length : Int).toNat = n := by omega
    rw [nat]
    generalize hpss : p0 :: pr = pss at *
    generalize hvs : V.ref q0 :: vr = vs at *
    refine lc_range (lo := 0) (n := n) (fun i Hc => Same H Hc ∧ ∃ us, Hc D = some (.lst us) ∧ AG (fun v ps => ∃ q, v = .ref q ∧ Tf C Hc q ps) us ((turnP pss n).take i)) ⟨same_new hD, [], upd_same, AG.nil⟩ ?_ ?_
    · rintro i Hc hi ⟨sm, us, hDc, hu⟩
      have e : (0 : Int) + (i : Nat) = (i : Nat) := by omega
      rw [e]
      have ha1 := sm _ _ ha
      refine ⟨rfl, _, rfl, a, rfl, ⟨_, SqT.of ha1⟩, fun D2 hD2 => ?_⟩
      refine lc_tup (xs := vs) (fun j Hx => Same Hc Hx ∧ ∃ ws, Hx D2 = some (.lst ws) ∧ FVs C Hx ws ((pss.map fun ps => ps.getD i (0, 1)).take j)) ⟨same_new hD2, [], upd_same, A2.nil⟩ (fun j Hx _ p => SqT.of (p.1 _ _ ha1)) ?_ ?_
      · rintro j v Hx hvj ⟨s2, ws, hD3, hw⟩
        obtain ⟨ps, hps, q1, rfl, tf⟩ := hv.2 j v hvj
        have mp := List.mem_of_getElem? hps
        obtain ⟨xs, hx, hf⟩ := (tf.same (sm.trans s2)).at_
        have lx : i < xs.length := by rw [hf.1, R.len ps mp]; exact hi
        have gx : xs[i]? = some xs[i] := List.getElem?_eq_getElem lx
        obtain ⟨p, hp, fv⟩ := hf.2 i _ gx
        have jl := (List.getElem?_eq_some_iff.mp hps).1
        have f80 := R.few
        refine ⟨rfl, _, rfl, _, rfl, q1, _, _, _, rfl, rfl, SqT.of hx, atI_nat gx, ws, hD3, small1000 (by rw [hw.1, List.length_take]; omega), same_upd hD2 s2, ws ++ [xs[i]], upd_same, ?_⟩
        rw [take_snoc (x := p) (by rw [List.getElem?_map, hps]; show some (ps.getD i (0, 1)) = _; rw [List.getD_eq_getElem?_getD, hp]; rfl)]
        exact A2.snoc (hw.updl hD3) (fv.updl hD3)
      · rintro Hx ⟨s2, ws, hD3, hw⟩
        rw [List.take_of_length_le (by rw [List.length_map, hv.1]; exact Nat.le_refl _)] at hw
        refine ⟨D2, _, rfl, .inl ⟨SqL.of hD3, fun t ht => ?_⟩⟩
        have s3 : Same Hc (upd Hx t (.tup ws)) := s2.trans (same_new ht)
        have e1 := s3 _ _ hDc
        have tT : upd Hx t (.tup ws) t = some (.tup ws) := upd_same
        have hw3 : FVs C (upd Hx t (.tup ws)) ws (pss.map fun ps => ps.getD i (0, 1)) := hw.same (same_new ht)
        generalize upd Hx t _ = Hy at *
        have f80 := R.few
        refine ⟨us, e1, small1000 (by rw [hu.1, List.length_take]; omega), same_upd hD (sm.trans s3), us ++ [.ref t], upd_same, ?_⟩
        have hDy := e1
        rw [take_snoc (x := pss.map fun ps => ps.getD i (0, 1)) (by unfold turnP; rw [List.getElem?_map, List.getElem?_range hi]; rfl)]
        have up : ∀ q ps, Tf C Hy q ps → Tf C (upd Hy D (.lst (us ++ [.ref t]))) q ps := fun q ps ⟨⟨xs, h1, h2⟩, h3, h4, h5⟩ => ⟨⟨xs, tup_updl h1 hDy, h2.updl hDy⟩, h3, h4, h5⟩
        refine AG.snoc (hu.imp fun _ _ ⟨q, e, tf⟩ => ⟨q, e, up _ _ (tf.same s3)⟩) ⟨t, rfl, up _ _ ⟨⟨ws, tT, hw3⟩, by rw [List.length_map]; exact f80, fun p hp => ?_, Shr.of (fun p hp => ?_) (by rw [List.length_map]; exact f80) fun p hp => ?_⟩⟩
        all_goals
          obtain ⟨ps, hps, rfl⟩ := List.mem_map.mp hp
          have g : ps[i]? = some (ps.getD i (0, 1)) := by
            have : i < ps.length := by rw [R.len ps hps]; exact hi
            rw [List.getD_eq_getElem?_getD, List.getElem?_eq_getElem this]; rfl
        · exact R.lf ps hps _ (List.mem_of_getElem? g)
        · exact R.lf ps hps _ (List.mem_of_getElem? g)
        · exact Z ps hps _ (List.mem_of_getElem? g)
    · rintro Hc ⟨sm, us, hDc, hu⟩
      rw [List.take_of_length_le (by unfold turnP; rw [List.length_map, List.length_range]; exact Nat.le_refl _)] at hu
      refine ⟨D, _, rfl, .inl ⟨SqL.of hDc, fun t ht => ?_⟩⟩
      exact q t _ ⟨us, upd_same, hu.imp fun _ _ ⟨q, e, tf⟩ => ⟨q, e, tf.same (same_new ht)⟩⟩ (sm.trans (same_new ht))
end
end FR
set_option Elab.async false
set_option linter.all false
set_option maxRecDepth 100000
set_option maxHeartbeats 4000000
namespace FR
open PySem PySem.Spec PyProof.Rows L2 RF
def dotI (xs ys : List Int) : Int := (List.zipWith (fun a b => a * b) xs ys).sum
def dotP (ps cs : List PI) : PI := (nT (dotI (topsP ps (lcmP ps)) (topsP cs (lcmP cs))) (lcmP ps * lcmP cs), nB (dotI (topsP ps (lcmP ps)) (topsP cs (lcmP cs))) (lcmP ps * lcmP cs))
def timesP (pss : List (List PI)) (cs : List PI) : List PI := pss.map fun ps => dotP ps cs
theorem topsP_get {ps : List PI} {m : Int} {i : Nat} {x : Int} (h : (topsP ps m)[i]? = some x) : ∃ p, p ∈ ps ∧ x = p.1 * m.fdiv p.2 := by
  unfold topsP at h
  rw [List.getElem?_map] at h
  cases e : ps[i]? with
  | none => rw [e] at h; cases h
  | some p => rw [e] at h; exact ⟨p, List.mem_of_getElem? e, (Option.some.inj h).symm⟩
theorem tops_sz {ps : List PI} (hl : AllLf ps) (few : ps.length ≤ 80) (hs : Shr ps) {i : Nat} {x : Int} (h : (topsP ps (lcmP ps))[i]? = some x) : x.natAbs < 2 ^ 4900 := by
  obtain ⟨p, mp, rfl⟩ := topsP_get h
  have dz := fdiv_le (lcmP_dvd ps p mp) (hl p mp).1
  have mz := hs.1
  exact Nat.lt_of_lt_of_le (wide_lt (hs.2 p mp).1 (Nat.lt_of_le_of_lt dz mz)) (Nat.pow_le_pow_right (by decide) (by decide))
section
variable {P : Program} {w : World} {K : PySem.W.Frag} {mg : Str → Option Value} {base : Heap} {C fI pT gT pB gB : Addr} {fdI fdT fdB : FuncData}
abbrev sTms : Stmt := top 51
abbrev NTm : List Str := ["rows", "column", "column_tops", "column_bottom", "found", "row", "tops", "bottom", "top", "one", "other"]
theorem scTm : FnScope NTm ["rows", "column"] (defScope sTms) := ⟨rfl, rfl, rfl, by decide +kernel, rfl, by decide +kernel, by decide +kernel⟩
def spTms (C : Addr) : Sp := fun vs H Q _ => ∃ (a c : Addr) (pss : List (List PI)) (cs : List PI), vs = [.ref a, .ref c] ∧ TMx C H a pss ∧ Tf C H c cs ∧ pss.length ≤ 80 ∧ (∀ ps ∈ pss, ps.length = cs.length) ∧ ∀ t H', TFr C H' t (timesP pss cs) → Same H H' → Q (.ref t) H'
theorem ok_tms {f : Addr} {fd : FuncData} (F : Fun K "_times" "_times" sTms f fd) (k : FrK P w K mg base C fI pT gT pB gB fdI fdT fdB) (gO : Glo P w K mg base "over_one_bottom" 5 ["fractions"] (spOver C)) (mS : mg "sum" = none) (mT : mg "tuple" = none) (mZ : mg "zip" = none) :
    FnOk P w K mg base CX0 6 f fd ["rows", "column"] (spTms C) := by
  refine F.ok scTm (fun vs H Q E h => ?_) (fun cdv A outer s H vs Q E hr h => ?_)
  · obtain ⟨a, c, pss, cs, rfl, _⟩ := h
    rfl
  · obtain ⟨a, c, pss, cs, rfl, ⟨vs, ha, hv⟩, tc, f80, len, q⟩ := h
    refine ⟨_, pss_cons (ps_asg (pe_call gO.G hr (by rfl) gO.m gO.k gO.b .nil pass0 (pa_cons (pv 1) pa_nil)) (pg_tup (by rfl) (pgs_cons (pg_name (i := 2) scTm.nd rfl (.inl rfl)) (pgs_cons (pg_name (i := 3) scTm.nd rfl (.inl rfl)) pgs_nil))))
      (pss_cons (ps_set (i := 4) scTm.nd rfl (Or.inl rfl) (pe_lst pa_nil))
      (pss_cons (ps_for PassesOwn.never rfl (pi_tup (pv 0)) (pg_name (i := 5) scTm.nd rfl (.inl rfl))
        (pss_cons (ps_asg (pe_call gO.G hr (by rfl) gO.m gO.k gO.b .nil pass0 (pa_cons (pv 5) pa_nil)) (pg_tup (by rfl) (pgs_cons (pg_name (i := 6) scTm.nd rfl (.inl rfl)) (pgs_cons (pg_name (i := 7) scTm.nd rfl (.inl rfl)) pgs_nil))))
        (pss_cons (ps_set (i := 8) scTm.nd rfl (Or.inl rfl) (pe_callB (cr_sum rfl) (by rfl) mS (by decide +kernel) (pa_cons (pe_lc (X := (cxOf CX0 P w K mg base NTm "_times" (defScope sTms) f cdv A outer s H E).nox) (own := [("one", 9), ("other", 10)]) (g := gTup K 2 (gCons (gName 9) (gCons (gName 10) gNil))) (tt := tYes) rfl scTm.nd (pi_zip (by rfl) mZ (pa_cons (pv 6) (pa_cons (pv 2) pa_nil))) (blkOk_by (N := NTm) (sc := defScope sTms) (by decide +kernel))
          (fun _ _ _ _ _ => pg_tupK (K := K) rfl rfl (pgs_cons (pg_name (i := 9) scTm.nd rfl (.inl rfl)) (pgs_cons (pg_name (i := 10) scTm.nd rfl (.inl rfl)) pgs_nil))) (fun _ _ _ _ _ => pts_nil) (fun _ _ _ _ _ => pe_op op_mulW (pv 9) (pv 10))) pa_nil)))
        (pss_one (ps_expr (pe_bm PySem.F.plainAttrs_list PySem.F.slot_list_append PySem.F.type_list_append mt_append (pv 4) (pa_cons (pe_make k.M k.GI (hr.mono (by decide)) (by rfl) k.T.mC k.b2 .nil pass0 (pa_cons (pv 8) (pa_cons (pe_op op_mulW (pv 7) (pv 3)) pa_nil))) pa_nil)))))))
      (pss_one (ps_ret (pe_callTy call_tuple_of (by rfl) mT (by decide +kernel) (pa_cons (pv 4) pa_nil)))))), ?_⟩
    refine ⟨_, rfl, c, cs, rfl, tc, fun ca cb H1 hca hcb s1 _ => ?_⟩
    refine ⟨cb, _, rfl, SqT.of hcb, rfl, _, _, rfl, _, _, rfl, rfl, ?_⟩
    refine ⟨Nat.zero_le _, fun fo hfo => ?_⟩
    have s2 : Same H (upd H1 fo (.lst [])) := s1.trans (same_new hfo)
    refine ⟨_, rfl, a, rfl, ⟨_, SqT.of (s2 _ _ ha)⟩, ?_⟩
    have cf : ca ≠ fo := ne_of_none hca hfo
    have c0 := lcmP_pos tc.lf
    have cz := tc.sz.1
    refine for_tup (xs := vs) (fun i σ Hc => Same H Hc ∧ Hc ca = some (.lst ((topsP cs (lcmP cs)).map V.int)) ∧ ∃ (us : List V) (x5 x6 x7 x8 : Option V), σ = [some (.ref a), some (.ref c), some (.ref ca), some (.int (lcmP cs)), some (.ref fo), x5, x6, x7, x8, none, none] ∧ Hc fo = some (.lst us) ∧ FRs C Hc us ((timesP pss cs).take i) ∧ H fo = none)
      ⟨s2, same_new hfo _ _ hca, [], _, _, _, _, rfl, upd_same, A2.nil, Same.free s1 hfo⟩ (fun i σ Hc _ p => SqT.of (p.1 _ _ ha)) ?_ ?_
    · rintro i v σ Hc hvi ⟨sm, hc3, us, x5, x6, x7, x8, rfl, hfo3, hu, hn⟩
      obtain ⟨ps, hps, q1, rfl, tf⟩ := hv.2 i v hvi
      have mp := List.mem_of_getElem? hps
      have tf := tf.same sm
      have il := (List.getElem?_eq_some_iff.mp hps).1
      refine ⟨_, rfl, q1, ps, rfl, tf, fun ra rb H2 hra hrb s3 _ => ?_⟩
      refine ⟨rb, _, rfl, SqT.of hrb, rfl, _, _, rfl, _, _, rfl, rfl, ?_⟩
      refine ⟨_, rfl, _, rfl, ra, ca, _, _, rfl, SqL.of hra, SqL.of (s3 _ _ hc3), fun D2 hD2 => ?_⟩
      have tl : (topsP ps (lcmP ps)).length = ps.length := by unfold topsP; rw [List.length_map]
      have cl : (topsP cs (lcmP cs)).length = cs.length := by unfold topsP; rw [List.length_map]
      refine lz_ints (xs := topsP ps (lcmP ps)) (ys := topsP cs (lcmP cs)) (by rw [tl, cl]; exact len ps mp) (by rw [tl]; have := tf.few; omega) (fun e o => e * o) hD2 hra (s3 _ _ hc3) (fun _ _ => rfl) ?_ ?_
      · intro i2 x y H3 Q2 hx hy s4 q2
        exact ⟨_, rfl, _, rfl, _, _, rfl, rfl, wide_mul (tops_sz tf.lf tf.few tf.sz hx) (tops_sz tc.lf tc.few tc.sz hy) (by decide) (by decide) (by decide), q2⟩
      · intro H3 s4 hD3
        have r0 := lcmP_pos tf.lf
        have rz := tf.sz.1
        refine ⟨D2, _, rfl, SqL.of hD3, ?_⟩
        have s34 := s3.trans s4
        refine ⟨_, rfl, .inl ⟨rfl, _, SqL.of (s34 _ _ hfo3)⟩, _, rfl, _, rfl, _, rfl, _, _, rfl, rfl, wide_mul rz cz (by decide) (by decide) (by decide), fun x dx nx nd ne => ?_⟩
        have m0 : lcmP ps * lcmP cs ≠ 0 := Int.mul_ne_zero (by omega) (by omega)
        have mz : (lcmP ps * lcmP cs).natAbs < 2 ^ 8000 := Nat.lt_of_lt_of_le (wide_lt rz cz) (Nat.pow_le_pow_right (by decide) (by decide))
        refine ⟨x, dx, _, _, rfl, upd_same, m0, dv8 m0 mz, fun H' hf hs => ⟨rfl, ?_⟩⟩
        have s5 := s34.trans (same_make (C := C) nx nd hs)
        have e5 := s5 _ _ hfo3
        refine ⟨fo, us, _, rfl, rfl, e5, small1000 (by rw [hu.1, List.length_take]; omega), ?_⟩
        refine ⟨same_upd hn (sm.trans s5), by rw [upd_ne cf]; exact s5 _ _ hc3, us ++ [.ref x], _, _, _, _, rfl, upd_same, ?_, hn⟩
        rw [take_snoc (x := dotP ps cs) (by unfold timesP; rw [List.getElem?_map, hps]; rfl)]
        exact A2.snoc ((hu.same s5).updl e5) ⟨x, rfl, hf.updl e5⟩
    · rintro σ Hc ⟨sm, hc3, us, x5, x6, x7, x8, rfl, hfo3, hu, hn⟩
      rw [List.take_of_length_le (by unfold timesP; rw [List.length_map, hv.1]; exact Nat.le_refl _)] at hu
      refine ⟨_, rfl, fo, _, rfl, .inl ⟨SqL.of hfo3, fun t ht => ?_⟩⟩
      exact q t _ ⟨us, upd_same, hu.same (same_new ht)⟩ (sm.trans (same_new ht))
end
end FR
set_option Elab.async false
set_option linter.all false
set_option maxRecDepth 100000
set_option maxHeartbeats 4000000
namespace FR
open PySem PySem.Spec PyProof.Rows L2 RF
theorem cr_allK {X : Cx} {K : PySem.W.Frag} (hK : X.K = K) (hc : X.calm = true) : CallR X (.builtin "all") (rAll K) := by
  subst hK
  exact cr_all hc
theorem call_len_seqK {X : Cx} {K : PySem.W.Frag} (hK : X.K = K) : CallR X (.builtin "len") (fun xs H Q => ∃ p ys, xs = [.ref p] ∧ (SqL K H p ys ∨ SqT K H p ys) ∧ Q (.int ys.length) H) := by
  subst hK
  exact call_len_seq
section
variable {P : Program} {w : World} {K : PySem.W.Frag} {mg : Str → Option Value} {base : Heap} {C : Addr}
/-! ### is_rows -/
abbrev sIrs : Stmt := top 26
abbrev NIr : List Str := ["value", "width", "row"]
theorem scIr : FnScope NIr ["value"] (defScope sIrs) := ⟨rfl, rfl, rfl, by decide +kernel, rfl, by decide +kernel, by decide +kernel⟩
structure TxtR (mg : Str → Option Value) : Prop where
  isi : mg "isinstance" = none
  tup : mg "tuple" = none
  len : mg "len" = none
  all : mg "all" = none
  mr : ∃ t, mg "MAX_ROWS" = some (.int 80 t)
  mw : ∃ t, mg "MAX_WIDTH" = some (.int 12 t)
def spIrs (C : Addr) : Sp := fun vs H Q _ => ∃ (a : Addr) (pss : List (List PI)) (n : Nat), vs = [.ref a] ∧ TMx C H a pss ∧ Rs pss n ∧ ∀ H', Same H H' → Q (.bl true) H'
theorem ok_irs {f : Addr} {fd : FuncData} (F : Fun K "is_rows" "is_rows" sIrs f fd) (T : TxtR mg) (gB : Glo P w K mg base "is_between" 2 ["value", "least", "greatest"] spBet) (gF : Glo P w K mg base "is_fractions" 3 ["value"] (spFs C)) : FnOk P w K mg base CX0 4 f fd ["value"] (spIrs C) := by
  refine F.ok scIr (fun vs H Q E h => ?_) (fun cdv A outer s H vs Q E hr h => ?_)
  · obtain ⟨a, pss, n, rfl, _⟩ := h
    rfl
  · obtain ⟨a, pss, n, rfl, ⟨vs, ha, hv⟩, R, q⟩ := h
    obtain ⟨t1, m1⟩ := T.mr
    obtain ⟨t2, m2⟩ := T.mw
    refine ⟨_, (pss_cons (ps_if (PW.pt (pw_or (pt_not (pt_val (pe_callB call_isi (by rfl) T.isi PyProof.Rows.boot_isinstance (pa_cons (pv 0) (pa_cons (pe_bltn (v := .ty "tuple") (by rfl) T.tup (by decide +kernel) rfl) pa_nil))))) (pw_or1 (pt_not (pt_val (pe_call gB.G (hr.mono (by decide)) (by rfl) gB.m gB.k gB.b .nil pass0 (pa_cons (pe_callB call_len_seq (by rfl) T.len PySem.boot_len (pa_cons (pv 0) pa_nil)) (pa_cons pe_int (pa_cons (pe_glob (v := .int 80) (by rfl) m1 ⟨t1, rfl⟩) pa_nil))))))))) (pss_one (ps_ret pe_bl)) pss_nil)
      (pss_cons (ps_if (pt_not (pt_val (pe_callB (cr_all rfl) (by rfl) T.all (by decide +kernel) (pa_cons (pe_lc (X := (cxOf CX0 P w K mg base NIr "is_rows" (defScope sIrs) f cdv A outer s H E).nox) (own := [("row", 2)]) (g := (gName 2)) (tt := tYes) rfl scIr.nd (pi_tup (pv 0)) (blkOk_by (N := NIr) (sc := defScope sIrs) (by decide +kernel)) (fun _ _ _ _ _ => (pg_name (i := 2) scIr.nd rfl (.inl rfl))) (fun _ _ _ _ _ => pts_nil) (fun _ _ _ _ _ => (pe_call gF.G hr (by rfl) gF.m gF.k gF.b .nil pass0 (pa_cons (pv 2) pa_nil)))) pa_nil)))) (pss_one (ps_ret pe_bl)) pss_nil)
      (pss_cons (ps_set (i := 1) scIr.nd rfl (Or.inr rfl) (pe_callB call_len_seq (by rfl) T.len PySem.boot_len (pa_cons (pe_ix ix_tup (pv 0) pe_int (fun _ _ => rfl)) pa_nil)))
      (pss_one (ps_ret (pe_and (pe_call gB.G (hr.mono (by decide)) (by rfl) gB.m gB.k gB.b .nil pass0 (pa_cons (pv 1) (pa_cons pe_int (pa_cons (pe_glob (v := .int 12) (by rfl) m2 ⟨t2, rfl⟩) pa_nil)))) (pe_one (pe_callB (cr_all rfl) (by rfl) T.all (by decide +kernel) (pa_cons (pe_lc (X := (cxOf CX0 P w K mg base NIr "is_rows" (defScope sIrs) f cdv A outer s H E).nox) (own := [("row", 2)]) (g := (gName 2)) (tt := tYes) rfl scIr.nd (pi_tup (pv 0)) (blkOk_by (N := NIr) (sc := defScope sIrs) (by decide +kernel)) (fun _ _ _ _ _ => (pg_name (i := 2) scIr.nd rfl (.inl rfl))) (fun _ _ _ _ _ => pts_nil) (fun _ _ _ _ _ => (pe_cmpR op_eq (pe_callB (call_len_seqK (K := K) rfl) (by rfl) T.len PySem.boot_len (pa_cons (pv 2) pa_nil)) (pv 1) (nomark _)))) pa_nil))))))))), ?_⟩
    have f80 := R.few
    have ne := R.ne
    have lv := hv.1
    refine ⟨_, rfl, _, _, _, _, true, rfl, .ty _, .base (.tup ha), kit_ty (by decide +kernel), _, rfl, iteF ?_⟩
    refine ⟨_, rfl, a, _, rfl, .inr (SqT.of ha), _, 1, 80, rfl, by omega, by omega, _, rfl, iteF ?_⟩
    refine ⟨_, rfl, a, rfl, ⟨_, SqT.of ha⟩, fun D hD => ?_⟩
    refine lc_tup (xs := vs) (fun i Hc => Same H Hc ∧ Hc D = some (.lst ((List.replicate i true).map V.bl))) ⟨same_new hD, upd_same⟩ (fun i Hc _ p => SqT.of (p.1 _ _ ha)) ?_ ?_
    · rintro i v Hc hvi ⟨sm, hDc⟩
      obtain ⟨ps, hps, q1, rfl, tf⟩ := hv.2 i v hvi
      have il := (List.getElem?_eq_some_iff.mp hps).1
      refine ⟨rfl, _, rfl, q1, ps, rfl, tf.same sm, fun H2 s2 => ?_⟩
      refine ⟨_, s2 _ _ hDc, small1000 (by rw [List.length_map, List.length_replicate]; omega), same_upd hD (sm.trans s2), ?_⟩
      rw [List.replicate_succ', List.map_append]
      exact upd_same
    rintro H1 ⟨s1, hD1⟩
    refine ⟨D, _, rfl, SqL.of hD1, ?_⟩
    have al : ∀ n : Nat, (List.replicate n true).all id = true := fun n => by simp
    rw [al]
    refine ⟨_, rfl, iteF ?_⟩
    have ha1 := s1 _ _ ha
    match pss, vs, hv, R, ha, ha1, q with
    | [], _, _, R, _, _, _ => exact absurd R.ne (by decide)
    | p0 :: pr, [], hv, _, _, _, _ => exact absurd hv.1 (by simp)
    | p0 :: pr, v0 :: vr, hv, R, ha, ha1, q =>
    obtain ⟨z0, hz0, q0, rfl, tf0⟩ := hv.2 0 v0 rfl
    cases hz0
    obtain ⟨xs0, hx0, hf0⟩ := tf0.at_
    have l0 : xs0.length = n := by rw [hf0.1]; exact R.len p0 List.mem_cons_self
    have n12 := R.n12
    have n1 := R.n1
    have f80 := R.few
    refine ⟨_, rfl, a, _, 0, _, rfl, rfl, SqT.of ha1, atI_nat (j := 0) rfl, ?_⟩
    refine ⟨q0, xs0, rfl, .inr (SqT.of (s1 _ _ hx0)), ?_⟩
    generalize hpss : p0 :: pr = pss at *
    generalize hvs : V.ref q0 :: vr = vs at *
    refine ⟨_, rfl, _, 1, 12, rfl, by omega, by omega, _, rfl, ?_⟩
    refine ⟨_, rfl, a, rfl, ⟨_, SqT.of ha1⟩, fun D2 hD2 => ?_⟩
    refine lc_tup (xs := vs) (fun i Hc => Same H1 Hc ∧ Hc D2 = some (.lst ((List.replicate i true).map V.bl))) ⟨same_new hD2, upd_same⟩ (fun i Hc _ p => SqT.of (p.1 _ _ ha1)) ?_ ?_
    · rintro i v Hc hvi ⟨sm, hDc⟩
      obtain ⟨ps, hps, q1, rfl, tf⟩ := hv.2 i v hvi
      have il := (List.getElem?_eq_some_iff.mp hps).1
      obtain ⟨xs, hx, hf⟩ := (tf.same (s1.trans sm)).at_
      have e : xs.length = xs0.length := by rw [hf.1, R.len ps (List.mem_of_getElem? hps), l0]
      refine ⟨rfl, _, rfl, q1, xs, rfl, .inr (SqT.of hx), _, rfl, rfl, ?_⟩
      rw [e, decide_eq_true rfl]
      refine ⟨_, hDc, small1000 (by rw [List.length_map, List.length_replicate]; omega), same_upd hD2 sm, ?_⟩
      rw [List.replicate_succ', List.map_append]
      exact upd_same
    · rintro H2 ⟨s2, hD3⟩
      refine ⟨D2, _, rfl, SqL.of hD3, ?_⟩
      rw [al]
      exact q H2 (s1.trans s2)
end
end FR
set_option Elab.async false
set_option linter.all false
set_option maxRecDepth 100000
set_option maxHeartbeats 4000000
namespace FR
open PySem PySem.Spec PyProof.Rows L2 RF
section
variable {P : Program} {w : World} {K : PySem.W.Frag} {mg : Str → Option Value} {base : Heap} {C fI pT gT pB gB : Addr} {fdI fdT fdB : FuncData}
abbrev sCrs : Stmt := top 39
theorem scCrs : FnScope ["rows"] ["rows"] (defScope sCrs) := ⟨rfl, rfl, rfl, by decide +kernel, rfl, by decide +kernel, by decide +kernel⟩
def spCrs (C : Addr) : Sp := fun vs H Q _ => ∃ (a : Addr) (pss : List (List PI)) (n : Nat), vs = [.ref a] ∧ TMx C H a pss ∧ Rs pss n ∧ ∀ H', Same H H' → Q .non H'
theorem ok_crs {f : Addr} {fd : FuncData} (F : Fun K "_check_rows" "_check_rows" sCrs f fd) (gR : Glo P w K mg base "is_rows" 4 ["value"] (spIrs C)) : FnOk P w K mg base CX0 5 f fd ["rows"] (spCrs C) := by
  refine F.ok scCrs (fun vs H Q E h => ?_) (fun cdv A outer s H vs Q E hr h => ?_)
  · obtain ⟨a, pss, n, rfl, _⟩ := h
    rfl
  · obtain ⟨a, pss, n, rfl, tm, R, q⟩ := h
    refine ⟨_, (pss_one (ps_if (pt_not (pt_val (pe_call gR.G hr (by rfl) gR.m gR.k gR.b .nil pass0 (pa_cons (pv 0) pa_nil)))) pss_never pss_nil)), ?_⟩
    exact ⟨_, rfl, a, pss, n, rfl, tm, R, fun H' s' => ⟨_, rfl, iteF (q H' s')⟩⟩
abbrev sCfs : Stmt := top 40
theorem scCfs : FnScope ["value", "many"] ["value", "many"] (defScope sCfs) := ⟨rfl, rfl, rfl, by decide +kernel, rfl, by decide +kernel, by decide +kernel⟩
def spCfs (C : Addr) : Sp := fun vs H Q _ => ∃ (a : Addr) (ps : List PI), vs = [.ref a, .int (ps.length : Nat)] ∧ Tf C H a ps ∧ ∀ H', Same H H' → Q .non H'
theorem ok_cfs {f : Addr} {fd : FuncData} (F : Fun K "_check_fractions" "_check_fractions" sCfs f fd) (gF : Glo P w K mg base "is_fractions" 3 ["value"] (spFs C)) (mL : mg "len" = none) : FnOk P w K mg base CX0 4 f fd ["value", "many"] (spCfs C) := by
  refine F.ok scCfs (fun vs H Q E h => ?_) (fun cdv A outer s H vs Q E hr h => ?_)
  · obtain ⟨a, ps, rfl, _⟩ := h
    rfl
  · obtain ⟨a, ps, rfl, tf, q⟩ := h
    refine ⟨_, (pss_one (ps_if (PW.pt (pw_or (pt_not (pt_val (pe_call gF.G hr (by rfl) gF.m gF.k gF.b .nil pass0 (pa_cons (pv 0) pa_nil)))) (pw_or1 (pt_cmpR op_ne (pe_callB call_len_seq (by rfl) mL PySem.boot_len (pa_cons (pv 0) pa_nil)) (pv 1) (nomark _))))) pss_never pss_nil)), ?_⟩
    refine ⟨_, rfl, a, ps, rfl, tf, fun H' s' => ⟨_, rfl, iteF ?_⟩⟩
    obtain ⟨⟨xs, hx, hf⟩, _, _, _⟩ := tf.same s'
    refine ⟨_, rfl, a, xs, rfl, .inr (SqT.of hx), _, rfl, rfl, _, rfl, ?_⟩
    rw [hf.1, decide_eq_true rfl]
    exact iteF (q H' s')
end
end FR
set_option Elab.async false
set_option linter.all false
set_option maxRecDepth 100000
set_option maxHeartbeats 4000000
namespace FR
open PySem PySem.Spec PyProof.Rows L2 RF
section
variable {P : Program} {w : World} {K : PySem.W.Frag} {mg : Str → Option Value} {base : Heap}
def lineP (ps : List PI) : List Int := topsP ps (lcmP ps)
/-- the class Echelon, for calls -/
structure EcK (P : Program) (w : World) (K : PySem.W.Frag) (mg : Str → Option Value) (base : Heap) (D fI' : Addr) (fdI' : FuncData) : Prop where
  T : TxtE K mg D
  M : Mk K D fI'
  G : FnOk P w K mg base CX0 1 fI' fdI' ["self", "width"] (spEi D)
  b : Binds K fdI' ["self", "width"] []
  m : mg "Echelon" = some (.ref D)
def outP (rows : List (List Int)) (places : List Nat) (d : Int) (ys : List Nat) : List (List PI) := ys.map fun y => ovP (rows.getD (places.idxOf y) []) d
end
end FR
set_option Elab.async false
set_option linter.all false
set_option maxRecDepth 100000
namespace LD
open PySem PySem.Spec PyProof.Rows L2
/-! ### The text by places -/
def top (i : Nat) : Stmt := PySem.Challenge.pw_surelyends_k08_errors_of_rows.main.body.getD i (.Pass ⟨0, 0, 0, 0⟩)
abbrev sDice : Stmt := top 53
abbrev sRoll : Stmt := top 54
abbrev sOneOf : Stmt := top 55
/-! ### The dice -/
abbrev dxs (a b c : Int) : List V := [V.int a, V.int b, V.int c]
/-- the dice stand at d -/
def DiceAt (H : Hp) (d : Addr) : Prop := ∃ a b c : Int, H d = some (.lst (dxs a b c))
/-- nothing but the dice has changed -/
structure Rolled (H H' : Hp) (d : Addr) : Prop where
  ho : ∃ a b c : Int, H' = upd H d (.lst (dxs a b c))
def spRoll : Sp := fun vs H Q _ => ∃ (d : Addr) (n : Int), vs = [.ref d, .int n] ∧ DiceAt H d ∧ 0 < n ∧ n < 1073741824 ∧
  ∀ (r a b c : Int), 0 ≤ r → r < n → Q (.int r) (upd H d (.lst (dxs a b c)))
section
variable {P : Program} {w : World} {K : PySem.W.Frag} {mg : Str → Option Value} {base : Heap}
theorem scR : FnScope ["_law_dice_here", "_law_total", "_law_found", "_law_one", "_law_two"] ["_law_dice_here", "_law_total"] (defScope sRoll) :=
  ⟨rfl, rfl, rfl, by decide +kernel, rfl, by decide +kernel, by decide +kernel⟩
theorem nz1 : (2305843009213693951 : Int) ≠ 0 := by decide
theorem nz2 : (2305843009213693921 : Int) ≠ 0 := by decide
theorem nz3 : (2305843009213693907 : Int) ≠ 0 := by decide
theorem at0 {a b c : Int} : atI (dxs a b c) (0 : Int) = some (V.int a) := rfl
theorem at1 {a b c : Int} : atI (dxs a b c) (1 : Int) = some (V.int b) := rfl
theorem at2 {a b c : Int} : atI (dxs a b c) (2 : Int) = some (V.int c) := rfl
theorem ok_roll {f : Addr} {fd : FuncData} (F : Fun K "_law_roll" "_law_roll" sRoll f fd) (mI : mg "int" = none) : FnOk P w K mg base CX0 1 f fd ["_law_dice_here", "_law_total"] spRoll := by
  refine F.ok scR (fun vs H Q E h => ?_) (fun cdv A outer s H vs Q E hr h => ?_)
  · obtain ⟨d, n, rfl, _⟩ := h
    rfl
  · obtain ⟨d, n, rfl, ⟨a, b, c, hd⟩, h0, h1, k⟩ := h
    have hu := hu_of hr
    refine ⟨_, pss_cons (ps_if (pt_cmpR op_gt (pe_ix ix_list (pv 0) pe_int (fun _ _ => rfl)) pe_int (nomark _))
        (pss_cons (ps_set (i := 2) scR.nd rfl (Or.inl rfl) (pe_op op_modN (pe_callTy call_int1 (by rfl) mI (by decide +kernel) (pa_cons (pe_ix ix_list (pv 0) pe_int (fun _ _ => rfl)) pa_nil)) (pv 1)))
        (pss_cons (ps_asg (pe_op op_fdivN (pe_ix ix_list (pv 0) pe_int (fun _ _ => rfl)) (pv 1)) (pg_sub (pv 0) pe_int set_list))
        (pss_one (ps_ret (pv 2))))) pss_nil)
      (pss_cons (ps_asg (pe_op op_add (pe_ix ix_list (pv 0) pe_int (fun _ _ => rfl)) pe_int) (pg_sub (pv 0) pe_int set_list))
      (pss_cons (ps_set (i := 3) scR.nd rfl (Or.inl rfl) (pe_op op_modN (pe_callTy call_int1 (by rfl) mI (by decide +kernel) (pa_cons (pe_op op_add (pe_ix ix_list (pv 0) pe_int (fun _ _ => rfl)) (pe_op op_mul pe_int (pe_ix ix_list (pv 0) pe_int (fun _ _ => rfl)))) pa_nil)) pe_int))
      (pss_cons (ps_set (i := 4) scR.nd rfl (Or.inl rfl) (pe_op op_add (pe_op op_mul (pe_op op_modN (pe_callTy call_int1 (by rfl) mI (by decide +kernel) (pa_cons (pe_op op_mul (pv 3) (pv 3)) pa_nil)) pe_int) (pv 3)) (pe_op op_mul pe_int (pe_ix ix_list (pv 0) pe_int (fun _ _ => rfl)))))
      (pss_cons (ps_set (i := 4) scR.nd rfl (Or.inl rfl) (pe_op op_modN (pe_callTy call_int1 (by rfl) mI (by decide +kernel) (pa_cons (pv 4) pa_nil)) pe_int))
      (pss_one (ps_ret (pe_op op_modN (pe_callTy call_int1 (by rfl) mI (by decide +kernel) (pa_cons (pe_op op_fdivN (pv 4) pe_int) pa_nil)) (pv 1)))))))), ?_⟩
    refine ⟨_, rfl, d, _, _, _, rfl, rfl, SqL.of hd, at0, _, _, rfl, rfl, _, rfl, ?_⟩
    have hm : ∀ x : Int, 0 ≤ x.fmod n ∧ x.fmod n < n := fun x => by
      rw [Int.fmod_eq_emod_of_nonneg x (by omega)]
      exact ⟨Int.emod_nonneg x (by omega), Int.emod_lt_of_pos x h0⟩
    refine ite2 (fun ha => ?_) (fun ha => ?_)
    · refine ⟨_, rfl, d, _, _, _, rfl, rfl, SqL.of hd, at0, .inl ⟨_, rfl, ?_⟩⟩
      refine ⟨_, rfl, _, _, rfl, rfl, by omega, ?_⟩
      refine ⟨_, rfl, d, _, _, _, rfl, rfl, SqL.of hd, at0, _, rfl, _, _, rfl, rfl, ⟨by omega, by omega⟩, ?_⟩
      refine ⟨_, rfl, d, _, _, 0, rfl, rfl, hd, rfl, ?_⟩
      refine ⟨_, rfl, ?_⟩
      exact k _ _ _ _ (hm _).1 (hm _).2
    · refine ⟨_, rfl, d, _, _, _, rfl, rfl, SqL.of hd, at2, _, _, rfl, rfl, ?_⟩
      refine ⟨_, rfl, d, _, _, 2, rfl, rfl, hd, rfl, ?_⟩
      have hd2 : upd H d (.lst (dxs a b (c + 1))) d = some (.lst (dxs a b (c + 1))) := upd_same
      refine ⟨_, rfl, d, _, _, _, rfl, rfl, SqL.of hd2, at1, ?_⟩
      refine ⟨_, rfl, d, _, _, _, rfl, rfl, SqL.of hd2, at2, ?_⟩
      refine ⟨_, _, rfl, rfl, .inl ⟨by decide, by decide⟩, ?_⟩
      refine ⟨_, _, rfl, rfl, .inl ⟨_, rfl, ?_⟩⟩
      refine ⟨_, _, rfl, rfl, nz1, ?_⟩
      generalize hone : Int.fmod (b + 1000193 * (c + 1)) 2305843009213693951 = one
      have ho : 0 ≤ one ∧ one < 2305843009213693951 := by
        rw [← hone, Int.fmod_eq_emod_of_nonneg _ (by decide)]
        exact ⟨Int.emod_nonneg _ (by decide), Int.emod_lt_of_pos _ (by decide)⟩
      refine ⟨_, rfl, _, rfl, _, _, rfl, rfl, .inl ⟨by omega, by omega⟩, .inl ⟨_, rfl, ?_⟩⟩
      refine ⟨_, _, rfl, rfl, nz2, ?_⟩
      generalize htwo : Int.fmod (one * one) 2305843009213693921 = two
      refine ⟨_, rfl, _, _, rfl, rfl, .inr ⟨by omega, by omega⟩, ?_⟩
      refine ⟨_, rfl, d, _, _, _, rfl, rfl, SqL.of hd2, at2, ?_⟩
      refine ⟨_, _, rfl, rfl, .inl ⟨by decide, by decide⟩, ?_⟩
      refine ⟨_, _, rfl, rfl, ?_⟩
      generalize two * one + 8221 * (c + 1) = three
      refine ⟨_, rfl, .inl ⟨_, rfl, ?_⟩⟩
      refine ⟨_, _, rfl, rfl, nz3, ?_⟩
      refine ⟨_, rfl, _, _, rfl, rfl, ⟨by decide, by decide⟩, .inl ⟨_, rfl, ?_⟩⟩
      refine ⟨_, rfl, _, _, rfl, rfl, by omega, ?_⟩
      exact k _ _ _ _ (hm _).1 (hm _).2

/-! ### powers of any size within the line -/
def CPowW (i j : Int) : Prop := 0 ≤ j ∧ (Builtin.Int.intBits i : Int) * j ≤ 2 ^ 27
theorem op_powW {X : Cx} : OpR X (binaryOp .Pow) (rI CPowW fun i j => .int (i ^ j.toNat)) := opI fun _ _ _ _ _ _ _ hc q => pow_int hc.1 hc.2 q
theorem pow60 : CPowW 10 60 := ⟨by decide, by decide +kernel⟩
theorem pow600 : CPowW ((10 : Int) ^ (60 : Int).toNat) 10 := ⟨by decide, by decide +kernel⟩
theorem pow18 : CPowW 10 18 := ⟨by decide, by decide +kernel⟩
def big600 : Int := ((10 : Int) ^ (60 : Int).toNat) ^ (10 : Int).toNat
theorem big600_nz : ((10 : Int) ^ (60 : Int).toNat) ^ (10 : Int).toNat ≠ 0 := by decide +kernel
theorem nz4 : (2147483549 : Int) ≠ 0 := by decide
theorem nz5 : (2147483543 : Int) ≠ 0 := by decide
def spDice (K : PySem.W.Frag) : Sp := fun vs H Q _ => ∃ (a : Addr) (ns : List Int) (i : Nat) (j : Int), vs = [.ref a, .int j] ∧ j = (i : Int) ∧ SqL K H a (ns.map V.int) ∧
  ∀ (p : Addr) (x y z : Int), H p = none → Q (.ref p) (upd H p (.lst (dxs x y z)))
structure TxtD (mg : Str → Option Value) : Prop where
  mI : mg "int" = none
  mL : mg "len" = none
  mA : mg "abs" = none
  mM : mg "max" = none
theorem scD : FnScope ["_law_script", "_law_at", "_law_cell", "_law_great", "_law_mixed"] ["_law_script", "_law_at"] (defScope sDice) :=
  ⟨rfl, rfl, rfl, by decide +kernel, rfl, by decide +kernel, by decide +kernel⟩
theorem ok_dice {f : Addr} {fd : FuncData} (F : Fun K "_law_dice" "_law_dice" sDice f fd) (T : TxtD mg) : FnOk P w K mg base CX0 1 f fd ["_law_script", "_law_at"] (spDice K) := by
  refine F.ok scD (fun vs H Q E h => ?_) (fun cdv A outer s H vs Q E hr h => ?_)
  · obtain ⟨a, ns, i, j, rfl, _⟩ := h
    rfl
  · obtain ⟨a, ns, i, j, rfl, rfl, hs, k⟩ := h
    have hu := hu_of hr
    refine ⟨_, pss_cons (ps_set (i := 2) scD.nd rfl (Or.inl rfl) (pe_op op_add (pe_op op_mul pe_int (pv 1)) pe_int))
      (pss_cons (ps_if (pt_cmpR op_lt (pv 1) (pe_callB call_len_seq (by rfl) T.mL PySem.boot_len (pa_cons (pv 0) pa_nil)) (nomark _))
        (pss_one (ps_set (i := 2) scD.nd rfl (Or.inl rfl) (pe_ix ix_list (pv 0) (pv 1) (fun _ _ => rfl)))) pss_nil)
      (pss_cons (ps_set (i := 3) scD.nd rfl (Or.inl rfl) (pe_op op_modN (pe_callTy call_int1 (by rfl) T.mI (by decide +kernel) (pa_cons (pe_callB call_abs (by rfl) T.mA (by decide +kernel) (pa_cons (pv 2) pa_nil)) pa_nil))
          (pe_op op_powW (pe_op op_powW pe_int pe_int) pe_int)))
      (pss_cons (ps_set (i := 4) scD.nd rfl (Or.inl rfl) (pe_op op_add (pe_op op_add (pe_op op_add
          (pe_op op_mul (pe_op op_modN (pe_callTy call_int1 (by rfl) T.mI (by decide +kernel) (pa_cons (pv 3) pa_nil)) pe_int) pe_int)
          (pe_op op_mul pe_int (pv 1)))
          (pe_op op_mul pe_int (pe_callTy call_int1 (by rfl) T.mI (by decide +kernel) (pa_cons (pe_cmpR op_lt (pv 2) pe_int (nomark _)) pa_nil)))) pe_int))
      (pss_one (ps_ret (pe_lst (pa_cons (pe_callB (call_max2 rfl) (by rfl) T.mM (by decide +kernel) (pa_cons pe_int (pa_cons (pe_op op_sub (pv 3) (pe_op op_powW pe_int pe_int)) pa_nil)))
          (pa_cons (pe_op op_modN (pe_callTy call_int1 (by rfl) T.mI (by decide +kernel) (pa_cons (pv 4) pa_nil)) pe_int) (pa_cons pe_int pa_nil))))))))), ?_⟩
    refine ⟨_, rfl, _, _, rfl, rfl, .inl ⟨by decide, by decide⟩, _, _, rfl, rfl, ?_⟩
    refine ⟨_, rfl, _, rfl, a, _, rfl, .inl hs, _, _, rfl, rfl, _, rfl, ?_⟩
    refine ite2 (fun ha => ?_) (fun ha => ?_)
    · have hlt : i < (ns.map V.int).length := by
        have z := of_decide_eq_true ha
        omega
      refine ⟨_, rfl, _, rfl, a, _, _, V.int ((ns.getD i 0)), rfl, rfl, hs, atI_nat (by
        rw [List.length_map] at hlt
        simp [hlt]), ?_⟩
      refine ⟨_, rfl, _, rfl, .inl ⟨_, rfl, ?_⟩⟩
      refine ⟨_, _, rfl, rfl, pow60, _, _, rfl, rfl, pow600, _, _, rfl, rfl, big600_nz, ?_⟩
      refine ⟨_, rfl, .inl ⟨_, rfl, ?_⟩⟩
      refine ⟨_, _, rfl, rfl, nz4, _, _, rfl, rfl, .inr ⟨by decide, by decide⟩, ?_⟩
      refine ⟨_, rfl, _, _, rfl, rfl, .inl ⟨by decide, by decide⟩, _, _, rfl, rfl, ?_⟩
      refine ⟨_, rfl, _, _, rfl, rfl, .inr ⟨_, rfl, ?_⟩⟩
      refine ⟨_, _, rfl, rfl, .inl ⟨by decide, by decide⟩, _, _, rfl, rfl, _, _, rfl, rfl, ?_⟩
      refine ⟨_, rfl, _, _, rfl, rfl, pow18, _, _, rfl, rfl, _, _, rfl, ?_⟩
      refine ⟨_, rfl, .inl ⟨_, rfl, ?_⟩⟩
      refine ⟨_, _, rfl, rfl, nz5, ?_⟩
      refine ⟨by show 3 ≤ sizeLine; decide, fun p hp => ?_⟩
      exact k _ _ _ _ hp
    · refine ⟨_, rfl, _, rfl, .inl ⟨_, rfl, ?_⟩⟩
      refine ⟨_, _, rfl, rfl, pow60, _, _, rfl, rfl, pow600, _, _, rfl, rfl, big600_nz, ?_⟩
      refine ⟨_, rfl, .inl ⟨_, rfl, ?_⟩⟩
      refine ⟨_, _, rfl, rfl, nz4, _, _, rfl, rfl, .inr ⟨by decide, by decide⟩, ?_⟩
      refine ⟨_, rfl, _, _, rfl, rfl, .inl ⟨by decide, by decide⟩, _, _, rfl, rfl, ?_⟩
      refine ⟨_, rfl, _, _, rfl, rfl, .inr ⟨_, rfl, ?_⟩⟩
      refine ⟨_, _, rfl, rfl, .inl ⟨by decide, by decide⟩, _, _, rfl, rfl, _, _, rfl, rfl, ?_⟩
      refine ⟨_, rfl, _, _, rfl, rfl, pow18, _, _, rfl, rfl, _, _, rfl, ?_⟩
      refine ⟨_, rfl, .inl ⟨_, rfl, ?_⟩⟩
      refine ⟨_, _, rfl, rfl, nz5, ?_⟩
      refine ⟨by show 3 ≤ sizeLine; decide, fun p hp => ?_⟩
      exact k _ _ _ _ hp
/-! ### one of a list's items -/
def spOneOf : Sp := fun vs H Q _ => ∃ (d p : Addr) (xs : List V), vs = [.ref d, .ref p] ∧ DiceAt H d ∧ H p = some (.lst xs) ∧ p ≠ d ∧ 0 < xs.length ∧ xs.length < 1000 ∧
  ∀ (k : Nat) (x : V) (a b c : Int), xs[k]? = some x → Q x (upd H d (.lst (dxs a b c)))
theorem scO : FnScope ["_law_dice_here", "_law_items"] ["_law_dice_here", "_law_items"] (defScope sOneOf) :=
  ⟨rfl, rfl, rfl, by decide +kernel, rfl, by decide +kernel, by decide +kernel⟩
theorem ok_oneOf {f fR : Addr} {fd fdR : FuncData} (F : Fun K "_law_one_of" "_law_one_of" sOneOf f fd) (T : TxtD mg) (FR : Fun K "_law_roll" "_law_roll" sRoll fR fdR)
    (mR : mg "_law_roll" = some (.ref fR)) (kR : PySem.W.keepIn K (.ref fR) = true) (bR : Binds K fdR ["_law_dice_here", "_law_total"] []) : FnOk P w K mg base CX0 2 f fd ["_law_dice_here", "_law_items"] spOneOf := by
  have G : FnOk P w K mg base CX0 1 fR fdR ["_law_dice_here", "_law_total"] spRoll := ok_roll FR T.mI
  refine F.ok scO (fun vs H Q E h => ?_) (fun cdv A outer s H vs Q E hr h => ?_)
  · obtain ⟨d, p, xs, rfl, _⟩ := h
    rfl
  · obtain ⟨d, p, xs, rfl, hd, hp, ne, h0, h1, k⟩ := h
    have hu := hu_of hr
    refine ⟨_, pss_one (ps_ret (pe_ix ix_list (pv 1) (pe_call G hr (by rfl) mR kR bR .nil pass0
      (pa_cons (pv 0) (pa_cons (pe_callB call_len_seq (by rfl) T.mL PySem.boot_len (pa_cons (pv 1) pa_nil)) pa_nil))) (fun _ _ => rfl))), ?_⟩
    refine ⟨_, rfl, _, rfl, _, rfl, p, xs, rfl, .inl (SqL.of hp), d, _, rfl, hd, by omega, by omega, fun r a b c hr0 hr1 => ?_⟩
    obtain ⟨k', rfl⟩ : ∃ k' : Nat, r = (k' : Int) := ⟨r.toNat, by omega⟩
    have hk : k' < xs.length := by omega
    refine ⟨p, xs, _, xs[k'], rfl, rfl, SqL.of (by rw [upd_ne ne]; exact hp), atI_nat (List.getElem?_eq_getElem hk), ?_⟩
    exact k k' _ a b c (List.getElem?_eq_getElem hk)
end
end LD
set_option Elab.async false
set_option linter.all false
set_option maxRecDepth 100000
set_option maxHeartbeats 4000000
namespace FR
open PySem PySem.Spec PyProof.Rows L2 LD
section
variable {P : Program} {w : World} {K : PySem.W.Frag} {mg : Str → Option Value} {base : Heap}
/-! ### _law_gcd -/
abbrev sGcd : Stmt := FR.top 56
theorem scGcd : FnScope ["_law_one", "_law_two"] ["_law_one", "_law_two"] (defScope sGcd) := ⟨rfl, rfl, rfl, by decide +kernel, rfl, by decide +kernel, by decide +kernel⟩
def spGcd : Sp := fun vs H Q _ => ∃ a b : Nat, vs = [.int a, .int b] ∧ Q (.int (Nat.gcd a b : Nat)) H
theorem ok_gcd {f : Addr} {fd : FuncData} (F : Fun K "_law_gcd" "_law_gcd" sGcd f fd) (mI : mg "int" = none) : FnOk P w K mg base CX0 1 f fd ["_law_one", "_law_two"] spGcd := by
  refine F.ok scGcd (fun vs H Q E h => ?_) (fun cdv A outer s H vs Q E hr h => ?_)
  · obtain ⟨a, b, rfl, _⟩ := h
    rfl
  · obtain ⟨a, b, rfl, q⟩ := h
    refine ⟨_, pss_cons (ps_while PassesOwn.never (pt_cmpR op_gt (pv 1) pe_int (nomark _)) (pss_one (ps_par (i := 0) (j := 1) (by rfl) scGcd.nd rfl rfl (by decide) rfl rfl (pa_cons (pv 1) (pa_cons (pe_op op_modN (pe_callTy call_int1 (by rfl) mI (by decide +kernel) (pa_cons (pv 0) pa_nil)) (pv 1)) pa_nil)) (by rfl))))
      (pss_one (ps_ret (pv 0))), ?_⟩
    refine while_by (fun σ Hc => Hc = H ∧ ∃ x y : Nat, σ = [some (.int x), some (.int y)] ∧ Nat.gcd x y = Nat.gcd a b) (fun σ _ => match σ with | [_, some (.int y)] => y.toNat | _ => 0) ⟨rfl, a, b, rfl, rfl⟩ ?_ ?_
    · rintro σ Hc ⟨rfl, x, y, rfl, g⟩
      refine ⟨_, rfl, _, _, rfl, rfl, _, rfl, ite2 (fun z => ?_) (fun z => ?_)⟩
      · have hy : 0 < y := by have := of_decide_eq_true z; omega
        have e : (x : Int).fmod (y : Int) = ((x % y : Nat) : Int) := by rw [Int.fmod_eq_emod_of_nonneg _ (by omega)]; rfl
        have hn : (y : Int) ≠ 0 := by omega
        refine ⟨_, rfl, _, rfl, .inl ⟨_, rfl, ?_⟩⟩
        refine ⟨_, rfl, _, _, rfl, rfl, hn, ?_⟩
        refine ⟨_, _, rfl, ?_⟩
        refine ⟨⟨rfl, y, x % y, by rw [← e]; rfl, ?_⟩, ?_⟩
        · rw [← g, Nat.gcd_comm x y, Nat.gcd_rec y x, Nat.gcd_comm]
        · show ((x : Int).fmod (y : Int)).toNat < (y : Int).toNat
          rw [e]
          have := Nat.mod_lt x hy
          omega
      · have hy : y = 0 := by
          have : ¬ (0 : Int) < y := fun c => z (decide_eq_true c)
          omega
        subst hy
        rw [Nat.gcd_zero_right] at g
        refine ⟨_, rfl, ?_⟩
        subst g
        exact q
    · rintro σ Hc R R' im ⟨v, e1, i, j, e2, e3, k, e4, c⟩
      exact ⟨v, e1, i, j, e2, e3, k, e4, im _ _ c⟩
/-! ### _law_ratio, _law_pair, _law_told -/
abbrev sRat : Stmt := FR.top 57
theorem scRat : FnScope ["_law_top", "_law_bottom", "_law_part"] ["_law_top", "_law_bottom"] (defScope sRat) := ⟨rfl, rfl, rfl, by decide +kernel, rfl, by decide +kernel, by decide +kernel⟩
def spRat : Sp := fun vs H Q _ => ∃ t b : Int, vs = [.int t, .int b] ∧ 0 < b ∧ b.natAbs < 2 ^ 8000 ∧ ∀ p, H p = none → Q (.ref p) (upd H p (.tup [.int (nT t b), .int (nB t b)]))
theorem abs_nat (t : Int) : (if t < 0 then -t else t) = ((t.natAbs : Nat) : Int) := by split <;> omega
theorem ok_rat {f fG : Addr} {fd fdG : FuncData} (F : Fun K "_law_ratio" "_law_ratio" sRat f fd) (GG : FnOk P w K mg base CX0 1 fG fdG ["_law_one", "_law_two"] spGcd) (mG : mg "_law_gcd" = some (.ref fG))
    (kG : PySem.W.keepIn K (.ref fG) = true) (bG : Binds K fdG ["_law_one", "_law_two"] []) (ma : mg "abs" = none) : FnOk P w K mg base CX0 2 f fd ["_law_top", "_law_bottom"] spRat := by
  refine F.ok scRat (fun vs H Q E h => ?_) (fun cdv A outer s H vs Q E hr h => ?_)
  · obtain ⟨t, b, rfl, _⟩ := h
    rfl
  · obtain ⟨t, b, rfl, hb, hz, q⟩ := h
    refine ⟨_, pss_cons (ps_set (i := 2) scRat.nd rfl (Or.inl rfl) (pe_call GG hr (by rfl) mG kG bG .nil pass0 (pa_cons (pe_callB call_abs (by rfl) ma (by decide +kernel) (pa_cons (pv 0) pa_nil)) (pa_cons (pv 1) pa_nil))))
      (pss_one (ps_ret (pe_tup (pa_cons (pe_op op_fdivX (pv 0) (pv 2)) (pa_cons (pe_op op_fdivX (pv 1) (pv 2)) pa_nil))))), ?_⟩
    have ed : dv t b = ((Nat.gcd t.natAbs b.natAbs : Nat) : Int) := if_neg (by omega)
    have hb0 : b ≠ 0 := by omega
    have dz : ∀ i : Int, CDivX i ((Nat.gcd t.natAbs b.natAbs : Nat) : Int) := fun i => by
      rw [← ed]
      exact div_ok (dv_ne hb0) (Nat.lt_of_le_of_lt (dv_le hb0) hz) (by decide) (by decide)
    have eb : V.int b = V.int ((b.natAbs : Nat) : Int) := by rw [show ((b.natAbs : Nat) : Int) = b by omega]
    refine ⟨_, rfl, _, rfl, _, rfl, t.natAbs, b.natAbs, by rw [abs_nat, eb]; rfl, ?_⟩
    refine ⟨_, rfl, _, rfl, _, _, rfl, rfl, dz _, _, rfl, _, rfl, _, _, rfl, rfl, dz _, small1000 (by show 1 ≤ 1000; decide), fun p hp => ?_⟩
    have e := q p hp
    unfold nT nB at e
    rw [ed] at e
    exact e
end
end FR
set_option Elab.async false
set_option linter.all false
set_option maxRecDepth 100000
set_option maxHeartbeats 4000000
namespace FR
open PySem PySem.Spec PyProof.Rows L2 LD
/-! ### the law's own sums, products, less, powers -/
/-- a pair of integers stands at a -/
def TA (H : Hp) (a : Addr) (p : PI) : Prop := H a = some (.tup [.int p.1, .int p.2])
/-- short, with a bottom above 0 -/
structure Pp (p : PI) : Prop where
  b0 : 0 < p.2
  tz : p.1.natAbs < 2 ^ 4000
  bz : p.2.natAbs < 2 ^ 4000
theorem Pp.mul {p r : PI} (h : Pp p) (g : Pp r) : CMulW p.1 r.1 ∧ CMulW p.1 r.2 ∧ CMulW r.1 p.2 ∧ CMulW p.2 r.2 ∧ (p.2 * r.2).natAbs < 2 ^ 8000 :=
  ⟨wide_mul h.tz g.tz (by decide) (by decide) (by decide), wide_mul h.tz g.bz (by decide) (by decide) (by decide), wide_mul g.tz h.bz (by decide) (by decide) (by decide), wide_mul h.bz g.bz (by decide) (by decide) (by decide), wide_lt h.bz g.bz⟩
def spLP (g : PI → PI → PI) : Sp := fun vs H Q _ => ∃ (a c : Addr) (p r : PI), vs = [.ref a, .ref c] ∧ TA H a p ∧ TA H c r ∧ Pp p ∧ Pp r ∧ ∀ x, H x = none → Q (.ref x) (upd H x (.tup [.int (g p r).1, .int (g p r).2]))
def byP (a c : PI) : PI := (nT (a.1 * c.1) (a.2 * c.2), nB (a.1 * c.1) (a.2 * c.2))
section
variable {P : Program} {w : World} {K : PySem.W.Frag} {mg : Str → Option Value} {base : Heap} {C fI pT gT pB gB : Addr} {fdI fdT fdB : FuncData}
abbrev sPlus : Stmt := FR.top 58
abbrev N12 : List Str := ["_law_one", "_law_two"]
theorem scPl : FnScope N12 N12 (defScope sPlus) := ⟨rfl, rfl, rfl, by decide +kernel, rfl, by decide +kernel, by decide +kernel⟩
theorem ok_plus {f : Addr} {fd : FuncData} (F : Fun K "_law_plus" "_law_plus" sPlus f fd) (gR : Glo P w K mg base "_law_ratio" 2 ["_law_top", "_law_bottom"] spRat) : FnOk P w K mg base CX0 3 f fd N12 (spLP plusP) := by
  refine F.ok scPl (fun vs H Q E h => ?_) (fun cdv A outer s H vs Q E hr h => ?_)
  · obtain ⟨a, c, p, r, rfl, _⟩ := h
    rfl
  · obtain ⟨a, c, p, r, rfl, ha, hc, z1, z2, q⟩ := h
    obtain ⟨m1, m2, m3, m4, m5⟩ := z1.mul z2
    refine ⟨_, pss_one (ps_ret (pe_call gR.G hr (by rfl) gR.m gR.k gR.b .nil pass0 (pa_cons (pe_op op_add (pe_op op_mulW (pe_ix ix_tup (pv 0) pe_int (fun _ _ => rfl)) (pe_ix ix_tup (pv 1) pe_int (fun _ _ => rfl))) (pe_op op_mulW (pe_ix ix_tup (pv 1) pe_int (fun _ _ => rfl)) (pe_ix ix_tup (pv 0) pe_int (fun _ _ => rfl))))
      (pa_cons (pe_op op_mulW (pe_ix ix_tup (pv 0) pe_int (fun _ _ => rfl)) (pe_ix ix_tup (pv 1) pe_int (fun _ _ => rfl))) pa_nil)))), ?_⟩
    refine ⟨_, rfl, a, _, _, _, rfl, rfl, SqT.of ha, rfl, _, rfl, c, _, _, _, rfl, rfl, SqT.of hc, rfl, _, _, rfl, rfl, m2, ?_⟩
    refine ⟨_, rfl, c, _, _, _, rfl, rfl, SqT.of hc, rfl, _, rfl, a, _, _, _, rfl, rfl, SqT.of ha, rfl, _, _, rfl, rfl, m3, _, _, rfl, rfl, ?_⟩
    refine ⟨_, rfl, a, _, _, _, rfl, rfl, SqT.of ha, rfl, _, rfl, c, _, _, _, rfl, rfl, SqT.of hc, rfl, _, _, rfl, rfl, m4, ?_⟩
    exact ⟨_, _, rfl, Int.mul_pos z1.b0 z2.b0, m5, fun x hx => q x hx⟩
abbrev sLby : Stmt := FR.top 59
theorem scLb : FnScope N12 N12 (defScope sLby) := ⟨rfl, rfl, rfl, by decide +kernel, rfl, by decide +kernel, by decide +kernel⟩
theorem ok_lby {f : Addr} {fd : FuncData} (F : Fun K "_law_by" "_law_by" sLby f fd) (gR : Glo P w K mg base "_law_ratio" 2 ["_law_top", "_law_bottom"] spRat) : FnOk P w K mg base CX0 3 f fd N12 (spLP byP) := by
  refine F.ok scLb (fun vs H Q E h => ?_) (fun cdv A outer s H vs Q E hr h => ?_)
  · obtain ⟨a, c, p, r, rfl, _⟩ := h
    rfl
  · obtain ⟨a, c, p, r, rfl, ha, hc, z1, z2, q⟩ := h
    obtain ⟨m1, m2, m3, m4, m5⟩ := z1.mul z2
    refine ⟨_, pss_one (ps_ret (pe_call gR.G hr (by rfl) gR.m gR.k gR.b .nil pass0 (pa_cons (pe_op op_mulW (pe_ix ix_tup (pv 0) pe_int (fun _ _ => rfl)) (pe_ix ix_tup (pv 1) pe_int (fun _ _ => rfl)))
      (pa_cons (pe_op op_mulW (pe_ix ix_tup (pv 0) pe_int (fun _ _ => rfl)) (pe_ix ix_tup (pv 1) pe_int (fun _ _ => rfl))) pa_nil)))), ?_⟩
    refine ⟨_, rfl, a, _, _, _, rfl, rfl, SqT.of ha, rfl, _, rfl, c, _, _, _, rfl, rfl, SqT.of hc, rfl, _, _, rfl, rfl, m1, ?_⟩
    refine ⟨_, rfl, a, _, _, _, rfl, rfl, SqT.of ha, rfl, _, rfl, c, _, _, _, rfl, rfl, SqT.of hc, rfl, _, _, rfl, rfl, m4, ?_⟩
    exact ⟨_, _, rfl, Int.mul_pos z1.b0 z2.b0, m5, fun x hx => q x hx⟩
end
end FR
set_option Elab.async false
set_option linter.all false
set_option maxRecDepth 100000
set_option maxHeartbeats 4000000
namespace FR
open PySem PySem.Spec PyProof.Rows L2 LD
def Rl (d : Addr) (H H' : Hp) : Prop := DiceAt H' d ∧ ∀ q o, q ≠ d → H q = some o → H' q = some o
theorem Rl.refl {d : Addr} {H : Hp} (h : DiceAt H d) : Rl d H H := ⟨h, fun _ _ _ e => e⟩
theorem Rl.trans {d : Addr} {H H1 H2 : Hp} (a : Rl d H H1) (b : Rl d H1 H2) : Rl d H H2 := ⟨b.1, fun q o n e => b.2 q o n (a.2 q o n e)⟩
theorem Rl.roll {d : Addr} {H H1 : Hp} {a b c : Int} (r : Rl d H H1) : Rl d H (upd H1 d (.lst (dxs a b c))) := ⟨⟨a, b, c, upd_same⟩, fun q o n e => by rw [upd_ne n]; exact r.2 q o n e⟩
theorem Rl.new {d p : Addr} {H H1 : Hp} {o : HO} (r : Rl d H H1) (hp : H1 p = none) : Rl d H (upd H1 p o) := by
  obtain ⟨a, b, c, e⟩ := r.1
  exact ⟨⟨a, b, c, by rw [upd_ne (ne_of_none e hp)]; exact e⟩, fun q o' n e' => by
    have := r.2 q o' n e'
    rw [upd_ne (ne_of_none this hp)]
    exact this⟩
theorem Rl.free {d p : Addr} {H H1 : Hp} (r : Rl d H H1) (hd : DiceAt H d) (hp : H1 p = none) : H p = none := by
  cases e : H p with
  | none => rfl
  | some o =>
    by_cases q : p = d
    · subst q
      obtain ⟨a, b, c, e'⟩ := r.1
      rw [hp] at e'
      cases e'
    · have := r.2 p o q e
      rw [hp] at this
      cases this
theorem Rl.same {d : Addr} {H H1 H2 : Hp} (r : Rl d H H1) (s : Same H1 H2) : Rl d H H2 := by
  obtain ⟨a, b, c, e⟩ := r.1
  exact ⟨⟨a, b, c, s _ _ e⟩, fun q o n e => s _ _ (r.2 q o n e)⟩

theorem FrAt.rl {C d : Addr} {H H' : Hp} {p : Addr} {t b : Int} (h : FrAt C H p t b) (hd : DiceAt H d) (r : Rl d H H') : FrAt C H' p t b := by
  obtain ⟨dx, e⟩ := h
  obtain ⟨x, y, z, hz⟩ := hd
  exact ⟨dx, r.2 _ _ (fun w => by rw [w, hz] at e; cases e) e⟩
theorem FV.rl {C d : Addr} {H H' : Hp} {v : V} {t b : Int} (h : FV C H v t b) (hd : DiceAt H d) (r : Rl d H H') : FV C H' v t b := by
  rcases h with ⟨p, e, z⟩ | z
  · exact .inl ⟨p, e, z.rl hd r⟩
  · exact .inr z
theorem FVs.rl {C d : Addr} {H H' : Hp} {vs : List V} {ps : List PI} (h : FVs C H vs ps) (hd : DiceAt H d) (r : Rl d H H') : FVs C H' vs ps := A2.imp h fun _ _ f => f.rl hd r
theorem TP1.rl {d : Addr} {H H' : Hp} {v : V} {p : PI} (h : TP1 H v p) (hd : DiceAt H d) (r : Rl d H H') : TP1 H' v p := by
  obtain ⟨q, e, z⟩ := h
  obtain ⟨x, y, w, hz⟩ := hd
  exact ⟨q, e, r.2 _ _ (fun u => by rw [u, hz] at z; cases z) z⟩
/-- a list of pairs at a -/
def PL (H : Hp) (a : Addr) (ps : List PI) : Prop := ∃ us, H a = some (.lst us) ∧ TPs H us ps
theorem PL.same {H H' : Hp} {a : Addr} {ps : List PI} (h : PL H a ps) (s : Same H H') : PL H' a ps := by
  obtain ⟨us, e, z⟩ := h
  exact ⟨us, s _ _ e, z.same s⟩
theorem PL.rl {d : Addr} {H H' : Hp} {a : Addr} {ps : List PI} (h : PL H a ps) (n : a ≠ d) (hd : DiceAt H d) (r : Rl d H H') : PL H' a ps := by
  obtain ⟨us, e, z⟩ := h
  exact ⟨us, r.2 _ _ n e, A2.imp z fun _ _ y => y.rl hd r⟩
/-- a tuple of fractions -/
def TV (C : Addr) (H : Hp) (a : Addr) (ps : List PI) : Prop := ∃ xs, H a = some (.tup xs) ∧ FVs C H xs ps
theorem TV.same {C : Addr} {H H' : Hp} {a : Addr} {ps : List PI} (h : TV C H a ps) (s : Same H H') : TV C H' a ps := by
  obtain ⟨us, e, z⟩ := h
  exact ⟨us, s _ _ e, z.same s⟩
theorem TFr.tv {C : Addr} {H : Hp} {a : Addr} {ps : List PI} (h : TFr C H a ps) : TV C H a ps := by
  obtain ⟨us, e, z⟩ := h
  exact ⟨us, e, A2.imp z fun _ _ ⟨q, e, f⟩ => .inl ⟨q, e, f⟩⟩
section
variable {P : Program} {w : World} {K : PySem.W.Frag} {mg : Str → Option Value} {base : Heap} {C fI pT gT pB gB : Addr} {fdI fdT fdB : FuncData}
abbrev sSh : Stmt := FR.top 60
abbrev NSh : List Str := ["_law_dice_here", "_law_pair"]
theorem scSh : FnScope NSh NSh (defScope sSh) := ⟨rfl, rfl, rfl, by decide +kernel, rfl, by decide +kernel, by decide +kernel⟩
def spSh (C : Addr) : Sp := fun vs H Q _ => ∃ (d a : Addr) (p : PI), vs = [.ref d, .ref a] ∧ DiceAt H d ∧ TA H a p ∧ Lf p.1 p.2 ∧ p.2.natAbs < 2 ^ 8000 ∧ ∀ v H', FV C H' v p.1 p.2 → Rl d H H' → Q v H'
theorem ok_sh {f : Addr} {fd : FuncData} (F : Fun K "_law_shown" "_law_shown" sSh f fd) (k : FrK P w K mg base C fI pT gT pB gB fdI fdT fdB) (gR : Glo P w K mg base "_law_roll" 1 ["_law_dice_here", "_law_total"] spRoll) : FnOk P w K mg base CX0 4 f fd NSh (spSh C) := by
  refine F.ok scSh (fun vs H Q E h => ?_) (fun cdv A outer s H vs Q E hr h => ?_)
  · obtain ⟨d, a, p, rfl, _⟩ := h
    rfl
  · obtain ⟨d, a, p, rfl, hd, ha, lf, bz, q⟩ := h
    refine ⟨_, (pss_cons (ps_if (PW.pt (pw_and (pt_cmpR op_eq (pe_ix ix_tup (pv 1) pe_int (fun _ _ => rfl)) pe_int (nomark _)) (pw_and1 (pt_cmpR op_eq (pe_call gR.G (hr.mono (by decide)) (by rfl) gR.m gR.k gR.b .nil pass0 (pa_cons (pv 0) (pa_cons pe_int pa_nil))) pe_int (nomark _))))) (pss_one (ps_ret (pe_ix ix_tup (pv 1) pe_int (fun _ _ => rfl)))) pss_nil)
      (pss_one (ps_ret (pe_make k.M k.GI (hr.mono (by decide)) (by rfl) k.T.mC k.b2 .nil pass0 (pa_cons (pe_ix ix_tup (pv 1) pe_int (fun _ _ => rfl)) (pa_cons (pe_ix ix_tup (pv 1) pe_int (fun _ _ => rfl)) pa_nil)))))), ?_⟩
    have made : ∀ H1, TA H1 a p → Rl d H H1 → ∀ x dx, H1 x = none → H1 dx = none → dx ≠ x → spInit C [.ref x, .int p.1, .int p.2] (upd (upd H1 dx (.own x)) x (.ins C dx [])) (fun v H' => v = .non ∧ Q (.ref x) H') E := fun H1 h1 r x dx nx nd ne => by
      refine ⟨x, dx, _, _, rfl, upd_same, lf.ne, dv8 lf.ne bz, fun H' hf hs => ⟨rfl, ?_⟩⟩
      rw [lf.nT, lf.nB] at hf
      exact q _ H' (.inl ⟨x, rfl, hf⟩) (r.same (same_make (C := C) nx nd hs))
    refine ⟨_, rfl, a, _, _, _, rfl, rfl, SqT.of ha, rfl, rfl, _, rfl, ite2 (fun z => ?_) (fun _ => ?_)⟩
    · rw [dec_int] at z
      have z := of_decide_eq_true z
      refine ⟨_, rfl, d, 2, rfl, hd, by decide, by decide, fun r x y u h0 h2 => ?_⟩
      have ad : a ≠ d := fun w => by
        obtain ⟨_, _, _, hd⟩ := hd
        rw [w] at ha
        have ha : H d = _ := ha
        rw [hd] at ha; cases ha
      have ha2 : TA (upd H d (.lst (dxs x y u))) a p := by
        show upd H d _ a = _
        rw [upd_ne ad]; exact ha
      have r2 : Rl d H (upd H d (.lst (dxs x y u))) := (Rl.refl hd).roll
      refine ⟨rfl, _, rfl, ite2 (fun _ => ?_) (fun _ => ?_)⟩
      · exact ⟨_, rfl, a, _, _, _, rfl, rfl, SqT.of ha2, rfl, q _ _ (.inr ⟨rfl, z⟩) r2⟩
      · exact ⟨_, rfl, a, _, _, _, rfl, rfl, SqT.of ha2, rfl, _, rfl, a, _, _, _, rfl, rfl, SqT.of ha2, rfl, fun x dx nx nd ne => made _ ha2 r2 x dx nx nd ne⟩
    · exact ⟨_, rfl, a, _, _, _, rfl, rfl, SqT.of ha, rfl, _, rfl, a, _, _, _, rfl, rfl, SqT.of ha, rfl, fun x dx nx nd ne => made _ ha (Rl.refl hd) x dx nx nd ne⟩
end
end FR
set_option Elab.async false
set_option linter.all false
set_option maxRecDepth 100000
set_option maxHeartbeats 4000000
namespace FR
open PySem PySem.Spec PyProof.Rows L2 LD RF
/-- in least form and short -/
structure Pz (s : Nat) (p : PI) : Prop where
  lf : Lf p.1 p.2
  tz : p.1.natAbs < 2 ^ s
  bz : p.2.natAbs < 2 ^ s
theorem Pz.up {s t : Nat} {p : PI} (h : Pz s p) (g : s ≤ t) : Pz t p := ⟨h.lf, pow_up h.tz g, pow_up h.bz g⟩
theorem Pz.pp {s : Nat} {p : PI} (h : Pz s p) (g : s ≤ 4000) : Pp p := ⟨h.lf.1, pow_up h.tz g, pow_up h.bz g⟩
theorem Pz.by_ {s t : Nat} {p r : PI} (h : Pz s p) (g : Pz t r) : Pz (s + t) (byP p r) := by
  have n : p.2 * r.2 ≠ 0 := Int.mul_ne_zero h.lf.ne g.lf.ne
  exact ⟨lf_n n, Nat.lt_of_le_of_lt (nT_le n) (RF.mul_lt h.tz g.tz), Nat.lt_of_le_of_lt (nB_le n) (RF.mul_lt h.bz g.bz)⟩
theorem Pz.plus {s t : Nat} {p r : PI} (h : Pz s p) (g : Pz t r) : Pz (s + t + 1) (plusP p r) := by
  have n : p.2 * r.2 ≠ 0 := Int.mul_ne_zero h.lf.ne g.lf.ne
  refine ⟨lf_n n, Nat.lt_of_le_of_lt (nT_le n) ?_, Nat.lt_of_le_of_lt (nB_le n) (pow_up (RF.mul_lt h.bz g.bz) (by omega))⟩
  have a := RF.mul_lt h.tz g.bz
  have b := RF.mul_lt g.tz h.bz
  rw [Nat.add_comm t s] at b
  have e : 2 ^ (s + t) + 2 ^ (s + t) = 2 ^ (s + t + 1) := by rw [Nat.pow_succ]; omega
  generalize p.1 * r.2 = x at *
  generalize r.1 * p.2 = y at *
  omega
theorem Rl.grow {d D : Addr} {H H1 : Hp} {o : HO} (hD : H D = none) (n : D ≠ d) (r : Rl d H H1) : Rl d H (upd H1 D o) := by
  obtain ⟨⟨a, b, c, e⟩, k⟩ := r
  exact ⟨⟨a, b, c, by rw [upd_ne (Ne.symm n)]; exact e⟩, fun q u hq hu => by rw [upd_ne (ne_of_none hu hD)]; exact k q u hq hu⟩
theorem dice_ne {d D : Addr} {H : Hp} (hd : DiceAt H d) (hD : H D = none) : D ≠ d := fun z => by
  obtain ⟨a, b, c, e⟩ := hd
  rw [z, e] at hD
  cases hD
section
variable {P : Program} {w : World} {K : PySem.W.Frag} {mg : Str → Option Value} {base : Heap} {C fI pT gT pB gB : Addr} {fdI fdT fdB : FuncData}
abbrev sSr : Stmt := FR.top 61
abbrev NSr : List Str := ["_law_dice_here", "_law_pairs", "_law_pair"]
theorem scSr : FnScope NSr ["_law_dice_here", "_law_pairs"] (defScope sSr) := ⟨rfl, rfl, rfl, by decide +kernel, rfl, by decide +kernel, by decide +kernel⟩
def spSr (C : Addr) : Sp := fun vs H Q _ => ∃ (d a : Addr) (ps : List PI), vs = [.ref d, .ref a] ∧ DiceAt H d ∧ PL H a ps ∧ a ≠ d ∧ ps.length ≤ 90 ∧ (∀ p ∈ ps, Pz 4000 p) ∧ ∀ t H', TV C H' t ps → Rl d H H' → H t = none → Q (.ref t) H'
theorem ok_sr {f : Addr} {fd : FuncData} (F : Fun K "_law_shown_row" "_law_shown_row" sSr f fd) (gS : Glo P w K mg base "_law_shown" 4 NSh (spSh C)) (mT : mg "tuple" = none) : FnOk P w K mg base CX0 5 f fd ["_law_dice_here", "_law_pairs"] (spSr C) := by
  refine F.ok scSr (fun vs H Q E h => ?_) (fun cdv A outer s H vs Q E hr h => ?_)
  · obtain ⟨d, a, ps, rfl, _⟩ := h
    rfl
  · obtain ⟨d, a, ps, rfl, hd, ⟨us, ha, hu⟩, ad, l90, hz, q⟩ := h
    refine ⟨_, (pss_one (ps_ret (pe_callTy call_tuple_of (by rfl) mT (by decide +kernel) (pa_cons (pe_lc (X := (cxOf CX0 P w K mg base NSr "_law_shown_row" (defScope sSr) f cdv A outer s H E).nox) (own := [("_law_pair", 2)]) (g := (gName 2)) (tt := tYes) rfl scSr.nd (pi_list (pv 1)) (blkOk_by (N := NSr) (sc := defScope sSr) (by decide +kernel)) (fun _ _ _ _ _ => (pg_name (i := 2) scSr.nd rfl (.inl rfl))) (fun _ _ _ _ _ => pts_nil) (fun _ _ _ _ _ => (pe_call gS.G hr (by rfl) gS.m gS.k gS.b .nil pass0 (pa_cons (pv 0) (pa_cons (pv 2) pa_nil))))) pa_nil)))), ?_⟩
    refine ⟨_, rfl, a, rfl, ⟨_, SqL.of ha⟩, fun D hD => ?_⟩
    have Dd := dice_ne hd hD
    refine lc_list (xs := us) (fun i Hc => Rl d H Hc ∧ ∃ ws, Hc D = some (.lst ws) ∧ FVs C Hc ws (ps.take i)) ⟨(Rl.refl hd).grow hD Dd, [], upd_same, A2.nil⟩ (fun i Hc _ p => SqL.of (p.1.2 _ _ ad ha)) ?_ ?_
    · rintro i v Hc hvi ⟨r, ws, hDc, hw⟩
      obtain ⟨p, hp, x, rfl, hx⟩ := hu.2 i v hvi
      have mp := List.mem_of_getElem? hp
      have il := (List.getElem?_eq_some_iff.mp hp).1
      have xd : x ≠ d := fun z => by
        obtain ⟨_, _, _, e⟩ := hd
        rw [z, e] at hx; cases hx
      refine ⟨rfl, _, rfl, _, rfl, d, x, p, rfl, r.1, r.2 _ _ xd hx, (hz p mp).lf, pow_up (hz p mp).bz (by decide), fun v' H2 fv r2 => ?_⟩
      have e := r2.2 _ _ Dd hDc
      refine ⟨ws, e, small1000 (by rw [hw.1, List.length_take]; omega), (r.trans r2).grow hD Dd, ws ++ [v'], upd_same, ?_⟩
      rw [take_snoc hp]
      exact A2.snoc ((hw.rl r.1 r2).updl e) (fv.updl e)
    · rintro Hc ⟨r, ws, hDc, hw⟩
      rw [List.take_of_length_le (by rw [hu.1]; exact Nat.le_refl _)] at hw
      refine ⟨D, _, rfl, .inl ⟨SqL.of hDc, fun t ht => ?_⟩⟩
      exact q t _ ⟨ws, upd_same, hw.same (same_new ht)⟩ (r.new ht) (r.free hd ht)
/-- an integer within bounds -/
def inR (lo hi : Int) (v : V) : Prop := ∃ i : Int, v = .int i ∧ lo ≤ i ∧ i ≤ hi
theorem inR_nil {lo hi : Int} : ∀ v ∈ ([] : List V), inR lo hi v := fun v h => nomatch h
theorem inR_cons {lo hi i : Int} {xs : List V} (h : lo ≤ i ∧ i ≤ hi) (r : ∀ v ∈ xs, inR lo hi v) : ∀ v ∈ V.int i :: xs, inR lo hi v := fun v hv => by
  rcases List.mem_cons.mp hv with e | e
  · exact ⟨i, e, h⟩
  · exact r v e
abbrev sNu : Stmt := FR.top 62
theorem scNu : FnScope ["_law_dice_here"] ["_law_dice_here"] (defScope sNu) := ⟨rfl, rfl, rfl, by decide +kernel, rfl, by decide +kernel, by decide +kernel⟩
def spNu : Sp := fun vs H Q _ => ∃ (d : Addr), vs = [.ref d] ∧ DiceAt H d ∧ ∀ (t b : Int) (x : Addr) H', -7 ≤ t → t ≤ 5 → 1 ≤ b → b ≤ 4 → Rl d H H' → H' x = none → Q (.ref x) (upd H' x (.tup [.int (nT t b), .int (nB t b)]))
theorem ok_nu {f : Addr} {fd : FuncData} (F : Fun K "_law_number" "_law_number" sNu f fd) (gO : Glo P w K mg base "_law_one_of" 2 ["_law_dice_here", "_law_items"] spOneOf) (gR : Glo P w K mg base "_law_ratio" 2 ["_law_top", "_law_bottom"] spRat) : FnOk P w K mg base CX0 3 f fd ["_law_dice_here"] spNu := by
  refine F.ok scNu (fun vs H Q E h => ?_) (fun cdv A outer s H vs Q E hr h => ?_)
  · obtain ⟨d, rfl, _⟩ := h
    rfl
  · obtain ⟨d, rfl, hd, q⟩ := h
    refine ⟨_, (pss_one (ps_ret (pe_call gR.G hr (by rfl) gR.m gR.k gR.b .nil pass0 (pa_cons (pe_call gO.G hr (by rfl) gO.m gO.k gO.b .nil pass0 (pa_cons (pv 0) (pa_cons (pe_lst (pa_cons pe_int (pa_cons pe_int (pa_cons pe_int (pa_cons pe_int (pa_cons pe_int (pa_cons pe_int (pa_cons pe_int (pa_cons (pe_un un_neg pe_int) (pa_cons (pe_un un_neg pe_int) (pa_cons (pe_un un_neg pe_int) (pa_cons (pe_un un_neg pe_int) pa_nil)))))))))))) pa_nil))) (pa_cons (pe_call gO.G hr (by rfl) gO.m gO.k gO.b .nil pass0 (pa_cons (pv 0) (pa_cons (pe_lst (pa_cons pe_int (pa_cons pe_int (pa_cons pe_int (pa_cons pe_int (pa_cons pe_int (pa_cons pe_int pa_nil))))))) pa_nil))) pa_nil))))), ?_⟩
    refine ⟨_, rfl, _, rfl, _, rfl, _, rfl, _, rfl, small1000 (by show 10 ≤ 1000; decide), fun l hl => ?_⟩
    have ld := dice_ne hd hl
    have hd1 : DiceAt (upd H l (.lst [V.int 0, V.int 0, V.int 1, V.int 1, V.int 2, V.int 3, V.int 5, V.int (-1), V.int (-1), V.int (-2), V.int (-7)])) d := ((Rl.refl hd).grow hl ld).1
    refine ⟨d, l, _, rfl, hd1, upd_same, ld, by show 0 < 11; decide, by show 11 < 1000; decide, fun k x a b c hx => ?_⟩
    obtain ⟨t, rfl, t1, t2⟩ : inR (-7) 5 x := inR_cons (by decide) (inR_cons (by decide) (inR_cons (by decide) (inR_cons (by decide) (inR_cons (by decide) (inR_cons (by decide) (inR_cons (by decide) (inR_cons (by decide) (inR_cons (by decide) (inR_cons (by decide) (inR_cons (by decide) inR_nil)))))))))) x (List.mem_of_getElem? hx)
    have r1 : Rl d H (upd (upd H l (.lst [V.int 0, V.int 0, V.int 1, V.int 1, V.int 2, V.int 3, V.int 5, V.int (-1), V.int (-1), V.int (-2), V.int (-7)])) d (.lst (dxs a b c))) := ((Rl.refl hd).grow hl ld).roll
    generalize upd (upd H l _) d _ = H1 at *
    refine ⟨_, rfl, small1000 (by show 5 ≤ 1000; decide), fun l2 hl2 => ?_⟩
    have ld2 := dice_ne r1.1 hl2
    have r2 : Rl d H1 (upd H1 l2 (.lst [V.int 1, V.int 1, V.int 1, V.int 2, V.int 3, V.int 4])) := (Rl.refl r1.1).grow hl2 ld2
    refine ⟨d, l2, _, rfl, r2.1, upd_same, ld2, by show 0 < 6; decide, by show 6 < 1000; decide, fun k2 x2 a2 b2 c2 hx2 => ?_⟩
    obtain ⟨b', rfl, b1, b3⟩ : inR 1 4 x2 := inR_cons (by decide) (inR_cons (by decide) (inR_cons (by decide) (inR_cons (by decide) (inR_cons (by decide) (inR_cons (by decide) inR_nil))))) x2 (List.mem_of_getElem? hx2)
    refine ⟨t, b', rfl, by omega, Nat.lt_of_lt_of_le (show b'.natAbs < 2 ^ 3 by omega) (Nat.pow_le_pow_right (by decide) (by decide)), fun p hp => ?_⟩
    exact q t b' p _ t1 t2 b1 b3 (r1.trans r2.roll) hp
end
end FR
set_option Elab.async false
set_option linter.all false
set_option maxRecDepth 100000
set_option maxHeartbeats 4000000
/-! pairs as rational numbers; pairs over one bottom -/
namespace FR
open RF L2
def val (p : PI) : Rat := (p.1 : Rat) / p.2
def valV (ps : List PI) : Vec := fun j => val (ps.getD j (0, 1))
theorem cast_ne {b : Int} (h : b ≠ 0) : (b : Rat) ≠ 0 := fun z => h (Rat.intCast_inj.mp z)
theorem val_n {t b : Int} (h : b ≠ 0) : val (nT t b, nB t b) = (t : Rat) / b := by
  have e := n_back (t := t) h
  have e2 : (nT t b : Rat) * b = t * (nB t b : Rat) := by rw [← Rat.intCast_mul, e, Rat.intCast_mul]
  have h1 := cast_ne h
  have h2 : (nB t b : Rat) ≠ 0 := cast_ne (by have := nB_pos (t := t) h; omega)
  show (nT t b : Rat) / (nB t b : Rat) = _
  grind
theorem val_plus {p r : PI} (h : Lf p.1 p.2) (g : Lf r.1 r.2) : val (plusP p r) = val p + val r := by
  have h1 := cast_ne h.ne
  have h2 := cast_ne g.ne
  show val (nT _ _, nB _ _) = _
  rw [val_n (Int.mul_ne_zero h.ne g.ne), Rat.intCast_add, Rat.intCast_mul, Rat.intCast_mul, Rat.intCast_mul]
  unfold val
  grind
theorem val_by {p r : PI} (h : Lf p.1 p.2) (g : Lf r.1 r.2) : val (byP p r) = val p * val r := by
  have h1 := cast_ne h.ne
  have h2 := cast_ne g.ne
  show val (nT _ _, nB _ _) = _
  rw [val_n (Int.mul_ne_zero h.ne g.ne), Rat.intCast_mul, Rat.intCast_mul]
  unfold val
  grind
theorem val_zero {p : PI} (h : Lf p.1 p.2) : val p = 0 ↔ p.1 = 0 := by
  have h1 := cast_ne h.ne
  unfold val
  constructor
  · intro e
    have : (p.1 : Rat) = 0 := by grind
    exact Rat.intCast_inj.mp this
  · intro e
    rw [e]; grind
theorem val_inj {p r : PI} (h : Lf p.1 p.2) (g : Lf r.1 r.2) (e : val p = val r) : p = r := by
  have h1 := cast_ne h.ne
  have h2 := cast_ne g.ne
  have e2 : ((p.1 * r.2 : Int) : Rat) = ((r.1 * p.2 : Int) : Rat) := by
    rw [Rat.intCast_mul, Rat.intCast_mul]
    unfold val at e
    grind
  obtain ⟨a, b⟩ := n_cross h.ne g.ne (Rat.intCast_inj.mp e2)
  rw [h.nT, g.nT] at a
  rw [h.nB, g.nB] at b
  exact Prod.ext a b
theorem valV_get {ps : List PI} {j : Nat} {p : PI} (h : ps[j]? = some p) : valV ps j = val p := by
  unfold valV
  rw [List.getD_eq_getElem?_getD, h]; rfl
theorem valV_out {ps : List PI} {j : Nat} (h : ps.length ≤ j) : valV ps j = 0 := by
  unfold valV
  rw [List.getD_eq_getElem?_getD, List.getElem?_eq_none h]
  show ((0 : Int) : Rat) / ((1 : Int) : Rat) = 0
  grind
theorem getD_mem {ps : List PI} {q : Nat} (h : q < ps.length) : ps.getD q (0, 1) ∈ ps := by
  rw [List.getD_eq_getElem?_getD, List.getElem?_eq_getElem h]; exact List.getElem_mem _
theorem ov_get {r : List Int} {d : Int} {p : PI} (h : p ∈ ovP r d) : ∃ x, x ∈ r ∧ p = (nT x d, nB x d) := by
  unfold ovP at h
  obtain ⟨x, m, e⟩ := List.mem_map.mp h
  exact ⟨x, m, e.symm⟩
theorem ov_lcm {d : Int} (hd : d ≠ 0) : ∀ ps : List PI, (∀ p ∈ ps, ∃ x, p = (nT x d, nB x d)) → lcmP ps ∣ d := by
  intro ps
  induction ps using snoc_ind with
  | h0 => intro _; exact ⟨d, by show d = 1 * d; omega⟩
  | h l x ih =>
    intro h
    rw [lcmP_snoc]
    have i1 := ih fun p m => h p (List.mem_append_left _ m)
    obtain ⟨y, hy⟩ := h x (List.mem_append_right _ (List.mem_singleton.mpr rfl))
    have i2 : x.2 ∣ d := by
      rw [hy]
      exact ⟨dv y d, (nB_mul hd).symm⟩
    unfold lc
    exact Int.natAbs_dvd_natAbs.mp (by
      rw [Int.natAbs_natCast]
      exact Nat.lcm_dvd (Int.natAbs_dvd_natAbs.mpr i1) (Int.natAbs_dvd_natAbs.mpr i2))
theorem ov_lf {r : List Int} {d : Int} (hd : d ≠ 0) : AllLf (ovP r d) := fun p h => by
  obtain ⟨x, _, e⟩ := ov_get h
  rw [e]
  exact lf_n hd
/-- pairs over one bottom, all short -/
def Cd (s : Nat) (ps : List PI) : Prop := ∃ e : Int, e ≠ 0 ∧ e.natAbs < 2 ^ s ∧ ∀ p ∈ ps, ∃ x : Int, x.natAbs < 2 ^ s ∧ p = (nT x e, nB x e)
theorem Cd.up {s t : Nat} {ps : List PI} (h : Cd s ps) (g : s ≤ t) : Cd t ps := by
  obtain ⟨e, h1, h2, h3⟩ := h
  exact ⟨e, h1, pow_up h2 g, fun p m => (h3 p m).imp fun x ⟨a, b⟩ => ⟨pow_up a g, b⟩⟩
theorem Cd.pz {s : Nat} {ps : List PI} (h : Cd s ps) : ∀ p ∈ ps, Pz s p := by
  obtain ⟨e, h1, h2, h3⟩ := h
  intro p m
  obtain ⟨x, hx, rfl⟩ := h3 p m
  exact ⟨lf_n h1, Nat.lt_of_le_of_lt (nT_le h1) hx, Nat.lt_of_le_of_lt (nB_le h1) h2⟩
theorem Cd.lf {s : Nat} {ps : List PI} (h : Cd s ps) : AllLf ps := fun p m => (h.pz p m).lf
theorem Cd.lcm {s : Nat} {ps : List PI} (h : Cd s ps) : (lcmP ps).natAbs < 2 ^ s := by
  obtain ⟨e, h1, h2, h3⟩ := h
  exact Nat.lt_of_le_of_lt (Nat.le_of_dvd (by omega) (Int.natAbs_dvd_natAbs.mpr (ov_lcm h1 ps fun p m => (h3 p m).imp fun x z => z.2))) h2
theorem Cd.shr {s : Nat} {ps : List PI} (h : Cd s ps) (g : s ≤ 2400) : Shr ps := ⟨pow_up h.lcm (by omega), fun p m => ⟨pow_up (h.pz p m).tz g, pow_up (h.pz p m).bz g⟩⟩
theorem Cd.sub {s : Nat} {ps qs : List PI} (h : Cd s ps) (g : ∀ p ∈ qs, p ∈ ps) : Cd s qs := by
  obtain ⟨e, h1, h2, h3⟩ := h
  exact ⟨e, h1, h2, fun p m => h3 p (g p m)⟩
theorem Cd.ov {s : Nat} {u : List Int} {e : Int} (h1 : e ≠ 0) (h2 : e.natAbs < 2 ^ s) (h : ∀ x ∈ u, x.natAbs < 2 ^ s) : Cd s (ovP u e) := ⟨e, h1, h2, fun p m => by
  obtain ⟨x, mx, ex⟩ := ov_get m
  exact ⟨x, h x mx, ex⟩⟩
theorem n_eq {t b : Int} {p : PI} (hb : b ≠ 0) (h : Lf p.1 p.2) (e : p.1 * b = t * p.2) : p = (nT t b, nB t b) := by
  obtain ⟨a, c⟩ := n_cross h.ne hb e
  rw [h.nT] at a
  rw [h.nB] at c
  exact Prod.ext a c
/-- of any pairs, by their least bottom -/
theorem Cd.of {s : Nat} {ps : List PI} (h : AllLf ps) (h1 : (lcmP ps).natAbs < 2 ^ s) (h2 : ∀ x ∈ topsP ps (lcmP ps), x.natAbs < 2 ^ s) : Cd s ps := by
  have l0 := lcmP_pos h
  refine ⟨lcmP ps, by omega, h1, fun p m => ⟨p.1 * (lcmP ps).fdiv p.2, h2 _ (List.mem_map.mpr ⟨p, m, rfl⟩), n_eq (by omega) (h p m) ?_⟩⟩
  have e := Int.fdiv_mul_cancel (lcmP_dvd ps p m)
  generalize (lcmP ps).fdiv p.2 = k at *
  rw [← e]
  grind
/-- the other bottom, where one bottom is a multiple of it -/
theorem Cd.line {s : Nat} {ps : List PI} (h : Cd s ps) : ∀ x ∈ topsP ps (lcmP ps), x.natAbs < 2 ^ s := by
  intro x hx
  have al := h.lf
  obtain ⟨e, h1, h2, h3⟩ := h
  obtain ⟨p, m, rfl⟩ := List.mem_map.mp hx
  obtain ⟨y, hy, ep⟩ := h3 p m
  have ld := lcmP_dvd ps p m
  obtain ⟨k, hk⟩ := ov_lcm h1 ps fun p m => (h3 p m).imp fun x z => z.2
  have f := Int.fdiv_mul_cancel ld
  generalize (lcmP ps).fdiv p.2 = q at *
  have n1 := nT_mul (t := y) h1
  have n2 := nB_mul (t := y) h1
  have e2 : p.1 = nT y e := by rw [ep]
  have e3 : p.2 = nB y e := by rw [ep]
  have b0 : nB y e ≠ 0 := by have := nB_pos (t := y) h1; omega
  have c : dv y e = q * k := by
    have : nB y e * dv y e = nB y e * (q * k) := by
      rw [n2, hk, ← f, e3]
      grind
    exact Int.eq_of_mul_eq_mul_left b0 this
  have z : y = (p.1 * q) * k := by rw [← n1, c, e2]; grind
  have k0 : k ≠ 0 := fun w => by
    rw [w] at hk
    exact h1 (by rw [hk]; simp)
  have : (p.1 * q).natAbs ≤ y.natAbs := by
    have w : y.natAbs = (p.1 * q).natAbs * k.natAbs := by rw [z, Int.natAbs_mul (p.1 * q) k]
    rw [w]
    exact Nat.le_mul_of_pos_right _ (Int.natAbs_pos.mpr k0)
  exact Nat.lt_of_le_of_lt this hy
end FR
set_option Elab.async false
set_option linter.all false
set_option maxRecDepth 100000
set_option maxHeartbeats 4000000
namespace FR
open PySem PySem.Spec PyProof.Rows L2 LD RF
theorem PL.sp {H : Hp} {a : Addr} {ps : List PI} {us : List V} (h : TPs H us ps) {i : Nat} {v : V} (hv : us[i]? = some v) : ∃ p x, ps[i]? = some p ∧ v = .ref x ∧ TA H x p := by
  obtain ⟨p, hp, x, e, z⟩ := h.2 i v hv
  exact ⟨p, x, hp, e, z⟩
theorem TA.same {H H' : Hp} {x : Addr} {p : PI} (h : TA H x p) (s : Same H H') : TA H' x p := s _ _ h
/-- [e for a, b in zip(xs, ys)] of two lists of pairs: new pairs -/
theorem lz_pl {K : PySem.W.Frag} {a b D : Addr} {ps rs : List PI} {us ws : List V} (hl : ps.length = rs.length) (hk : ps.length ≤ 900) {vs : List Nat} {σ : L2.St} {H1 : Hp} {Qd : Hp → Prop} {i1 i2 : Nat} {te : TE} (f : PI → PI → PI) (hD : H1 D = none)
    (ha : H1 a = some (.lst us)) (hu : TPs H1 us ps) (hb : H1 b = some (.lst ws)) (hw : TPs H1 ws rs) (wp : ∀ v w : V, wipe (((wipe σ vs).set i1 (some v)).set i2 (some w)) vs = wipe σ vs)
    (he : ∀ (i : Nat) (p r : PI) (x y : Addr) (H : Hp) (Q : VK), ps[i]? = some p → rs[i]? = some r → TA H x p → TA H y r → Same H1 H → (∀ z H', TA H' z (f p r) → Same H H' → Q (.ref z) H') → te (((wipe σ vs).set i1 (some (.ref x))).set i2 (some (.ref y))) H Q)
    (hd : ∀ H, Same H1 H → PL H D (List.zipWith f ps rs) → Qd H) :
    ∃ Wk : Nat → Nat → Hp → Prop, (∃ m0, Wk 0 m0 (upd H1 D (.lst []))) ∧ ∀ (i0 m0 : Nat) (h0 : Hp), Wk i0 m0 h0 →
      ((Itz K a b).stop i0 h0 ∧ Qd h0) ∨ ((Itz K a b).go i0 h0 ∧ ∃ Nk : Hp → Prop, (∀ h1, Nk h1 → ∃ m1, m1 < m0 ∧ Wk (i0 + 1) m1 h1) ∧ ∀ x h2, (Itz K a b).yld i0 h0 x h2 → gTup K 2 (gCons (gName i1) (gCons (gName i2) gNil)) x (wipe σ vs) h2 fun σ2 H2 => wipe σ2 vs = wipe σ vs ∧ tYes σ2 H2 fun b H3 =>
        if b = true then te σ2 H3 fun y H4 => ∃ got, H4 D = some (.lst got) ∧ got.length < sizeLine ∧ Nk (upd H4 D (.lst (got ++ [y]))) else Nk H3) := by
  have len : (List.zipWith f ps rs).length = ps.length := by rw [List.length_zipWith]; omega
  refine lc_it (walk_zip (xs := us) (ys := ws) (n := ps.length) (by rw [hu.1, hw.1]; omega)) (fun i H => Same H1 H ∧ ∃ zs, H D = some (.lst zs) ∧ TPs H zs ((List.zipWith f ps rs).take i))
    ⟨same_new hD, [], upd_same, A2.nil⟩ (fun i H _ p => ⟨SqL.of (p.1 _ _ ha), SqL.of (p.1 _ _ hb)⟩) ?_ fun H p => ?_
  · rintro i v H H' hi ⟨sm, zs, hDc, hz⟩ ⟨T, u1, u2, rfl, nT, rfl, hx, hy⟩
    have hx : us[i]? = some u1 := hx
    have hy : ws[i]? = some u2 := hy
    obtain ⟨p, hp, x, rfl, tx⟩ := hu.2 i u1 hx
    obtain ⟨r, hr, y, rfl, ty⟩ := hw.2 i u2 hy
    have sT : Same H (upd H T (.tup [.ref x, .ref y])) := same_new nT
    have sm' := sm.trans sT
    refine ⟨T, _, rfl, SqT.of upd_same, rfl, _, _, rfl, _, _, rfl, rfl, wp _ _, ?_⟩
    refine he i p r x y _ _ hp hr (sm' _ _ tx) (sm' _ _ ty) sm' fun z H' tz s' => ?_
    have e := s' _ _ (sT _ _ hDc)
    refine ⟨zs, e, small1000 (by rw [hz.1, List.length_take]; omega), same_upd hD (sm'.trans s'), zs ++ [.ref z], upd_same, ?_⟩
    rw [take_snoc (x := f p r) (by rw [List.getElem?_zipWith, hp, hr])]
    exact A2.snoc ((hz.same (sT.trans s')).updl e) ⟨z, rfl, tup_updl tz e⟩
  · obtain ⟨sm, zs, hDc, hz⟩ := p
    rw [List.take_of_length_le (by omega)] at hz
    exact hd H sm ⟨zs, hDc, hz⟩
/-- [e for a in xs] of a list of pairs: new pairs -/
theorem ll_pl {K : PySem.W.Frag} {a D : Addr} {ps : List PI} {us : List V} (hk : ps.length ≤ 900) {vs : List Nat} {σ : L2.St} {H1 : Hp} {Qd : Hp → Prop} {i1 : Nat} {te : TE} (f : PI → PI) (hD : H1 D = none)
    (ha : H1 a = some (.lst us)) (hu : TPs H1 us ps) (wp : ∀ v : V, wipe ((wipe σ vs).set i1 (some v)) vs = wipe σ vs)
    (he : ∀ (i : Nat) (p : PI) (x : Addr) (H : Hp) (Q : VK), ps[i]? = some p → TA H x p → Same H1 H → (∀ z H', TA H' z (f p) → Same H H' → Q (.ref z) H') → te ((wipe σ vs).set i1 (some (.ref x))) H Q)
    (hd : ∀ H, Same H1 H → PL H D (ps.map f) → Qd H) :
    ∃ Wk : Nat → Nat → Hp → Prop, (∃ m0, Wk 0 m0 (upd H1 D (.lst []))) ∧ ∀ (i0 m0 : Nat) (h0 : Hp), Wk i0 m0 h0 →
      ((Itl K a).stop i0 h0 ∧ Qd h0) ∨ ((Itl K a).go i0 h0 ∧ ∃ Nk : Hp → Prop, (∀ h1, Nk h1 → ∃ m1, m1 < m0 ∧ Wk (i0 + 1) m1 h1) ∧ ∀ x h2, (Itl K a).yld i0 h0 x h2 → gName i1 x (wipe σ vs) h2 fun σ2 H2 => wipe σ2 vs = wipe σ vs ∧ tYes σ2 H2 fun b H3 =>
        if b = true then te σ2 H3 fun y H4 => ∃ got, H4 D = some (.lst got) ∧ got.length < sizeLine ∧ Nk (upd H4 D (.lst (got ++ [y]))) else Nk H3) := by
  refine lc_list (xs := us) (fun i H => Same H1 H ∧ ∃ zs, H D = some (.lst zs) ∧ TPs H zs ((ps.map f).take i))
    ⟨same_new hD, [], upd_same, A2.nil⟩ (fun i H _ p => SqL.of (p.1 _ _ ha)) ?_ fun H p => ?_
  · rintro i v H hx ⟨sm, zs, hDc, hz⟩
    obtain ⟨p, hp, x, rfl, tx⟩ := hu.2 i v hx
    have hi := (List.getElem?_eq_some_iff.mp hp).1
    refine ⟨wp _, ?_⟩
    refine he i p x _ _ hp (sm _ _ tx) sm fun z H' tz s' => ?_
    have e := s' _ _ hDc
    refine ⟨zs, e, small1000 (by rw [hz.1, List.length_take, List.length_map]; omega), same_upd hD (sm.trans s'), zs ++ [.ref z], upd_same, ?_⟩
    rw [take_snoc (x := f p) (by rw [List.getElem?_map, hp]; rfl)]
    exact A2.snoc ((hz.same s').updl e) ⟨z, rfl, tup_updl tz e⟩
  · obtain ⟨sm, zs, hDc, hz⟩ := p
    rw [List.take_of_length_le (by rw [List.length_map, hu.1]; exact Nat.le_refl _)] at hz
    exact hd H sm ⟨zs, hDc, hz⟩
section
variable {P : Program} {w : World} {K : PySem.W.Frag} {mg : Str → Option Value} {base : Heap} {C fI pT gT pB gB : Addr} {fdI fdT fdB : FuncData}
def prodP (ps cs : List PI) : PI := (ps.zip cs).foldl (fun acc pr => plusP acc (byP pr.1 pr.2)) (0, 1)
theorem pd_start {M : Int} (h : M ≠ 0) : ((0, 1) : PI) = (nT 0 M, nB 0 M) := n_eq h (Lf.one 0) (by show (0 : Int) * M = 0 * 1; omega)
theorem pd_step {X x y e1 e2 : Int} (h1 : e1 ≠ 0) (h2 : e2 ≠ 0) : plusP (nT X (e1 * e2), nB X (e1 * e2)) (byP (nT x e1, nB x e1) (nT y e2, nB y e2)) = (nT (X + x * y) (e1 * e2), nB (X + x * y) (e1 * e2)) := by
  have m0 : e1 * e2 ≠ 0 := Int.mul_ne_zero h1 h2
  have l1 : Lf (nT X (e1 * e2)) (nB X (e1 * e2)) := lf_n m0
  have l2 : Lf (nT x e1) (nB x e1) := lf_n h1
  have l3 : Lf (nT y e2) (nB y e2) := lf_n h2
  have l4 : Lf (byP (nT x e1, nB x e1) (nT y e2, nB y e2)).1 (byP (nT x e1, nB x e1) (nT y e2, nB y e2)).2 := lf_n (Int.mul_ne_zero l2.ne l3.ne)
  refine val_inj (lf_n (Int.mul_ne_zero l1.ne l4.ne)) (lf_n m0) ?_
  rw [val_plus l1 l4, val_by l2 l3, val_n m0, val_n h1, val_n h2, val_n m0, Rat.intCast_add, Rat.intCast_mul, Rat.intCast_mul]
  have z1 := cast_ne h1
  have z2 := cast_ne h2
  grind
end
end FR
set_option Elab.async false
set_option linter.all false
set_option maxRecDepth 100000
set_option maxHeartbeats 4000000
namespace FR
open PySem PySem.Spec PyProof.Rows L2 LD RF
/-- a list of lists of pairs -/
def LL (H : Hp) (a : Addr) (pss : List (List PI)) : Prop := ∃ vs, H a = some (.lst vs) ∧ AG (fun v ps => ∃ q, v = .ref q ∧ PL H q ps) vs pss
theorem LL.same {H H' : Hp} {a : Addr} {pss : List (List PI)} (h : LL H a pss) (s : Same H H') : LL H' a pss := by
  obtain ⟨vs, e, z⟩ := h
  exact ⟨vs, s _ _ e, z.imp fun _ _ ⟨q, e, t⟩ => ⟨q, e, t.same s⟩⟩
theorem PL.ne {d : Addr} {H : Hp} {a : Addr} {ps : List PI} (h : PL H a ps) (hd : DiceAt H d) : a ≠ d := fun z => by
  obtain ⟨us, e, f⟩ := h
  obtain ⟨x, y, w, hd⟩ := hd
  rw [z, hd] at e
  cases e
  obtain ⟨p, _, q, e, _⟩ := f.2 0 _ rfl
  cases e
theorem LL.ne {d : Addr} {H : Hp} {a : Addr} {pss : List (List PI)} (h : LL H a pss) (hd : DiceAt H d) : a ≠ d := fun z => by
  obtain ⟨us, e, f⟩ := h
  obtain ⟨x, y, w, hd⟩ := hd
  rw [z, hd] at e
  cases e
  obtain ⟨p, _, q, e, _⟩ := f.2 0 _ rfl
  cases e
theorem LL.rl {d : Addr} {H H' : Hp} {a : Addr} {pss : List (List PI)} (h : LL H a pss) (hd : DiceAt H d) (r : Rl d H H') : LL H' a pss := by
  have n := h.ne hd
  obtain ⟨us, e, z⟩ := h
  exact ⟨us, r.2 _ _ n e, z.imp fun _ _ ⟨q, e, t⟩ => ⟨q, e, t.rl (t.ne hd) hd r⟩⟩
/-- a tuple of tuples of fractions, of any size -/
def TT (C : Addr) (H : Hp) (a : Addr) (pss : List (List PI)) : Prop := ∃ vs, H a = some (.tup vs) ∧ AG (fun v ps => ∃ q, v = .ref q ∧ TV C H q ps) vs pss
theorem TT.same {C : Addr} {H H' : Hp} {a : Addr} {pss : List (List PI)} (h : TT C H a pss) (s : Same H H') : TT C H' a pss := by
  obtain ⟨vs, e, z⟩ := h
  exact ⟨vs, s _ _ e, z.imp fun _ _ ⟨q, e, t⟩ => ⟨q, e, t.same s⟩⟩
theorem TV.rl {C d : Addr} {H H' : Hp} {a : Addr} {ps : List PI} (h : TV C H a ps) (hd : DiceAt H d) (r : Rl d H H') : TV C H' a ps := by
  obtain ⟨xs, e, z⟩ := h
  have n : a ≠ d := fun w => by
    obtain ⟨_, _, _, hd⟩ := hd
    rw [w, hd] at e; cases e
  exact ⟨xs, r.2 _ _ n e, z.rl hd r⟩
section
variable {P : Program} {w : World} {K : PySem.W.Frag} {mg : Str → Option Value} {base : Heap} {C fI pT gT pB gB : Addr} {fdI fdT fdB : FuncData}
abbrev sSl : Stmt := FR.top 64
abbrev NSl : List Str := ["_law_dice_here", "_law_lines_here", "_law_row"]
theorem scSl : FnScope NSl ["_law_dice_here", "_law_lines_here"] (defScope sSl) := ⟨rfl, rfl, rfl, by decide +kernel, rfl, by decide +kernel, by decide +kernel⟩
def spSl (C : Addr) : Sp := fun vs H Q _ => ∃ (d a : Addr) (pss : List (List PI)), vs = [.ref d, .ref a] ∧ DiceAt H d ∧ LL H a pss ∧ pss.length ≤ 90 ∧ (∀ ps ∈ pss, ps.length ≤ 90 ∧ ∀ p ∈ ps, Pz 4000 p) ∧ ∀ t H', TT C H' t pss → Rl d H H' → Q (.ref t) H'
theorem ok_sl {f : Addr} {fd : FuncData} (F : Fun K "_law_shown_lines" "_law_shown_lines" sSl f fd) (gS : Glo P w K mg base "_law_shown_row" 5 ["_law_dice_here", "_law_pairs"] (spSr C)) (mT : mg "tuple" = none) : FnOk P w K mg base CX0 6 f fd ["_law_dice_here", "_law_lines_here"] (spSl C) := by
  refine F.ok scSl (fun vs H Q E h => ?_) (fun cdv A outer s H vs Q E hr h => ?_)
  · obtain ⟨d, a, pss, rfl, _⟩ := h
    rfl
  · obtain ⟨d, a, pss, rfl, hd, ll, l90, hz, q⟩ := h
    have ad := ll.ne hd
    obtain ⟨vs, ha, hv⟩ := ll
    refine ⟨_, (pss_one (ps_ret (pe_callTy call_tuple_of (by rfl) mT (by decide +kernel) (pa_cons (pe_lc (X := (cxOf CX0 P w K mg base NSl "_law_shown_lines" (defScope sSl) f cdv A outer s H E).nox) (own := [("_law_row", 2)]) (g := (gName 2)) (tt := tYes) rfl scSl.nd (pi_list (pv 1)) (blkOk_by (N := NSl) (sc := defScope sSl) (by decide +kernel)) (fun _ _ _ _ _ => (pg_name (i := 2) scSl.nd rfl (.inl rfl))) (fun _ _ _ _ _ => pts_nil) (fun _ _ _ _ _ => (pe_call gS.G hr (by rfl) gS.m gS.k gS.b .nil pass0 (pa_cons (pv 0) (pa_cons (pv 2) pa_nil))))) pa_nil)))), ?_⟩
    refine ⟨_, rfl, a, rfl, ⟨_, SqL.of ha⟩, fun D hD => ?_⟩
    have Dd := dice_ne hd hD
    refine lc_list (xs := vs) (fun i Hc => Rl d H Hc ∧ ∃ ws, Hc D = some (.lst ws) ∧ AG (fun v ps => ∃ q, v = .ref q ∧ TV C Hc q ps) ws (pss.take i)) ⟨(Rl.refl hd).grow hD Dd, [], upd_same, AG.nil⟩ (fun i Hc _ p => SqL.of (p.1.2 _ _ ad ha)) ?_ ?_
    · rintro i v Hc hvi ⟨r, ws, hDc, hw⟩
      obtain ⟨ps, hp, x, rfl, px⟩ := hv.2 i v hvi
      have mp := List.mem_of_getElem? hp
      have il := (List.getElem?_eq_some_iff.mp hp).1
      have xd := px.ne hd
      have px2 := px.rl xd hd r
      refine ⟨rfl, _, rfl, _, rfl, d, x, ps, rfl, r.1, px2, xd, (hz ps mp).1, (hz ps mp).2, fun t H2 tv r2 nt => ?_⟩
      have e := r2.2 _ _ Dd hDc
      have up : ∀ q ps, TV C H2 q ps → TV C (upd H2 D (.lst (ws ++ [.ref t]))) q ps := fun q ps ⟨xs, h1, h2⟩ => ⟨xs, tup_updl h1 e, h2.updl e⟩
      refine ⟨ws, e, small1000 (by rw [hw.1, List.length_take]; omega), (r.trans r2).grow hD Dd, ws ++ [.ref t], upd_same, ?_⟩
      rw [take_snoc hp]
      exact AG.snoc (hw.imp fun _ _ ⟨q, e', tq⟩ => ⟨q, e', up _ _ (tq.rl r.1 r2)⟩) ⟨t, rfl, up _ _ tv⟩
    · rintro Hc ⟨r, ws, hDc, hw⟩
      rw [List.take_of_length_le (by rw [hv.1]; exact Nat.le_refl _)] at hw
      refine ⟨D, _, rfl, .inl ⟨SqL.of hDc, fun t ht => ?_⟩⟩
      exact q t _ ⟨ws, upd_same, hw.imp fun _ _ ⟨q, e, tq⟩ => ⟨q, e, tq.same (same_new ht)⟩⟩ (r.new ht)
theorem call_isiK {X : Cx} {K : PySem.W.Frag} (hK : X.K = K) : CallR X (.builtin "isinstance") (rIsi K) := by
  subst hK
  exact call_isi
end
end FR
set_option Elab.async false
set_option linter.all false
set_option maxRecDepth 100000
set_option maxHeartbeats 4000000
namespace FR
open PySem PySem.Spec PyProof.Rows L2 LD RF
/-! ### entries with a bottom that divides 12 -/
structure Q12 (M : Nat) (p : PI) : Prop where
  lf : Lf p.1 p.2
  dv : p.2 ∣ 12
  le : p.1.natAbs ≤ M * p.2.natAbs
theorem Q12.up {M N : Nat} {p : PI} (h : Q12 M p) (g : M ≤ N) : Q12 N p := ⟨h.lf, h.dv, Nat.le_trans h.le (Nat.mul_le_mul_right _ g)⟩
theorem q12_n {M : Nat} {t b : Int} (hb : b ≠ 0) (d : b ∣ 12) (h : t.natAbs ≤ M * b.natAbs) : Q12 M (nT t b, nB t b) := by
  have e1 := nT_mul (t := t) hb
  have e2 := nB_mul (t := t) hb
  have k := dv_ne (t := t) hb
  refine ⟨lf_n hb, Int.dvd_trans ⟨dv t b, e2.symm⟩ d, ?_⟩
  show (nT t b).natAbs ≤ M * (nB t b).natAbs
  have z : 0 < (dv t b).natAbs := by omega
  refine Nat.le_of_mul_le_mul_right ?_ z
  rw [← Int.natAbs_mul, e1, Nat.mul_assoc, ← Int.natAbs_mul, e2]
  exact h
theorem Q12.plus {M N : Nat} {p r : PI} (h : Q12 M p) (g : Q12 N r) : Q12 (M + N) (plusP p r) := by
  obtain ⟨u, hu⟩ := h.dv
  obtain ⟨v, hv⟩ := g.dv
  have n : p.2 * r.2 ≠ 0 := Int.mul_ne_zero h.lf.ne g.lf.ne
  have u0 : u ≠ 0 := fun z => by rw [z] at hu; simp at hu
  have v0 : v ≠ 0 := fun z => by rw [z] at hv; simp at hv
  have c : (p.1 * r.2 + r.1 * p.2) * 12 = (p.1 * u + r.1 * v) * (p.2 * r.2) := by
    have : (12 : Int) * 12 = (p.2 * u) * (r.2 * v) := by rw [← hu, ← hv]
    have e1 : p.1 * r.2 * 12 = p.1 * r.2 * (p.2 * u) := by rw [← hu]
    have e2 : r.1 * p.2 * 12 = r.1 * p.2 * (r.2 * v) := by rw [← hv]
    grind
  obtain ⟨a, b⟩ := n_cross n (show (12 : Int) ≠ 0 by decide) c
  have e : plusP p r = (nT (p.1 * u + r.1 * v) 12, nB (p.1 * u + r.1 * v) 12) := Prod.ext a b
  rw [e]
  refine q12_n (by decide) ⟨1, by decide⟩ ?_
  have x1 : (p.1 * u).natAbs ≤ M * 12 := by
    rw [Int.natAbs_mul]
    have y : p.2.natAbs * u.natAbs = 12 := by rw [← Int.natAbs_mul, ← hu]; rfl
    have := Nat.mul_le_mul_right u.natAbs h.le
    rw [Nat.mul_assoc, y] at this
    exact this
  have x2 : (r.1 * v).natAbs ≤ N * 12 := by
    rw [Int.natAbs_mul]
    have y : r.2.natAbs * v.natAbs = 12 := by rw [← Int.natAbs_mul, ← hv]; rfl
    have := Nat.mul_le_mul_right v.natAbs g.le
    rw [Nat.mul_assoc, y] at this
    exact this
  show _ ≤ (M + N) * 12
  omega
theorem Q12.twice {M : Nat} {p : PI} (h : Q12 M p) : Q12 (2 * M) (byP (2, 1) p) := by
  show Q12 (2 * M) (nT (2 * p.1) (1 * p.2), nB (2 * p.1) (1 * p.2))
  have e : (1 : Int) * p.2 = p.2 := Int.one_mul _
  rw [e]
  refine q12_n h.lf.ne h.dv ?_
  rw [Int.natAbs_mul, Nat.mul_assoc]
  exact Nat.mul_le_mul_left _ h.le
theorem Q12.zero : Q12 0 (0, 1) := ⟨Lf.one 0, ⟨12, by decide⟩, by decide⟩
theorem q12_num {t b : Int} (h1 : -7 ≤ t) (h2 : t ≤ 5) (h3 : 1 ≤ b) (h4 : b ≤ 4) : Q12 7 (nT t b, nB t b) := by
  refine q12_n (by omega) ?_ (by omega)
  have : b = 1 ∨ b = 2 ∨ b = 3 ∨ b = 4 := by omega
  rcases this with e | e | e | e <;> subst e
  · exact ⟨12, by decide⟩
  · exact ⟨6, by decide⟩
  · exact ⟨4, by decide⟩
  · exact ⟨3, by decide⟩
theorem Q12.b12 {M : Nat} {p : PI} (h : Q12 M p) : p.2.natAbs ≤ 12 := Nat.le_of_dvd (by decide) (Int.natAbs_dvd_natAbs.mpr h.dv)
theorem Q12.pz {M : Nat} {p : PI} (h : Q12 M p) (m : M ≤ 112) : Pz 11 p := by
  have b := h.b12
  have l := h.le
  have : M * p.2.natAbs ≤ 112 * 12 := Nat.mul_le_mul m b
  exact ⟨h.lf, by omega, by omega⟩
theorem lc12 {ps : List PI} {M : Nat} (h : ∀ p ∈ ps, Q12 M p) : lcmP ps ∣ 12 := by
  induction ps using snoc_ind with
  | h0 => exact ⟨12, by decide⟩
  | h l x ih =>
    rw [lcmP_snoc]
    have i1 := ih fun p m => h p (List.mem_append_left _ m)
    have i2 := (h x (List.mem_append_right _ (List.mem_singleton.mpr rfl))).dv
    unfold lc
    exact Int.natAbs_dvd_natAbs.mp (by
      rw [Int.natAbs_natCast]
      exact Nat.lcm_dvd (Int.natAbs_dvd_natAbs.mpr i1) (Int.natAbs_dvd_natAbs.mpr i2))
theorem line_q12 {ps : List PI} {M : Nat} (h : ∀ p ∈ ps, Q12 M p) (m : M ≤ 112) : Sh (lineP ps) 11 := by
  intro j
  by_cases hj : j < (lineP ps).length
  · obtain ⟨p, m1, e1⟩ := topsP_get (get_ent hj)
    show (ent (topsP ps (lcmP ps)) j).natAbs < _
    rw [e1]
    obtain ⟨k, hk⟩ := lc12 h
    have q := h p m1
    have al : AllLf ps := fun p m => (h p m).lf
    have d := lcmP_dvd ps p m1
    have e := Int.fdiv_mul_cancel d
    have c : p.2.natAbs * ((lcmP ps).fdiv p.2).natAbs ≤ 12 := by
      rw [← Int.natAbs_mul, Int.mul_comm, e]
      exact Nat.le_of_dvd (by decide) (Int.natAbs_dvd_natAbs.mpr ⟨k, hk⟩)
    rw [Int.natAbs_mul]
    have x := Nat.mul_le_mul_right ((lcmP ps).fdiv p.2).natAbs q.le
    rw [Nat.mul_assoc] at x
    have y : M * (p.2.natAbs * ((lcmP ps).fdiv p.2).natAbs) ≤ 112 * 12 := Nat.mul_le_mul m c
    omega
  · rw [ent_none (by omega)]
    exact Nat.pow_pos (by decide)
/-! ### lists of lists of pairs as data -/
def tupD (p : PI) : PyData := .tuple [.int p.1, .int p.2]
def plD (ps : List PI) : PyData := .list (ps.map tupD)
def llD (pss : List (List PI)) : PyData := .list (pss.map plD)
theorem tupD_lay (p : PI) : (tupD p).canLay0 = true := by simp [tupD, PyData.canLay0, PyData.canLayAll0]
theorem tupD_depth (p : PI) : (tupD p).depth ≤ 1 := by simp [tupD, PyData.depth, PyData.depthAll]
theorem plA_lay : ∀ ps : List PI, PyData.canLayAll0 (ps.map tupD) = true
  | [] => by simp [PyData.canLayAll0]
  | z :: zs => by simp [PyData.canLayAll0, tupD_lay z, plA_lay zs]
theorem plA_depth : ∀ ps : List PI, PyData.depthAll (ps.map tupD) ≤ 1
  | [] => by simp [PyData.depthAll]
  | z :: zs => by
    have h1 := plA_depth zs
    have h2 := tupD_depth z
    simp only [List.map_cons, PyData.depthAll]
    omega
theorem plD_lay (ps : List PI) : (plD ps).canLay0 = true := by simp only [plD, PyData.canLay0]; exact plA_lay ps
theorem plD_depth (ps : List PI) : (plD ps).depth ≤ 2 := by
  have := plA_depth ps
  simp only [plD, PyData.depth]
  omega
theorem llA_lay : ∀ pss : List (List PI), PyData.canLayAll0 (pss.map plD) = true
  | [] => by simp [PyData.canLayAll0]
  | z :: zs => by simp [PyData.canLayAll0, plD_lay z, llA_lay zs]
theorem llA_depth : ∀ pss : List (List PI), PyData.depthAll (pss.map plD) ≤ 2
  | [] => by simp [PyData.depthAll]
  | z :: zs => by
    have h1 := llA_depth zs
    have h2 := plD_depth z
    simp only [List.map_cons, PyData.depthAll]
    omega
theorem plD_shaped (ps : List PI) : SeqAt.shaped (plD ps) = true := by
  have h := plD_depth ps
  show ((plD ps).canLay0 && decide ((plD ps).depth ≤ 64)) = true
  rw [Bool.and_eq_true]
  exact ⟨plD_lay ps, decide_eq_true (by omega)⟩
theorem llD_shaped (pss : List (List PI)) : SeqAt.shaped (llD pss) = true := by
  have h := llA_depth pss
  have h2 : PyData.depth (llD pss) ≤ 64 := by
    simp only [llD, PyData.depth]
    omega
  show (PyData.canLay0 (llD pss) && decide (PyData.depth (llD pss) ≤ 64)) = true
  rw [Bool.and_eq_true]
  exact ⟨by simp only [llD, PyData.canLay0]; exact llA_lay pss, decide_eq_true h2⟩
theorem TPs.dp {K : PySem.W.Frag} {H : Hp} : ∀ {vs : List V} {ps : List PI}, TPs H vs ps → DpAll K H vs (ps.map tupD)
  | [], [], _ => .nil
  | [], _ :: _, h => by have := h.1; simp at this
  | _ :: _, [], h => by have := h.1; simp at this
  | v :: vs, p :: ps, h => by
    obtain ⟨⟨q, e, z⟩, r⟩ := h.uncons
    subst e
    exact .cons (.tup (SqT.of z) (.cons (.int _) (.cons (.int _) .nil))) (TPs.dp r)
theorem PL.dp {K : PySem.W.Frag} {H : Hp} {a : Addr} {ps : List PI} (h : PL H a ps) : Dp K H (.ref a) (plD ps) := by
  obtain ⟨us, e, z⟩ := h
  exact .lst (SqL.of e) (TPs.dp z)
theorem AG.uncons {α : Type} {R : V → α → Prop} {v : V} {p : α} {vs : List V} {ps : List α} (h : AG R (v :: vs) (p :: ps)) : R v p ∧ AG R vs ps := by
  obtain ⟨q, hq, r⟩ := h.2 0 v rfl
  cases hq
  exact ⟨r, by have := h.1; simpa using this, fun i w e => h.2 (i + 1) w e⟩
theorem LL.dpA {K : PySem.W.Frag} {H : Hp} : ∀ {vs : List V} {pss : List (List PI)}, AG (fun v ps => ∃ q, v = .ref q ∧ PL H q ps) vs pss → DpAll K H vs (pss.map plD)
  | [], [], _ => .nil
  | [], _ :: _, h => by have := h.1; simp at this
  | _ :: _, [], h => by have := h.1; simp at this
  | v :: vs, p :: ps, h => by
    obtain ⟨⟨q, e, z⟩, r⟩ := h.uncons
    subst e
    exact .cons z.dp (LL.dpA r)
theorem LL.dp {K : PySem.W.Frag} {H : Hp} {a : Addr} {pss : List (List PI)} (h : LL H a pss) : Dp K H (.ref a) (llD pss) := by
  obtain ⟨us, e, z⟩ := h
  exact .lst (SqL.of e) (LL.dpA z)
theorem eqv_same {d : PyData} (h : SeqAt.shaped d = true) : PyData.eqv d d = true := SeqAt.eqv_refl _ (SeqAt.canLay_of_shaped h)
theorem llD_nil (pss : List (List PI)) : (!PyData.eqv (llD pss) (.list [])) = !pss.isEmpty := by
  cases pss with
  | nil => simp only [llD, List.map_nil, PyData.eqv, PyData.eqvAll]; rfl
  | cons a r => simp only [llD, List.map_cons, PyData.eqv, PyData.eqvAll]; rfl
end FR
set_option Elab.async false
set_option linter.all false
set_option maxRecDepth 100000
set_option maxHeartbeats 4000000
namespace FR
open PySem PySem.Spec PyProof.Rows L2 LD RF
structure TxtC (mg : Str → Option Value) : Prop where
  range : mg "range" = none
  len : mg "len" = none
  enum : mg "enumerate" = none
  list : mg "list" = none
/-- lists of pairs in a list at fo, none of them at fo -/
def LY (H : Hp) (fo : Addr) (pss : List (List PI)) : Prop := ∃ vs, H fo = some (.lst vs) ∧ AG (fun v ps => ∃ q, v = .ref q ∧ q ≠ fo ∧ PL H q ps) vs pss
theorem LY.ll {H : Hp} {fo : Addr} {pss : List (List PI)} (h : LY H fo pss) : LL H fo pss := by
  obtain ⟨vs, e, z⟩ := h
  exact ⟨vs, e, z.imp fun _ _ ⟨q, e, _, t⟩ => ⟨q, e, t⟩⟩
theorem LY.same {H H' : Hp} {fo : Addr} {pss : List (List PI)} (h : LY H fo pss) (s : Same H H') : LY H' fo pss := by
  obtain ⟨vs, e, z⟩ := h
  exact ⟨vs, s _ _ e, z.imp fun _ _ ⟨q, e, n, t⟩ => ⟨q, e, n, t.same s⟩⟩
theorem LY.rl {d : Addr} {H H' : Hp} {a : Addr} {pss : List (List PI)} (h : LY H a pss) (n : a ≠ d) (hd : DiceAt H d) (r : Rl d H H') : LY H' a pss := by
  obtain ⟨us, e, z⟩ := h
  exact ⟨us, r.2 _ _ n e, z.imp fun _ _ ⟨q, e, m, t⟩ => ⟨q, e, m, t.rl (t.ne hd) hd r⟩⟩
theorem at_last {α : Type} (xs : List α) (h : xs ≠ []) : atI xs (-1) = some (xs.getLast h) := by
  have e := List.dropLast_concat_getLast h
  have z := atI_last xs.dropLast (xs.getLast h)
  rw [e] at z
  exact z
theorem flat_rep {α : Type} (x : α) : ∀ n : Nat, (List.replicate n [x]).flatten = List.replicate n x
  | 0 => rfl
  | n + 1 => by rw [List.replicate_succ, List.flatten_cons, flat_rep x n, List.replicate_succ]; rfl
theorem rep_tps {H : Hp} {t : Addr} (ht : TA H t (0, 1)) (n : Nat) : TPs H (List.replicate n (V.ref t)) (List.replicate n ((0, 1) : PI)) := by
  refine ⟨by rw [List.length_replicate, List.length_replicate], fun i v hv => ?_⟩
  rw [List.getElem?_replicate] at hv ⊢
  split at hv
  · next z =>
    rw [if_pos z]
    cases hv
    exact ⟨_, rfl, t, rfl, ht⟩
  · cases hv
theorem seq_join {a r : TS} {D : Ends} {σ : L2.St} {H : Hp} {Fx : Hp → Addr → Prop} (σf : Addr → L2.St) (hrest : ∀ Hx fr, Fx Hx fr → r D (σf fr) Hx) (hgo : ∀ N : L2.St → Hp → Prop, (∀ Hx fr, Fx Hx fr → N (σf fr) Hx) → a { D with nx := N } σ H) : tSeq a r D σ H := hgo _ hrest
section
variable {P : Program} {w : World} {K : PySem.W.Frag} {mg : Str → Option Value} {base : Heap}
abbrev sLn : Stmt := FR.top 63
abbrev NLn : List Str := ["_law_dice_here", "_law_most", "_law_wide", "_law_size", "_law_found", "_law_turn", "_law_way", "_law_fresh", "_law_place", "_law_one", "_law_other"]
theorem scLn : FnScope NLn ["_law_dice_here", "_law_most", "_law_wide"] (defScope sLn) := ⟨rfl, rfl, rfl, by decide +kernel, rfl, by decide +kernel, by decide +kernel⟩
def spLn : Sp := fun vs H Q _ => ∃ (d : Addr), vs = [.ref d, .int 4, .int 4] ∧ DiceAt H d ∧ ∀ (fo : Addr) (pss : List (List PI)) (n : Nat) H', 1 ≤ n → n ≤ 4 → 1 ≤ pss.length → pss.length ≤ 5 → (∀ ps ∈ pss, ps.length = n ∧ ∀ p ∈ ps, Q12 112 p) → LL H' fo pss → Rl d H H' → Q (.ref fo) H'
theorem ok_ln {f : Addr} {fd : FuncData} (F : Fun K "_law_lines" "_law_lines" sLn f fd) (T : TxtC mg) (mZ : mg "zip" = none) (gR : Glo P w K mg base "_law_roll" 1 ["_law_dice_here", "_law_total"] spRoll) (gO : Glo P w K mg base "_law_one_of" 2 ["_law_dice_here", "_law_items"] spOneOf) (gN : Glo P w K mg base "_law_number" 3 ["_law_dice_here"] spNu) (gB : Glo P w K mg base "_law_by" 3 N12 (spLP byP)) (gA : Glo P w K mg base "_law_plus" 3 N12 (spLP plusP)) : FnOk P w K mg base CX0 4 f fd ["_law_dice_here", "_law_most", "_law_wide"] spLn := by
  refine F.ok scLn (fun vs H Q E h => ?_) (fun cdv A outer s H vs Q E hr h => ?_)
  · obtain ⟨d, rfl, _⟩ := h
    rfl
  · obtain ⟨d, rfl, hd, q⟩ := h
    refine ⟨_, (pss_cons (ps_par (i := 3) (j := 4) (by rfl) scLn.nd rfl rfl (by decide) rfl rfl (pa_cons (pe_op op_add pe_int (pe_call gR.G (hr.mono (by decide)) (by rfl) gR.m gR.k gR.b .nil pass0 (pa_cons (pv 0) (pa_cons (pv 2) pa_nil)))) (pa_cons (pe_lst pa_nil) pa_nil)) (by rfl))
      (pss_cons (ps_for PassesOwn.never rfl (pi_range1 (by rfl) T.range (pa_cons (pe_op op_add pe_int (pe_call gR.G (hr.mono (by decide)) (by rfl) gR.m gR.k gR.b .nil pass0 (pa_cons (pv 0) (pa_cons (pv 1) pa_nil)))) pa_nil)) (pg_name (i := 5) scLn.nd rfl (.inl rfl))
        (pss_cons (ps_par (i := 6) (j := 7) (by rfl) scLn.nd rfl rfl (by decide) rfl rfl (pa_cons (pe_call gR.G (hr.mono (by decide)) (by rfl) gR.m gR.k gR.b .nil pass0 (pa_cons (pv 0) (pa_cons pe_int pa_nil))) (pa_cons (pe_lc (X := (cxOf CX0 P w K mg base NLn "_law_lines" (defScope sLn) f cdv A outer s H E).nox) (own := [("_law_place", 8)]) (g := (gName 8)) (tt := tYes) rfl scLn.nd (pi_range1 (by rfl) T.range (pa_cons (pv 3) pa_nil)) (blkOk_by (N := NLn) (sc := defScope sLn) (by decide +kernel)) (fun _ _ _ _ _ => (pg_name (i := 8) scLn.nd rfl (.inl rfl))) (fun _ _ _ _ _ => pts_nil) (fun _ _ _ _ _ => (pe_call gN.G hr (by rfl) gN.m gN.k gN.b .nil pass0 (pa_cons (pv 0) pa_nil)))) pa_nil)) (by rfl))
      (pss_cons (ps_if (PW.pt (pw_and (pt_cmpR op_eq (pv 6) pe_int (nomark _)) (pw_and1 (pt_cmpR (op_neD hr.units) (pv 4) (pe_lst pa_nil) (nomark _))))) (pss_one (ps_setLc (i := 7) (X := (cxOf CX0 P w K mg base NLn "_law_lines" (defScope sLn) f cdv A outer s H E).nox) (own := [("_law_one", 9)]) (g := (gName 9)) (tt := tYes) rfl scLn.nd rfl rfl (sw_true rfl rfl rfl (by decide +kernel)) (pi_list (pe_call gO.G (hr.mono (by decide)) (by rfl) gO.m gO.k gO.b .nil pass0 (pa_cons (pv 0) (pa_cons (pv 4) pa_nil)))) (blkOk_by (N := NLn) (sc := defScope sLn) (by decide +kernel)) (fun _ _ _ _ _ => (pg_name (i := 9) scLn.nd rfl (.inl rfl))) (fun _ _ _ _ _ => pts_nil) (fun _ _ _ _ _ => (pe_call gB.G hr (by rfl) gB.m gB.k gB.b .nil pass0 (pa_cons (pe_tup (pa_cons pe_int (pa_cons pe_int pa_nil))) (pa_cons (pv 9) pa_nil)))))) pss_nil)
      (pss_cons (ps_if (PW.pt (pw_and (pt_cmpR op_eq (pv 6) pe_int (nomark _)) (pw_and1 (pt_cmpR op_gt (pe_callB call_len_seq (by rfl) T.len PySem.boot_len (pa_cons (pv 4) pa_nil)) pe_int (nomark _))))) (pss_one (ps_setLc (i := 7) (X := (cxOf CX0 P w K mg base NLn "_law_lines" (defScope sLn) f cdv A outer s H E).nox) (own := [("_law_one", 9), ("_law_other", 10)]) (g := (gTup K 2 (gCons (gName 9) (gCons (gName 10) gNil)))) (tt := tYes) rfl scLn.nd rfl rfl (sw_true rfl rfl rfl (by decide +kernel)) (pi_zip (by rfl) mZ (pa_cons (pe_ix ix_list (pv 4) pe_int (fun _ _ => rfl)) (pa_cons (pe_ix ix_list (pv 4) (pe_un un_neg pe_int) (fun _ _ => rfl)) pa_nil))) (blkOk_by (N := NLn) (sc := defScope sLn) (by decide +kernel)) (fun _ _ _ _ _ => (pg_tupK (K := K) rfl rfl (pgs_cons (pg_name (i := 9) scLn.nd rfl (.inl rfl)) (pgs_cons (pg_name (i := 10) scLn.nd rfl (.inl rfl)) pgs_nil)))) (fun _ _ _ _ _ => pts_nil) (fun _ _ _ _ _ => (pe_call gA.G hr (by rfl) gA.m gA.k gA.b .nil pass0 (pa_cons (pv 9) (pa_cons (pv 10) pa_nil)))))) pss_nil)
      (pss_cons (ps_if (pt_cmpR op_eq (pv 6) pe_int (nomark _)) (pss_one (ps_set (i := 7) scLn.nd rfl (Or.inl rfl) (pe_op op_rep (pe_lst (pa_cons (pe_tup (pa_cons pe_int (pa_cons pe_int pa_nil))) pa_nil)) (pv 3)))) pss_nil)
      (pss_one (ps_expr (pe_bm PySem.F.plainAttrs_list PySem.F.slot_list_append PySem.F.type_list_append mt_append (pv 4) (pa_cons (pv 7) pa_nil)))))))))
      (pss_one (ps_ret (pv 4))))), ?_⟩
    refine ⟨_, rfl, _, rfl, d, 4, rfl, hd, by decide, by decide, fun r x y u r0 r4 => ?_⟩
    have R1 : Rl d H (upd H d (.lst (dxs x y u))) := (Rl.refl hd).roll
    generalize upd H d _ = H1 at R1 ⊢
    refine ⟨_, _, rfl, rfl, Nat.zero_le _, fun fo hfo => ?_⟩
    have fd' := dice_ne R1.1 hfo
    have R2 : Rl d H (upd H1 fo (.lst [])) := R1.new hfo
    have nfo : H fo = none := R1.free hd hfo
    have hfo2 : upd H1 fo (.lst []) fo = some (.lst []) := upd_same
    generalize upd H1 fo _ = H2 at *
    refine ⟨_, _, rfl, ?_⟩
    refine ⟨_, rfl, _, rfl, d, 4, rfl, R2.1, by decide, by decide, fun r2 x2 y2 u2 r20 r25 => ?_⟩
    have R3 : Rl d H (upd H2 d (.lst (dxs x2 y2 u2))) := R2.roll
    have hfo3 : upd H2 d (.lst (dxs x2 y2 u2)) fo = some (.lst []) := by rw [upd_ne fd']; exact hfo2
    generalize upd H2 d _ = H3 at *
    obtain ⟨n, hn, n1, n4⟩ : ∃ n : Nat, (1 : Int) + r = (n : Int) ∧ 1 ≤ n ∧ n ≤ 4 := ⟨(1 + r).toNat, by omega, by omega, by omega⟩
    have he : (fun i j : Int => V.int (i + j)) 1 r = V.int (n : Int) := by show V.int (1 + r) = _; rw [hn]
    rw [he]
    refine ⟨_, _, rfl, rfl, 1 + r2, rfl, by omega, by omega, ?_⟩
    refine for_range (n := (1 + r2).toNat) (fun i σ Hc => Rl d H Hc ∧ ∃ (pss : List (List PI)) (x5 x6 x7 : Option V), σ = [some (.ref d), some (.int 4), some (.int 4), some (.int (n : Nat)), some (.ref fo), x5, x6, x7, none, none, none] ∧ LY Hc fo pss ∧ pss.length = i ∧ (∀ ps ∈ pss, ps.length = n ∧ ∀ p ∈ ps, Q12 (7 * 2 ^ i / 2) p))
      ⟨R3, [], _, _, _, rfl, ⟨[], hfo3, AG.nil⟩, rfl, fun ps m => (by cases m)⟩ ?_ ?_
    · rintro i σ Hc hi ⟨Rc, pss, x5, x6, x7, rfl, ly, pl, hz⟩
      have i5 : i < 5 := by omega
      have pw : 2 ^ (i + 1) = 2 * 2 ^ i := by rw [Nat.pow_succ]; omega
      have p1 : 1 ≤ 2 ^ i := Nat.pow_pos (by decide)
      refine ⟨_, rfl, d, 6, rfl, Rc.1, by decide, by decide, fun w0 x3 y3 u3 w00 w06 => ?_⟩
      have R4 : Rl d Hc (upd Hc d (.lst (dxs x3 y3 u3))) := (Rl.refl Rc.1).roll
      have ly4 := ly.rl fd' Rc.1 R4
      have Rc4 := Rc.trans R4
      generalize upd Hc d _ = H4 at *
      refine ⟨_, rfl, (n : Int), rfl, by omega, by omega, fun D hD => ?_⟩
      have natn : ((n : Int)).toNat = n := by omega
      rw [natn]
      have Dd := dice_ne Rc4.1 hD
      refine lc_range (lo := 0) (n := n) (fun j Hx => Rl d H4 Hx ∧ ∃ us ps, Hx D = some (.lst us) ∧ TPs Hx us ps ∧ ps.length = j ∧ ∀ p ∈ ps, Q12 7 p) ⟨(Rl.refl Rc4.1).grow hD Dd, [], [], upd_same, A2.nil, rfl, fun p m => (by cases m)⟩ ?_ ?_
      · rintro j Hx hj ⟨rx, us, ps, hDx, hu, lj, hq⟩
        refine ⟨rfl, _, rfl, d, rfl, rx.1, fun t b x H' t1 t2 b1 b2 r2 nx => ?_⟩
        have sx : Same H' (upd H' x (.tup [.int (nT t b), .int (nB t b)])) := same_new nx
        have e := sx _ _ (r2.2 _ _ Dd hDx)
        have hu2 : TPs (upd H' x (.tup [.int (nT t b), .int (nB t b)])) us ps := A2.imp hu fun _ _ z => by
          obtain ⟨q, e1, e2⟩ := z.rl rx.1 r2
          exact ⟨q, e1, sx _ _ e2⟩
        refine ⟨us, e, small1000 (by rw [hu.1]; omega), ((rx.trans r2).same sx).grow hD Dd, us ++ [.ref x], ps ++ [(nT t b, nB t b)], upd_same, ?_, by rw [List.length_append, lj]; rfl, fun p m => ?_⟩
        · exact A2.snoc (hu2.updl e) ⟨x, rfl, tup_updl upd_same e⟩
        · rcases List.mem_append.mp m with z | z
          · exact hq p z
          · rw [List.mem_singleton.mp z]; exact q12_num t1 t2 b1 b2
      rintro H5 ⟨r5, us, ps, hD5, hu5, l5, q5⟩
      have ly5 := ly4.rl fd' Rc4.1 r5
      have Rc5 := Rc4.trans r5
      have Dfo : D ≠ fo := fun z => by
        obtain ⟨_, e, _⟩ := ly4
        rw [z, e] at hD; cases hD
      refine ⟨_, _, rfl, ?_⟩
      let Fx : Hp → Addr → Prop := fun Hx fr => Rl d H Hx ∧ LY Hx fo pss ∧ fr ≠ fo ∧ ∃ ps, PL Hx fr ps ∧ ps.length = n ∧ ∀ p ∈ ps, Q12 (7 * 2 ^ (i + 1) / 2) p
      have F0 : Fx H5 D := ⟨Rc5, ly5, Dfo, ps, ⟨us, hD5, hu5⟩, l5, fun p m => (q5 p m).up (by omega)⟩
      have fsame : ∀ Hx Hy fr, Fx Hx fr → Same Hx Hy → Fx Hy fr := fun Hx Hy fr ⟨h1, h2, h3, ps, h4, h5⟩ s => ⟨h1.same s, h2.same s, h3, ps, h4.same s, h5⟩
      dsimp only
      refine seq_join (Fx := Fx) (fun fr => [some (.ref d), some (.int 4), some (.int 4), some (.int (n : Nat)), some (.ref fo), some (.int (0 + (i : Nat))), some (.int w0), some (.ref fr), none, none, none]) ?R fun N R => ?_
      rotate_left
      refine ⟨_, rfl, rfl, _, rfl, ite2 (fun z => ?a) (fun z => iteF (R H5 D F0))⟩
      case a =>
        obtain ⟨_, hl5⟩ := id ly5
        refine ⟨_, rfl, Nat.zero_le _, fun l0 hl0 => ?_⟩
        have s6 : Same H5 (upd H5 l0 (.lst [])) := same_new hl0
        have hl6 : upd H5 l0 (.lst []) l0 = some (.lst []) := upd_same
        have F6 := fsame _ _ _ F0 s6
        have ly6 := ly5.same s6
        have Rc6 := Rc5.same s6
        generalize upd H5 l0 _ = H6 at *
        refine ⟨llD pss, .list [], ly6.ll.dp, Dp.lst (SqL.of hl6) .nil, llD_shaped pss, rfl, _, rfl, ?_⟩
        rw [llD_nil]
        by_cases hnil : pss = []
        · have en : (!pss.isEmpty) = false := by rw [hnil]; rfl
          rw [en]
          exact iteF (R _ _ F6)
        · have en : (!pss.isEmpty) = true := by
            cases pss with
            | nil => exact absurd rfl hnil
            | cons _ _ => rfl
          have lpos : 0 < pss.length := List.length_pos_iff.mpr hnil
          rw [en]
          refine iteT ?_
          obtain ⟨vs, hv1, hv2⟩ := id ly6
          have vl : vs.length = i := by rw [hv2.1]; exact pl
          refine ⟨_, rfl, _, rfl, d, fo, vs, rfl, Rc6.1, hv1, fd', by rw [hv2.1]; exact lpos, by omega, fun kk xx x7 y7 u7 hk => ?_⟩
          have R7 : Rl d H6 (upd H6 d (.lst (dxs x7 y7 u7))) := (Rl.refl Rc6.1).roll
          have ly7 := ly6.rl fd' Rc6.1 R7
          have Rc7 := Rc6.trans R7
          generalize upd H6 d _ = H7 at *
          obtain ⟨vs7, hv7, hw7⟩ := id ly7
          obtain ⟨pk, hpk, qk, rfl, _, _⟩ := hv2.2 kk xx hk
          have hk7 : ∃ q7, vs7[kk]? = some (.ref q7) ∧ PL H7 q7 pk ∧ q7 = qk := by
            have e := R7.2 _ _ fd' hv1
            rw [hv7] at e
            have e2 : vs7 = vs := by injection e with e; injection e
            obtain ⟨pk2, h1, q7, h2, _, h3⟩ := hw7.2 kk (.ref qk) (by rw [e2]; exact hk)
            rw [hpk] at h1
            cases h1
            cases h2
            exact ⟨qk, by rw [e2]; exact hk, h3, rfl⟩
          obtain ⟨q7, _, pk7, rfl⟩ := hk7
          obtain ⟨us7, hu7, ht7⟩ := id pk7
          obtain ⟨lk, zk⟩ := hz pk (List.mem_of_getElem? hpk)
          refine ⟨q7, rfl, ⟨_, SqL.of hu7⟩, fun D8 hD8 => ?_⟩
          refine ll_pl (ps := pk) (by omega) (byP (2, 1)) hD8 hu7 ht7 (fun _ => rfl) ?_ ?_
          · intro i2 p x H9 Q9 hp tx s9 k9
            refine ⟨small1000 (by show 1 ≤ 1000; decide), fun tn htn => ?_⟩
            have sT : Same H9 (upd H9 tn (.tup [.int 2, .int 1])) := same_new htn
            exact ⟨_, rfl, tn, x, (2, 1), p, rfl, upd_same, sT _ _ tx, ⟨by decide, by show (2 : Int).natAbs < _; exact Nat.lt_of_lt_of_le (show 2 < 2 ^ 2 by decide) (Nat.pow_le_pow_right (by decide) (by decide)), by show (1 : Int).natAbs < _; exact Nat.lt_of_lt_of_le (show 1 < 2 ^ 2 by decide) (Nat.pow_le_pow_right (by decide) (by decide))⟩, ((zk p (List.mem_of_getElem? hp)).pz (by have : 2 ^ i ≤ 2 ^ 4 := Nat.pow_le_pow_right (by decide) (by omega); omega)).pp (by decide), fun b hb => k9 b _ upd_same (sT.trans (same_new hb))⟩
          · intro H9 s9 pL9
            refine R H9 D8 ⟨Rc7.same s9, ly7.same s9, (fun z => by rw [z, hv7] at hD8; cases hD8), pk.map (byP (2, 1)), pL9, by rw [List.length_map]; exact lk, fun p hp => ?_⟩
            obtain ⟨r, hr', rfl⟩ := List.mem_map.mp hp
            exact (zk r hr').twice.up (by omega)
      case R =>
        intro H6 fr6 F6
        refine seq_join (Fx := Fx) (fun fr => [some (.ref d), some (.int 4), some (.int 4), some (.int (n : Nat)), some (.ref fo), some (.int (0 + (i : Nat))), some (.int w0), some (.ref fr), none, none, none]) ?R2 fun N R => ?_
        rotate_left
        · obtain ⟨Rc6, ly6, nf6, ps6, pl6, l6, q6⟩ := id F6
          obtain ⟨vs, hv1, hv2⟩ := id ly6
          refine ⟨_, rfl, rfl, _, rfl, ite2 (fun z => ?_) (fun z => iteF (R H6 fr6 F6))⟩
          refine ⟨_, rfl, fo, vs, rfl, .inl (SqL.of hv1), _, _, rfl, rfl, _, rfl, ite2 (fun z2 => ?_) (fun z2 => R H6 fr6 F6)⟩
          have z2 : (1 : Int) < (vs.length : Nat) := of_decide_eq_true z2
          have vne : vs ≠ [] := fun e => by rw [e] at z2; simp at z2
          obtain ⟨v0, h0⟩ : ∃ v0, vs[0]? = some v0 := ⟨_, List.getElem?_eq_getElem (by omega)⟩
          have hL : vs[vs.length - 1]? = some (vs.getLast vne) := by rw [List.getLast_eq_getElem]; exact List.getElem?_eq_getElem (by omega)
          obtain ⟨p0, hp0, q0, e0, _, pq0⟩ := hv2.2 0 v0 h0
          obtain ⟨pL, hpL, qL, eL, _, pqL⟩ := hv2.2 _ _ hL
          subst e0
          obtain ⟨us0, hu0, ht0⟩ := id pq0
          obtain ⟨usL, huL, htL⟩ := id pqL
          obtain ⟨l0, z0⟩ := hz p0 (List.mem_of_getElem? hp0)
          obtain ⟨lL, zL⟩ := hz pL (List.mem_of_getElem? hpL)
          refine ⟨_, rfl, fo, _, 0, _, rfl, rfl, SqL.of hv1, atI_nat (j := 0) h0, _, rfl, _, rfl, fo, _, -1, _, rfl, rfl, SqL.of hv1, at_last vs vne, q0, qL, us0, usL, by rw [eL], SqL.of hu0, SqL.of huL, fun D8 hD8 => ?_⟩
          have m4 : 7 * 2 ^ i / 2 ≤ 112 := by have : 2 ^ i ≤ 2 ^ 4 := Nat.pow_le_pow_right (by decide) (by omega); omega
          refine lz_pl (ps := p0) (rs := pL) (by rw [l0, lL]) (by omega) plusP hD8 hu0 ht0 huL htL (fun _ _ => rfl) ?_ ?_
          · intro i2 p r x y H9 Q9 hp hr' tx ty s9 k9
            exact ⟨_, rfl, _, rfl, x, y, p, r, rfl, tx, ty, ((z0 p (List.mem_of_getElem? hp)).pz m4).pp (by decide), ((zL r (List.mem_of_getElem? hr')).pz m4).pp (by decide), fun b hb => k9 b _ upd_same (same_new hb)⟩
          · intro H9 s9 pL9
            refine R H9 D8 ⟨Rc6.same s9, ly6.same s9, (fun z => by rw [z, hv1] at hD8; cases hD8), List.zipWith plusP p0 pL, pL9, by rw [List.length_zipWith, l0, lL]; omega, fun p hp => ?_⟩
            obtain ⟨j, hj⟩ := List.mem_iff_getElem?.mp hp
            rw [List.getElem?_zipWith] at hj
            cases e1 : p0[j]? with
            | none => rw [e1] at hj; cases hj
            | some x =>
              cases e2 : pL[j]? with
              | none => rw [e1, e2] at hj; cases hj
              | some y =>
                rw [e1, e2] at hj
                have := Option.some.inj hj
                rw [← this]
                exact ((z0 x (List.mem_of_getElem? e1)).plus (zL y (List.mem_of_getElem? e2))).up (by omega)
        clear F6
        intro H6 fr6 F6
        refine seq_join (Fx := Fx) (fun fr => [some (.ref d), some (.int 4), some (.int 4), some (.int (n : Nat)), some (.ref fo), some (.int (0 + (i : Nat))), some (.int w0), some (.ref fr), none, none, none]) ?R3 fun N R => ?_
        rotate_left
        · obtain ⟨Rc6, ly6, nf6, ps6, pl6, l6, q6⟩ := id F6
          refine ⟨_, rfl, rfl, _, rfl, ite2 (fun z => ?_) (fun z => R H6 fr6 F6)⟩
          refine ⟨small1000 (by show 1 ≤ 1000; decide), fun t ht => ?_⟩
          have s7 : Same H6 (upd H6 t (.tup [.int 0, .int 1])) := same_new ht
          have tt : TA (upd H6 t (.tup [.int 0, .int 1])) t (0, 1) := upd_same
          generalize upd H6 t _ = H7 at *
          refine ⟨small1000 (by show 0 ≤ 1000; decide), fun l hl => ?_⟩
          have s8 : Same H7 (upd H7 l (.lst [.ref t])) := same_new hl
          have hl8 : upd H7 l (.lst [.ref t]) l = some (.lst [.ref t]) := upd_same
          generalize upd H7 l _ = H8 at *
          refine ⟨_, rfl, l, (n : Int), _, rfl, rfl, hl8, by omega, by omega, Nat.le_of_lt (small1000 (by show 1 * (n : Int).toNat ≤ 1000; omega)), fun p hp => ?_⟩
          have en : (List.replicate (n : Int).toNat [V.ref t]).flatten = List.replicate n (V.ref t) := by rw [flat_rep]; rfl
          rw [en]
          have s9 : Same H8 (upd H8 p (.lst (List.replicate n (V.ref t)))) := same_new hp
          have s69 := s7.trans (s8.trans s9)
          refine R _ p ⟨Rc6.same s69, ly6.same s69, (fun z => by
            obtain ⟨_, e, _⟩ := ly6
            have := (s7.trans s8) _ _ e
            rw [z, this] at hp; cases hp), List.replicate n (0, 1), ⟨_, upd_same, rep_tps ((s8.trans s9) _ _ tt) n⟩, List.length_replicate, fun p hp => ?_⟩
          rw [List.eq_of_mem_replicate hp]
          exact Q12.zero.up (Nat.zero_le _)
        clear F6
        rintro H6 fr6 ⟨Rc6, ly6, nf6, ps6, pl6, l6, q6⟩
        obtain ⟨vs, hv1, hv2⟩ := id ly6
        have vl : vs.length = i := by rw [hv2.1]; exact pl
        refine ⟨_, rfl, .inl ⟨rfl, _, SqL.of hv1⟩, _, rfl, fo, vs, _, rfl, rfl, hv1, small1000 (by omega), ?_⟩
        have up : ∀ q ps, q ≠ fo → PL H6 q ps → PL (upd H6 fo (.lst (vs ++ [.ref fr6]))) q ps := fun q ps nq ⟨ys, h1, h2⟩ => ⟨ys, by rw [upd_ne nq]; exact h1, h2.updl hv1⟩
        refine ⟨Rc6.grow nfo fd', pss ++ [ps6], _, _, _, rfl, ⟨_, upd_same, AG.snoc (hv2.imp fun _ _ ⟨q, e, nq, t⟩ => ⟨q, e, nq, up _ _ nq t⟩) ⟨fr6, rfl, nf6, up _ _ nf6 pl6⟩⟩, by rw [List.length_append, pl]; rfl, fun ps hps => ?_⟩
        rcases List.mem_append.mp hps with z | z
        · exact ⟨(hz ps z).1, fun p hp => ((hz ps z).2 p hp).up (by omega)⟩
        · rw [List.mem_singleton.mp z]; exact ⟨l6, q6⟩
    · rintro σ Hc ⟨Rc, pss, x5, x6, x7, rfl, ly, pl, hz⟩
      have e : 2 ^ (1 + r2).toNat ≤ 2 ^ 5 := Nat.pow_le_pow_right (by decide) (by omega)
      exact ⟨_, rfl, q fo pss n Hc n1 n4 (by omega) (by omega) (fun ps m => ⟨(hz ps m).1, fun p hp => ((hz ps m).2 p hp).up (by omega)⟩) ly.ll Rc⟩
end
end FR
set_option Elab.async false
set_option linter.all false
set_option maxRecDepth 100000
set_option maxHeartbeats 4000000
/-! tuples that are equal, asked by != -/
namespace GQ
open PySem PySem.SeqAt
open AutoSeq1 (wpAny_loadPart')
open MeetsSeq MeetsSeq2 MeetsSeq3 SeqRoads2
section
variable {prog : Program} {w : World} {A : Around} {R : Result → Shared → Prop}
theorem tuple_neG (p q : Addr) (xs ys : Array Value) (n m : Nat) (d1 d2 : Option Addr) (z1 z2 : Array (Option Value)) (len : xs.size = ys.size) (J : Nat → Shared → Prop)
    (each : ∀ k (k1 : k < xs.size) (k2 : k < ys.size) s, J k s → wpAny (model prog w) A.in1 (eqBool xs[k] ys[k]) (fun r s' => r = true ∧ J (k + 1) s') (fun e s' => R (.error e) s') s)
    (done : ∀ s, J xs.size s → R (.ok (.ret (.bool false))) s) {s : Shared} (hp : s.heap.get? p = some { cls := .type "tuple", dict := d1, data := .seq xs n, slots := z1 }) (hq : s.heap.get? q = some { cls := .type "tuple", dict := d2, data := .seq ys m, slots := z2 })
    (start : J 0 s) : wpAny (model prog w) A.in1 (Builtin.«tuple.__ne__» ⟨[.ref p, .ref q], []⟩) (FinOf prog w A R) (fun e s' => R (.error e) s') s := by
  have sub := AutoSeq1.sub_tuple_tuple
  have zl : (xs.toList.zip ys.toList).length = xs.size := by simp [len]
  have st := start
  obtain ⟨hp0, gens0, dr0, tk0, os0⟩ := s
  wp_walk using wpAny_loadPart' hp, wpAny_loadPart' hq, wpAny_forIn_list _ (fun left c s' => c.1 = none ∧ ∃ k, left = (xs.toList.zip ys.toList).drop k ∧ k ≤ xs.size ∧ J k s') _
  case turn =>
    rintro ⟨u, v⟩ left c s' ⟨c0, k, zk, hk, hJ⟩
    have lt : k < (xs.toList.zip ys.toList).length := Nat.lt_of_not_le fun ge => by
      rw [List.drop_of_length_le ge] at zk
      cases zk
    have k1 : k < xs.size := by omega
    have k2 : k < ys.size := by omega
    rw [List.drop_eq_getElem_cons lt] at zk
    injection zk with eh et
    have eu : u = xs[k] := by have e := congrArg Prod.fst eh; simpa using e
    have ev : v = ys[k] := by have e := congrArg Prod.snd eh; simpa using e
    subst eu ev
    refine wpAny_bind (wpAny_mono (each k k1 k2 s' hJ) (fun r s2 ⟨er, hJ2⟩ => ?_) fun _ _ y => y)
    subst er
    wp_walk
    exact ⟨rfl, k + 1, et, k1, hJ2⟩
  case fin =>
    rintro ⟨c1, c2⟩ s' ⟨c0, k, zk, hk, hJ⟩
    simp only at c0
    subst c0
    have ke : k = xs.size := by
      rcases Nat.lt_or_ge k (xs.toList.zip ys.toList).length with lt | ge
      · rw [List.drop_eq_getElem_cons lt] at zk
        cases zk
      · omega
    have fin := done s' (ke ▸ hJ)
    wp_walk
    simpa [Builtin.Tuple.tupleCompareSizes, len] using fin
  case h =>
    exact ⟨rfl, 0, rfl, Nat.zero_le _, st⟩
end
section
variable {prog : Program} {w : World} {A : Around} {E : Value → Shared → Prop} {s : Shared}
theorem rc_tupNe {p q : Addr} {xs ys : Array Value} {Q : Value → Shared → Prop} (len : xs.size = ys.size) (hu : A.units < cLine) (J : Nat → Shared → Prop)
    (hp : s.heap.IsTuple p xs) (hq : s.heap.IsTuple q ys)
    (each : ∀ k (k1 : k < xs.size) (k2 : k < ys.size) s, J k s → wpAny (model prog w) A.in1 (eqBool xs[k] ys[k]) (fun r s' => r = true ∧ J (k + 1) s') E s)
    (done : ∀ s, J xs.size s → Q (.bool false) s) (start : J 0 s) : wpAny (model prog w) A (richCompare .NotEq (.ref p) (.ref q)) Q E s := by
  obtain ⟨⟨c1, d1, t1, z1⟩, h1, e1, n, g1⟩ := id hp
  obtain ⟨⟨c2, d2, t2, z2⟩, h2, e2, m, g2⟩ := id hq
  simp only at e1 g1 e2 g2
  subst e1 g1 e2 g2
  refine wpAny_richCompare_same_room (op := .NotEq) ⟨_, h1, rfl⟩ ⟨_, h2, rfl⟩ F.slot_tuple_ne (call_here F.slot_tuple_ne ⟨_, h1, rfl⟩ F.entry_tuple_ne (F.args_tuple_ne_2 _ _) ?_) hu
  exact tuple_neG (R := wants (fun v s' => v ≠ .notImplemented ∧ Q v s') E) p q xs ys n m d1 d2 z1 z2 len J each (fun s' y => ⟨(fun z => nomatch z), done s' y⟩) h1 h2 start
end
end GQ
set_option Elab.async false
set_option linter.all false
set_option maxRecDepth 100000
set_option maxHeartbeats 4000000
namespace L2
open PySem PySem.Spec PyProof.Rows
/-- two tuples whose items are equal, under != -/
theorem op_neTup {X : Cx} {n : Nat} {D : Eqv} (mono : Mon D) (items : EqG X n D) (hr : Room (n + 1) X.A) : OpR X (compareOp .NotEq) (fun x y H Q => DTup X.K D x y H ∧ ∀ H', Ext H H' → Q (.bl false) H') := by
  intro pins s σ H x y v u Q I rx ry ⟨d, q⟩
  obtain ⟨a, b, xs, ys, rfl, rfl, ha, hb, pr⟩ := d
  cases rx
  cases ry
  obtain ⟨i1, r1, e1, _⟩ := I.tuple ha
  obtain ⟨i2, r2, e2, _⟩ := I.tuple hb
  have sub : Sub X (n + 1) X.A := ⟨hr, rfl⟩
  have len : i1.toArray.size = i2.toArray.size := by
    have := pr.1
    have l1 := r1.length
    have l2 := r2.length
    simp only [List.size_toArray]
    omega
  show wpAny (model X.prog X.w) X.A (richCompare .NotEq (.ref a) (.ref b)) (EP X pins σ Q) X.xe s
  exact GQ.rc_tupNe len hr.units0 (fun _ s' => LoopI X pins σ H s') e1 e2 (fun k k1 k2 s' l => turnG mono items sub pr r1 r2 k k1 k2 s' l) (fun s' ⟨H', J, ex⟩ => ⟨.bl false, H', J, rfl, q H' ex⟩) ⟨H, I, Ext.rfl'⟩
theorem fn_weaken {P : Program} {w : World} {K : PySem.W.Frag} {mg : Str → Option Value} {base : Heap} {CX : CXT} {k : Nat} {f : Addr} {fd : FuncData} {ps : List Str} {sp sp' : Sp} (F : FnOk P w K mg base CX k f fd ps sp) (g : ∀ vs H Q E, sp' vs H Q E → sp vs H Q E) : FnOk P w K mg base CX k f fd ps sp' :=
  ⟨fun vs H Q E h => F.len vs H Q E (g vs H Q E h), fun A o s H ar us vs Q E hr e0 b r h => F.run A o s H ar us vs Q E hr e0 b r (g vs H Q E h)⟩
end L2
set_option Elab.async false
set_option linter.all false
set_option maxRecDepth 100000
set_option maxHeartbeats 4000000
namespace GQ
open PySem PySem.SeqAt
open AutoSeq1 (wpAny_loadPart')
open MeetsSeq MeetsSeq2 MeetsSeq3 SeqRoads2
section
variable {prog : Program} {w : World} {A : Around} {R : Result → Shared → Prop}
/-- a tuple that isn't empty beside an empty one -/
theorem tuple_neE (p q : Addr) (xs ys : Array Value) (n m : Nat) (d1 d2 : Option Addr) (z1 z2 : Array (Option Value)) (some_ : 0 < xs.size) (none_ : ys.size = 0) {s : Shared}
    (done : R (.ok (.ret (.bool true))) s) (hp : s.heap.get? p = some { cls := .type "tuple", dict := d1, data := .seq xs n, slots := z1 }) (hq : s.heap.get? q = some { cls := .type "tuple", dict := d2, data := .seq ys m, slots := z2 }) :
    wpAny (model prog w) A.in1 (Builtin.«tuple.__ne__» ⟨[.ref p, .ref q], []⟩) (FinOf prog w A R) (fun e s' => R (.error e) s') s := by
  have sub := AutoSeq1.sub_tuple_tuple
  have ye : ys = #[] := Array.size_eq_zero_iff.mp none_
  subst ye
  have zl : (xs.toList.zip (#[] : Array Value).toList) = [] := by simp
  have dd := done
  obtain ⟨hp0, gens0, dr0, tk0, os0⟩ := s
  wp_walk using wpAny_loadPart' hp, wpAny_loadPart' hq, wpAny_forIn_list _ (fun left c s' => c.1 = none ∧ left = [] ∧ R (.ok (.ret (.bool true))) s') _
  case turn =>
    rintro ⟨u, v⟩ left c s' ⟨c0, zk, hJ⟩
    cases zk
  case fin =>
    rintro ⟨c1, c2⟩ s' ⟨c0, zk, hJ⟩
    simp only at c0
    subst c0
    wp_walk
    have ne : (xs.size != 0) = true := bne_iff_ne.mpr (Nat.pos_iff_ne_zero.mp some_)
    simp only [Builtin.Tuple.tupleCompareSizes]
    first
      | (show R (.ok (.ret (.bool (xs.size != 0)))) s'; rw [ne]; exact hJ)
      | (show R (.ok (.ret (.bool (xs.size != (#[] : Array Value).size)))) s'; simpa [ne] using hJ)
  case h =>
    exact ⟨rfl, zl, dd⟩
end
section
variable {prog : Program} {w : World} {A : Around} {E : Value → Shared → Prop} {s : Shared}
theorem rc_tupNeE {p q : Addr} {xs ys : Array Value} {Q : Value → Shared → Prop} (some_ : 0 < xs.size) (none_ : ys.size = 0) (hu : A.units < cLine) (hp : s.heap.IsTuple p xs) (hq : s.heap.IsTuple q ys) (done : Q (.bool true) s) :
    wpAny (model prog w) A (richCompare .NotEq (.ref p) (.ref q)) Q E s := by
  obtain ⟨⟨c1, d1, t1, z1⟩, h1, e1, n, g1⟩ := id hp
  obtain ⟨⟨c2, d2, t2, z2⟩, h2, e2, m, g2⟩ := id hq
  simp only at e1 g1 e2 g2
  subst e1 g1 e2 g2
  refine wpAny_richCompare_same_room (op := .NotEq) ⟨_, h1, rfl⟩ ⟨_, h2, rfl⟩ F.slot_tuple_ne (call_here F.slot_tuple_ne ⟨_, h1, rfl⟩ F.entry_tuple_ne (F.args_tuple_ne_2 _ _) ?_) hu
  exact tuple_neE (R := wants (fun v s' => v ≠ .notImplemented ∧ Q v s') E) p q xs ys n m d1 d2 z1 z2 some_ none_ ⟨(fun z => nomatch z), done⟩ h1 h2
end
end GQ
namespace L2
open PySem PySem.Spec PyProof.Rows
/-- a tuple beside an empty one, under != -/
theorem op_neTupE {X : Cx} (hu : X.A.units < cLine) : OpR X (compareOp .NotEq) (fun x y H Q => ∃ a b xs, x = .ref a ∧ y = .ref b ∧ SqT X.K H a xs ∧ SqT X.K H b [] ∧ 0 < xs.length ∧ Q (.bl true) H) := by
  intro pins s σ H x y v u Q I rx ry ⟨a, b, xs, ex, ey, ha, hb, pos, q⟩
  subst ex ey
  cases rx
  cases ry
  obtain ⟨i1, r1, e1, _⟩ := I.tuple ha
  obtain ⟨i2, r2, e2, _⟩ := I.tuple hb
  have l1 := r1.length
  have l2 := r2.length
  show wpAny (model X.prog X.w) X.A (richCompare .NotEq (.ref a) (.ref b)) (EP X pins σ Q) X.xe s
  exact GQ.rc_tupNeE (by simp only [List.size_toArray]; omega) (by simp only [List.size_toArray]; rw [← l2]; rfl) hu e1 e2 ⟨.bl true, H, I, rfl, q⟩
end L2
set_option Elab.async false
set_option linter.all false
set_option maxRecDepth 100000
set_option maxHeartbeats 4000000
/-! an instance beside an integer, within tuples -/
namespace GQ
open PySem PySem.SeqAt
section
variable {prog : Program} {w : World} {A : Around} {E : Value → Shared → Prop} {s : Shared}
theorem eqBool_refI {l : Addr} {i : Int} {t : Tok} {Q : Bool → Shared → Prop} (h : wpAny (model prog w) A (richCompare .Eq (.ref l) (.int i t)) (fun v s' => ∃ r, v = .bool r ∧ Q r s') E s) : wpAny (model prog w) A (eqBool (.ref l) (.int i t)) Q E s := by
  unfold eqBool
  refine wpAny_holding ?_
  refine wpAny_ite_split (fun hab => absurd (eq_of_beq hab) (fun z => nomatch z)) (fun _ => ?_)
  refine wpAny_bind (wpAny_mono h (fun v s' hv => ?_) fun _ _ x => x)
  obtain ⟨r, rfl, q⟩ := hv
  exact wpAny_truthy_bool q
end
end GQ
namespace L2
open PySem PySem.Spec PyProof.Rows PySem.Calls
section
variable {X : Cx} {CX : CXT} {n : Nat} {f C : Addr} {fd : FuncData} {ps : List Str} {sp : Sp} {E : XK}
/-- an instance of the class at C beside an integer: what R says of the two -/
def DOwnI (C : Addr) (R : Addr → Int → Hp → Prop) : Eqv := fun x y H => ∃ a dx fs i, x = .ref a ∧ y = .int i ∧ H a = some (.ins C dx fs) ∧ R a i H
theorem mon_ownI {C : Addr} {R : Addr → Int → Hp → Prop} (hR : ∀ a i H H', Ext H H' → R a i H → R a i H') : Mon (DOwnI C R) := fun x y H H' e d => by
  obtain ⟨a, dx, fs, i, hx, hy, h1, r⟩ := d
  exact ⟨a, dx, fs, i, hx, hy, e _ _ h1, hR a i H H' e r⟩
theorem eqG_ownI {R : Addr → Int → Hp → Prop} (D : Dun X.K C "__eq__" f) (F : FnOk X.prog X.w X.K X.mg X.base CX n f fd ps sp) (hb : Binds X.K fd ps []) (hx : Passes CX X E) (nf : PySem.W.notFirst X.K C (.type "int") = true)
    (g : ∀ a i H, R a i H → sp [.ref a, .int i] H (fun v H' => v = .bl true ∧ Ext H H') E) : EqG X n (DOwnI C R) := by
  intro A pins s σ H x y u v sb I rx ry d
  obtain ⟨a, dx, fs, i, rfl, rfl, ha, hr⟩ := d
  cases rx
  obtain ⟨t, rfl⟩ := (show ∃ t, v = Value.int i t from ry)
  refine GQ.eqBool_refI ?_
  obtain ⟨od, J, _⟩ := ins_at I ha
  obtain ⟨m, hF⟩ := I.fr
  obtain ⟨P, Z, p, _⟩ := kit_of I (rInt i t) (.base (.int i))
  refine PySem.W.cmp_K (op := .Eq) (tb := .type "int") sb.room.units0 hF I.ok.mod.kin J (Z.ty _ _ I.kIn p) nf D.at_ D.fn (wpAny_mono (run_sub sb F hb hx I (.cons (rRef a) (.cons (rInt i t) .nil)) (g a i H hr)) (fun w' s' q => ?_) fun _ _ e => e)
  obtain ⟨z, H', I', rz, ez, ex⟩ := q
  subst ez
  cases rz
  exact ⟨true, rfl, rfl, H', I', ex⟩
end
end L2
set_option Elab.async false
set_option linter.all false
set_option maxRecDepth 100000
set_option maxHeartbeats 4000000
/-! tuples of one length under ==, whatever comes out; a value in a tuple, by data -/
namespace GQ
open PySem PySem.SeqAt
open AutoSeq1 (wpAny_loadPart')
open MeetsSeq MeetsSeq2 MeetsSeq3 SeqRoads2
section
variable {prog : Program} {w : World} {A : Around} {R : Result → Shared → Prop}
theorem tuple_eqW (p q : Addr) (xs ys : Array Value) (n m : Nat) (d1 d2 : Option Addr) (z1 z2 : Array (Option Value)) (len : xs.size = ys.size) (bs : Nat → Bool) (J : Nat → Shared → Prop)
    (each : ∀ k (k1 : k < xs.size) (k2 : k < ys.size) s, J k s → wpAny (model prog w) A.in1 (eqBool xs[k] ys[k]) (fun r s' => r = bs k ∧ J (k + 1) s') (fun e s' => R (.error e) s') s)
    (all_ : ∀ s, (∀ k, k < xs.size → bs k = true) → J xs.size s → R (.ok (.ret (.bool true))) s) (some_ : ∀ s k, k < xs.size → bs k = false → J (k + 1) s → R (.ok (.ret (.bool false))) s)
    {s : Shared} (hp : s.heap.get? p = some { cls := .type "tuple", dict := d1, data := .seq xs n, slots := z1 }) (hq : s.heap.get? q = some { cls := .type "tuple", dict := d2, data := .seq ys m, slots := z2 })
    (start : J 0 s) : wpAny (model prog w) A.in1 (Builtin.«tuple.__eq__» ⟨[.ref p, .ref q], []⟩) (FinOf prog w A R) (fun e s' => R (.error e) s') s := by
  have sub := AutoSeq1.sub_tuple_tuple
  have zl : (xs.toList.zip ys.toList).length = xs.size := by simp [len]
  have st := start
  obtain ⟨hp0, gens0, dr0, tk0, os0⟩ := s
  wp_walk using wpAny_loadPart' hp, wpAny_loadPart' hq, wpAny_forIn_list _ (fun left c s' => c.1 = none ∧ ∃ k, left = (xs.toList.zip ys.toList).drop k ∧ k ≤ xs.size ∧ (∀ i, i < k → bs i = true) ∧ J k s') _
  case turn =>
    rintro ⟨u, v⟩ left c s' ⟨c0, k, zk, hk, hb, hJ⟩
    have lt : k < (xs.toList.zip ys.toList).length := Nat.lt_of_not_le fun ge => by
      rw [List.drop_of_length_le ge] at zk
      cases zk
    have k1 : k < xs.size := by omega
    have k2 : k < ys.size := by omega
    rw [List.drop_eq_getElem_cons lt] at zk
    injection zk with eh et
    have eu : u = xs[k] := by have e := congrArg Prod.fst eh; simpa using e
    have ev : v = ys[k] := by have e := congrArg Prod.snd eh; simpa using e
    subst eu ev
    refine wpAny_bind (wpAny_mono (each k k1 k2 s' hJ) (fun r s2 ⟨er, hJ2⟩ => ?_) fun _ _ y => y)
    subst er
    cases eb : bs k with
    | true =>
      wp_walk
      exact ⟨rfl, k + 1, et, k1, fun i hi => by
        by_cases z : i = k
        · rw [z]; exact eb
        · exact hb i (by omega), hJ2⟩
    | false =>
      have fin := some_ s2 k k1 eb hJ2
      wp_walk
      first
        | exact fin
        | simpa using fin

  case fin =>
    rintro ⟨c1, c2⟩ s' ⟨c0, k, zk, hk, hb, hJ⟩
    simp only at c0
    subst c0
    have ke : k = xs.size := by
      rcases Nat.lt_or_ge k (xs.toList.zip ys.toList).length with lt | ge
      · rw [List.drop_eq_getElem_cons lt] at zk
        cases zk
      · omega
    have fin := all_ s' (fun i hi => hb i (by omega)) (ke ▸ hJ)
    wp_walk
    simpa [Builtin.Tuple.tupleCompareSizes, len] using fin
  case h =>
    exact ⟨rfl, 0, rfl, Nat.zero_le _, fun i hi => by omega, st⟩
end

section
variable {prog : Program} {w : World} {A : Around} {E : Value → Shared → Prop} {s : Shared}
theorem rc_tupW {p q : Addr} {xs ys : Array Value} {Q : Value → Shared → Prop} (len : xs.size = ys.size) (bs : Nat → Bool) (hu : A.units < cLine) (J : Nat → Shared → Prop)
    (hp : s.heap.IsTuple p xs) (hq : s.heap.IsTuple q ys)
    (each : ∀ k (k1 : k < xs.size) (k2 : k < ys.size) s, J k s → wpAny (model prog w) A.in1 (eqBool xs[k] ys[k]) (fun r s' => r = bs k ∧ J (k + 1) s') E s)
    (all_ : ∀ s, (∀ k, k < xs.size → bs k = true) → J xs.size s → Q (.bool true) s) (some_ : ∀ s k, k < xs.size → bs k = false → J (k + 1) s → Q (.bool false) s) (start : J 0 s) : wpAny (model prog w) A (richCompare .Eq (.ref p) (.ref q)) Q E s := by
  obtain ⟨⟨c1, d1, t1, z1⟩, h1, e1, n, g1⟩ := id hp
  obtain ⟨⟨c2, d2, t2, z2⟩, h2, e2, m, g2⟩ := id hq
  simp only at e1 g1 e2 g2
  subst e1 g1 e2 g2
  refine wpAny_richCompare_same_room (op := .Eq) ⟨_, h1, rfl⟩ ⟨_, h2, rfl⟩ F.slot_tuple_eq (call_here F.slot_tuple_eq ⟨_, h1, rfl⟩ F.entry_tuple_eq (F.args_tuple_eq_2 _ _) ?_) hu
  exact tuple_eqW (R := wants (fun v s' => v ≠ .notImplemented ∧ Q v s') E) p q xs ys n m d1 d2 z1 z2 len bs J each (fun s' a y => ⟨(fun z => nomatch z), all_ s' a y⟩) (fun s' k a b y => ⟨(fun z => nomatch z), some_ s' k a b y⟩) h1 h2 start
end
end GQ
namespace L2
open PySem PySem.Spec PyProof.Rows PySem.Calls
/-- how two values are compared, and what comes out -/
abbrev EqvB := V → V → Bool → Hp → Prop
def MonB (D : EqvB) : Prop := ∀ x y b H H', Ext H H' → D x y b H → D x y b H'
def EqB (X : Cx) (n : Nat) (D : EqvB) : Prop :=
  ∀ (A : Around) (pins : List (Addr × Obj)) (s : Shared) (σ : St) (H : Hp) (x y : V) (u v : Value) (b : Bool), Sub X n A → Inv X pins σ H s → RelV x u → RelV y v → D x y b H →
    wpAny (model X.prog X.w) A (eqBool u v) (fun r s' => r = b ∧ ∃ H', Inv X pins σ H' s' ∧ Ext H H') X.xe s
/-- tuples of one length, item by item -/
def PrsB (D : EqvB) (xs ys : List V) (bs : List Bool) (H : Hp) : Prop := xs.length = ys.length ∧ xs.length = bs.length ∧ ∀ (i : Nat) x y b, xs[i]? = some x → ys[i]? = some y → bs[i]? = some b → D x y b H
theorem op_eqTW {X : Cx} {n : Nat} {D : EqvB} (mono : MonB D) (items : EqB X n D) (hr : Room (n + 1) X.A) : OpR X (compareOp .Eq) (fun x y H Q => ∃ a b xs ys bs, x = .ref a ∧ y = .ref b ∧ SqT X.K H a xs ∧ SqT X.K H b ys ∧ PrsB D xs ys bs H ∧ ∀ H', Ext H H' → Q (.bl (bs.all id)) H') := by
  intro pins s σ H x y v u Q I rx ry ⟨a, b, xs, ys, bs, ex, ey, ha, hb, ⟨l1, l2, pr⟩, q⟩
  subst ex ey
  cases rx
  cases ry
  obtain ⟨i1, r1, e1, _⟩ := I.tuple ha
  obtain ⟨i2, r2, e2, _⟩ := I.tuple hb
  have sub : Sub X (n + 1) X.A := ⟨hr, rfl⟩
  have k1 := r1.length
  have k2 := r2.length
  have gb : ∀ k, k < i1.toArray.size → bs[k]? = some (bs.getD k true) := fun k hk => by
    have : k < bs.length := by simp only [List.size_toArray] at hk; omega
    rw [List.getD_eq_getElem?_getD, List.getElem?_eq_getElem this]; rfl
  show wpAny (model X.prog X.w) X.A (richCompare .Eq (.ref a) (.ref b)) (EP X pins σ Q) X.xe s
  refine GQ.rc_tupW (by simp only [List.size_toArray]; omega) (fun k => bs.getD k true) hr.units0 (fun _ s' => LoopI X pins σ H s') e1 e2 (fun k h1 h2 s' l => ?_) (fun s' al ⟨H', J, ex⟩ => ⟨.bl true, H', J, rfl, ?_⟩) (fun s' k hk bk ⟨H', J, ex⟩ => ⟨.bl false, H', J, rfl, ?_⟩) ⟨H, I, Ext.rfl'⟩
  · obtain ⟨H1, I1, ex⟩ := l
    have g1 : i1[k]? = some i1.toArray[k] := by
      have h1' : k < i1.length := by simpa using h1
      rw [List.getElem?_eq_getElem h1'] <;> simp
    have g2 : i2[k]? = some i2.toArray[k] := by
      have h2' : k < i2.length := by simpa using h2
      rw [List.getElem?_eq_getElem h2'] <;> simp
    have m1 : k < xs.length := by rw [k1]; simpa using h1
    have m2 : k < ys.length := by rw [k2]; simpa using h2
    obtain ⟨u', hu', ru⟩ := r1.get (List.getElem?_eq_getElem m1)
    obtain ⟨v', hv', rv⟩ := r2.get (List.getElem?_eq_getElem m2)
    rw [g1] at hu'
    rw [g2] at hv'
    rw [Option.some.inj hu', Option.some.inj hv']
    refine wpAny_mono (items X.A.in1 pins s' σ H1 _ _ u' v' _ sub.in1 I1 ru rv (mono _ _ _ _ _ ex (pr k _ _ _ (List.getElem?_eq_getElem m1) (List.getElem?_eq_getElem m2) (gb k h1)))) (fun r s2 z => ?_) fun _ _ z => z
    obtain ⟨hr', H2, I2, ex2⟩ := z
    exact ⟨hr', H2, I2, ex.trans ex2⟩
  · have e : bs.all id = true := List.all_eq_true.mpr fun z hz => by
      obtain ⟨k, hk⟩ := List.mem_iff_getElem?.mp hz
      have kl := (List.getElem?_eq_some_iff.mp hk).1
      have h1 : k < i1.toArray.size := by simp only [List.size_toArray]; omega
      have := al k h1
      have g := gb k h1
      rw [hk] at g
      rw [← Option.some.inj g] at this
      exact this
    rw [← e]
    exact q _ ex
  · have e : bs.all id = false := Bool.eq_false_iff.mpr fun z => by
      have := List.all_eq_true.mp z _ (List.mem_of_getElem? (gb k hk))
      have bk : bs.getD k true = false := bk
      rw [bk] at this
      cases this
    rw [← e]
    exact q _ ex
/-- x not in t, t a tuple, both by data -/
theorem op_notInDT {X : Cx} (hu : X.A.units + 65 < cLine) : OpR X (compareOp .NotIn) (fun x y H Q => ∃ d ds, Dp X.K H x d ∧ Dp X.K H y (.tuple ds) ∧ SeqAt.shaped d = true ∧ SeqAt.shaped (.tuple ds) = true ∧ Q (.bl (!ds.any fun z => PyData.eqv z d)) H) := by
  intro pins s σ H x y v u Q I rx ry h
  obtain ⟨d, ds, hd, he, sd, se, q⟩ := h
  obtain ⟨as, r1⟩ := Dp.reads I d x v hd rx
  obtain ⟨bs, r2⟩ := Dp.reads I (.tuple ds) y u he ry
  exact SeqAt.notIn_tuple_reads r2 r1 (SeqAt.canLay_of_shaped se) (SeqAt.canLay_of_shaped sd) (room_in_shaped sd hu) ⟨.bl _, H, I, rfl, q⟩
end L2
namespace FR
open PySem PySem.Spec PyProof.Rows L2 LD RF PySem.Calls
/-- a Fraction beside a fraction -/
def DFrB (C : Addr) : EqvB := fun x y b H => ∃ (p r : PI), FR1 C H x p ∧ FV C H y r.1 r.2 ∧ b = decide (p = r)
theorem mon_frb (C : Addr) : MonB (DFrB C) := fun x y b H H' e ⟨p, r, ⟨q, e1, f⟩, fv, eb⟩ => ⟨p, r, ⟨q, e1, f.same e⟩, fv.same e, eb⟩
theorem dec_pair (p r : PI) : decide (p.1 = r.1 ∧ p.2 = r.2) = decide (p = r) := by
  by_cases h : p = r
  · rw [decide_eq_true h, decide_eq_true (by rw [h]; exact ⟨rfl, rfl⟩)]
  · rw [decide_eq_false h, decide_eq_false fun z => h (Prod.ext z.1 z.2)]
section
variable {X : Cx} {CX : CXT} {C f : Addr} {fd : FuncData} {E : XK}
theorem eqB_fr (D : Dun X.K C "__eq__" f) (F : FnOk X.prog X.w X.K X.mg X.base CX 3 f fd ["self", "other"] (FR.spEq X.K C)) (hb : Binds X.K fd ["self", "other"] []) (hx : Passes CX X E) (cl : PySem.W.notFirst X.K C (.type "int") = true) : EqB X 3 (DFrB C) := by
  intro A pins s σ H x y u v b sb I rx ry ⟨p, r, ⟨q, e1, f1⟩, fv, eb⟩
  subst e1
  cases rx
  obtain ⟨dx, f1⟩ := f1
  obtain ⟨od, J, _⟩ := ins_at I f1
  obtain ⟨m, hF⟩ := I.fr
  rcases fv with ⟨q2, e2, dy, f2⟩ | ⟨e2, e3⟩
  · subst e2
    cases ry
    by_cases hab : q = q2
    · subst hab
      rw [f1] at f2
      have e4 : p = r := by
        injection f2 with f3
        injection f3 with _ _ f4
        injection f4 with f5 f6
        injection f5 with _ f7
        injection f7 with f8
        injection f6 with f9 _
        injection f9 with _ f10
        injection f10 with f11
        exact Prod.ext f8 f11
      have e5 : b = true := by rw [eb, decide_eq_true e4]
      subst e5
      exact SeqAt.EqAt.same (A := A) (s := s) (.ref q) X.prog X.w X.xe _ ⟨rfl, H, I, Ext.rfl'⟩
    · refine GQ.eqBool_refG hab ?_
      obtain ⟨od2, J2, _⟩ := ins_at I f2
      refine PySem.W.cmp_K (op := .Eq) (tb := .ref C) sb.room.units0 hF I.ok.mod.kin J J2.type (by simp [PySem.W.notFirst]) D.at_ D.fn (wpAny_mono (run_sub (sp := FR.spEq X.K C) (vs := [.ref q, .ref q2]) (Q := fun v H' => v = .bl b ∧ Ext H H') sb F hb hx I (.cons (rRef q) (.cons (rRef q2) .nil)) ⟨q, .ref q2, p.1, p.2, b, rfl, ⟨dx, f1⟩, .inl ⟨q2, r.1, r.2, rfl, ⟨dy, f2⟩, by rw [eb]; exact (dec_pair p r).symm⟩, rfl, Ext.rfl'⟩) (fun w' s' z => ?_) fun _ _ e => e)
      obtain ⟨z, H', I', rz, ez, ex⟩ := z
      subst ez
      cases rz
      exact ⟨b, rfl, rfl, H', I', ex⟩
  · subst e2
    obtain ⟨t, rfl⟩ := (show ∃ t, v = Value.int r.1 t from ry)
    refine GQ.eqBool_refI ?_
    obtain ⟨P, Z, p', _⟩ := kit_of I (rInt r.1 t) (.base (.int r.1))
    refine PySem.W.cmp_K (op := .Eq) (tb := .type "int") sb.room.units0 hF I.ok.mod.kin J (Z.ty _ _ I.kIn p') cl D.at_ D.fn (wpAny_mono (run_sub (sp := FR.spEq X.K C) (vs := [.ref q, .int r.1]) (Q := fun v H' => v = .bl b ∧ Ext H H') sb F hb hx I (.cons (rRef q) (.cons (rInt r.1 t) .nil)) ⟨q, .int r.1, p.1, p.2, b, rfl, ⟨dx, f1⟩, .inr (.inl ⟨r.1, rfl, by
      rw [eb, ← dec_pair]
      have : (p.1 = r.1 ∧ p.2 = r.2) ↔ (p.2 = 1 ∧ p.1 = r.1) := by rw [e3]; exact ⟨fun z => ⟨z.2, z.1⟩, fun z => ⟨z.2, z.1⟩⟩
      simp only [this]⟩), rfl, Ext.rfl'⟩) (fun w' s' z => ?_) fun _ _ e => e)
    obtain ⟨z, H', I', rz, ez, ex⟩ := z
    subst ez
    cases rz
    exact ⟨b, rfl, rfl, H', I', ex⟩
end
end FR
set_option Elab.async false
set_option linter.all false
set_option maxRecDepth 100000
set_option maxHeartbeats 4000000
/-! is_fractions of any value; _is_told -/
namespace FR
open PySem PySem.Spec PyProof.Rows L2 LD RF
theorem odd_tup {K : PySem.W.Frag} {H : Hp} {v : V} {T : String} (o : Odd K H v T) (hT : T ≠ "tuple") : PySem.W.kitOne K (.type T) (.type "tuple") = some false := by
  cases o with
  | tup e => exact absurd rfl hT
  | _ => exact kit_ty (by decide +kernel)
theorem odd_str {K : PySem.W.Frag} {H : Hp} {v : V} {T : String} (o : Odd K H v T) (hT : T ≠ "str") : PySem.W.kitOne K (.type T) (.type "str") = some false := by
  cases o with
  | str e => exact absurd rfl hT
  | _ => exact kit_ty (by decide +kernel)
/-- no tuple -/
def NotTup (K : PySem.W.Frag) (C : Addr) (H : Hp) (v : V) : Prop := (∃ T, Odd K H v T ∧ T ≠ "tuple") ∨ (∃ q t b, v = .ref q ∧ FrAt C H q t b)
/-- a fraction is no tuple -/
structure NoT (K : PySem.W.Frag) (C : Addr) : Prop where
  ty : ∀ {H : Hp} {q : Addr} {t b : Int}, FrAt C H q t b → TyX K H (.ref q) (.ref C)
  tup : PySem.W.kitOne K (.ref C) (.type "tuple") = some false
theorem NotTup.ty {K : PySem.W.Frag} {C : Addr} {H : Hp} {v : V} (h : NotTup K C H v) (N : NoT K C) : ∃ t, TyX K H v t ∧ PySem.W.kitOne K t (.type "tuple") = some false := by
  rcases h with ⟨T, o, hT⟩ | ⟨q, t, b, rfl, f⟩
  · exact ⟨_, o.ty, odd_tup o hT⟩
  · exact ⟨_, N.ty f, N.tup⟩
/-- whether a value is a tuple of fractions -/
def NumsR (K : PySem.W.Frag) (C : Addr) (H : Hp) (v : V) (r : Bool) : Prop :=
  (NotTup K C H v ∧ r = false) ∨ (∃ (b : Addr) (ys : List V) (rs : List Bool), v = .ref b ∧ H b = some (.tup ys) ∧ ys.length ≤ 90 ∧ ys.length = rs.length ∧ (∀ (i : Nat) z, ys[i]? = some z → ∃ q, rs[i]? = some q ∧ IsFr K C H z q) ∧ r = rs.all id)
theorem odd_same {K : PySem.W.Frag} {H H' : Hp} {v : V} {T : String} (o : Odd K H v T) (s : Same H H') : Odd K H' v T := by
  cases o with
  | non => exact .non
  | bl b => exact .bl b
  | int i => exact .int i
  | str x => exact .str x
  | lst e => exact .lst (s _ _ e)
  | tup e => exact .tup (s _ _ e)
  | dK e => exact .dK (s _ _ e)
theorem NotTup.same {K : PySem.W.Frag} {C : Addr} {H H' : Hp} {v : V} (h : NotTup K C H v) (s : Same H H') : NotTup K C H' v := by
  rcases h with ⟨T, o, hT⟩ | ⟨q, t, b, e, f⟩
  · exact .inl ⟨T, odd_same o s, hT⟩
  · exact .inr ⟨q, t, b, e, f.same s⟩
theorem IsFr.same {K : PySem.W.Frag} {C : Addr} {H H' : Hp} {v : V} {r : Bool} (h : IsFr K C H v r) (s : Same H H') : IsFr K C H' v r := by
  rcases h with ⟨q, t, b, e, f, er⟩ | h | ⟨T, o, hT, er⟩
  · exact .inl ⟨q, t, b, e, f.same s, er⟩
  · exact .inr (.inl h)
  · exact .inr (.inr ⟨T, odd_same o s, hT, er⟩)
theorem NumsR.same {K : PySem.W.Frag} {C : Addr} {H H' : Hp} {v : V} {r : Bool} (h : NumsR K C H v r) (s : Same H H') : NumsR K C H' v r := by
  rcases h with ⟨nt, er⟩ | ⟨b, ys, rs, e, hb, l9, l, z, er⟩
  · exact .inl ⟨nt.same s, er⟩
  · exact .inr ⟨b, ys, rs, e, s _ _ hb, l9, l, fun i z' hz => (z i z' hz).imp fun q ⟨a, b⟩ => ⟨a, b.same s⟩, er⟩
section
variable {P : Program} {w : World} {K : PySem.W.Frag} {mg : Str → Option Value} {base : Heap} {C : Addr}
def spFsB (K : PySem.W.Frag) (C : Addr) : Sp := fun vs H Q _ => ∃ v r, vs = [v] ∧ NumsR K C H v r ∧ ∀ H', Same H H' → Q (.bl r) H'
theorem ok_fsB {f : Addr} {fd : FuncData} (F : Fun K "is_fractions" "is_fractions" sFs f fd) (gI : Glo P w K mg base "is_fraction" 2 ["value"] (spIsF K C)) (mI : mg "isinstance" = none) (mT : mg "tuple" = none) (mA : mg "all" = none) (N : NoT K C) : FnOk P w K mg base CX0 3 f fd ["value"] (spFsB K C) := by
  refine F.ok scFs (fun vs H Q E h => ?_) (fun cdv A outer s H vs Q E hr h => ?_)
  · obtain ⟨v, r, rfl, _⟩ := h
    rfl
  · obtain ⟨v, r, rfl, hn, q⟩ := h
    refine ⟨_, (pss_one (ps_ret (pe_and (pe_callB call_isi (by rfl) mI PyProof.Rows.boot_isinstance (pa_cons (pv 0) (pa_cons (pe_bltn (v := .ty "tuple") (by rfl) mT (by decide +kernel) rfl) pa_nil))) (pe_one (pe_callB (cr_all rfl) (by rfl) mA (by decide +kernel) (pa_cons (pe_lc (own := [("one", 1)]) (g := gName 1) (tt := tYes) rfl scFs.nd (pi_tup (pv 0)) (blkOk_by (N := NFs) (sc := defScope sFs) (by decide +kernel)) (fun _ _ _ _ _ => pg_name (i := 1) scFs.nd rfl (.inl rfl)) (fun _ _ _ _ _ => pts_nil) (fun _ _ _ _ _ => pe_call gI.G hr (by rfl) gI.m gI.k gI.b .nil pass0 (pa_cons (pv 1) pa_nil))) pa_nil)))))), ?_⟩
    rcases hn with ⟨nt, er⟩ | ⟨b, ys, rs, e, hb, l9, l, z, er⟩
    · subst er
      obtain ⟨t, ty, kt⟩ := nt.ty N
      exact ⟨_, rfl, _, _, _, _, false, rfl, .ty _, ty, kt, _, rfl, q H (Same.refl H)⟩
    · subst e
      refine ⟨_, rfl, _, _, _, _, true, rfl, .ty _, .base (.tup hb), kit_ty (by decide +kernel), _, rfl, ?_⟩
      refine ⟨_, rfl, b, rfl, ⟨_, SqT.of hb⟩, fun D hD => ?_⟩
      refine lc_tup (xs := ys) (fun i Hc => Same H Hc ∧ Hc D = some (.lst ((rs.take i).map V.bl))) ⟨same_new hD, upd_same⟩ (fun i Hc _ p => SqT.of (p.1 _ _ hb)) ?_ ?_
      · rintro i x Hc hi ⟨sm, hDc⟩
        obtain ⟨q1, hq1, isf⟩ := z i x hi
        have il := (List.getElem?_eq_some_iff.mp hi).1
        refine ⟨rfl, _, rfl, x, q1, rfl, isf.same sm, _, hDc, small1000 (by rw [List.length_map, List.length_take]; omega), same_upd hD sm, ?_⟩
        rw [take_snoc hq1, List.map_append]
        exact upd_same
      · rintro Hc ⟨sm, hDc⟩
        rw [List.take_of_length_le (by omega)] at hDc
        refine ⟨D, _, rfl, SqL.of hDc, ?_⟩
        subst er
        exact q _ sm
/-! ### _is_told -/
abbrev sTd : Stmt := top 43
theorem scTd : FnScope ["value", "word", "many"] ["value", "word", "many"] (defScope sTd) := ⟨rfl, rfl, rfl, by decide +kernel, rfl, by decide +kernel, by decide +kernel⟩
/-- whether a value is a pair of this word and so many fractions -/
def ToldR (K : PySem.W.Frag) (C : Addr) (H : Hp) (v : V) (z : Str) (m : Nat) (r : Bool) : Prop :=
  (NotTup K C H v ∧ r = false) ∨ (∃ (a : Addr) (xs : List V), v = .ref a ∧ H a = some (.tup xs) ∧ xs.length ≠ 2 ∧ r = false) ∨
  (∃ a x y T, v = .ref a ∧ H a = some (.tup [x, y]) ∧ Odd K H x T ∧ T ≠ "str" ∧ r = false) ∨ (∃ a z' y, v = .ref a ∧ H a = some (.tup [.str z', y]) ∧ z' ≠ z ∧ r = false) ∨
  (∃ a y, v = .ref a ∧ H a = some (.tup [.str z, y]) ∧ NumsR K C H y false ∧ r = false) ∨ (∃ (a b : Addr) (ys : List V), v = .ref a ∧ H a = some (.tup [.str z, .ref b]) ∧ H b = some (.tup ys) ∧ NumsR K C H (.ref b) true ∧ r = decide (ys.length = m))
def spTd (K : PySem.W.Frag) (C : Addr) : Sp := fun vs H Q _ => ∃ v z m r, vs = [v, .str z, .int (m : Nat)] ∧ ToldR K C H v z m r ∧ ∀ H', Same H H' → Q (.bl r) H'
theorem str_dec (x y : Str) : decide (V.str x = V.str y) = decide (x = y) := by
  by_cases h : x = y
  · rw [h, decide_eq_true rfl, decide_eq_true rfl]
  · rw [decide_eq_false h, decide_eq_false fun z => h (V.str.inj z)]
theorem int_dec (x y : Nat) : decide (V.int (x : Nat) = V.int (y : Nat)) = decide (x = y) := by
  by_cases h : x = y
  · rw [h, decide_eq_true rfl, decide_eq_true rfl]
  · rw [decide_eq_false h, decide_eq_false fun z => h (by have := V.int.inj z; omega)]
theorem ok_td {f : Addr} {fd : FuncData} (F : Fun K "_is_told" "_is_told" sTd f fd) (gF : Glo P w K mg base "is_fractions" 3 ["value"] (spFsB K C)) (mI : mg "isinstance" = none) (mT : mg "tuple" = none) (mS : mg "str" = none) (mL : mg "len" = none) (N : NoT K C) : FnOk P w K mg base CX0 4 f fd ["value", "word", "many"] (spTd K C) := by
  refine F.ok scTd (fun vs H Q E h => ?_) (fun cdv A outer s H vs Q E hr h => ?_)
  · obtain ⟨v, z, m, r, rfl, _⟩ := h
    rfl
  · obtain ⟨v, z, m, r, rfl, hn, q⟩ := h
    refine ⟨_, (pss_cons (ps_if (PW.pt (pw_or (pt_not (pt_val (pe_callB call_isi (by rfl) mI PyProof.Rows.boot_isinstance (pa_cons (pv 0) (pa_cons (pe_bltn (v := .ty "tuple") (by rfl) mT (by decide +kernel) rfl) pa_nil))))) (pw_or1 (pt_cmpR op_ne (pe_callB call_len_seq (by rfl) mL PySem.boot_len (pa_cons (pv 0) pa_nil)) pe_int (nomark _))))) (pss_one (ps_ret pe_bl)) pss_nil)
      (pss_one (ps_ret (pe_and (pe_callB call_isi (by rfl) mI PyProof.Rows.boot_isinstance (pa_cons (pe_ix ix_tup (pv 0) pe_int (fun _ _ => rfl)) (pa_cons (pe_bltn (v := .ty "str") (by rfl) mS (by decide +kernel) rfl) pa_nil))) (pe_and (pe_cmpR op_eq (pe_ix ix_tup (pv 0) pe_int (fun _ _ => rfl)) (pv 1) (nomark _)) (pe_and (pe_call gF.G hr (by rfl) gF.m gF.k gF.b .nil pass0 (pa_cons (pe_ix ix_tup (pv 0) pe_int (fun _ _ => rfl)) pa_nil)) (pe_one (pe_cmpR op_eq (pe_callB call_len_seq (by rfl) mL PySem.boot_len (pa_cons (pe_ix ix_tup (pv 0) pe_int (fun _ _ => rfl)) pa_nil)) (pv 2) (nomark _))))))))), ?_⟩
    rcases hn with ⟨nt, er⟩ | ⟨a, xs, e, ha, l2, er⟩ | ⟨a, x, y, T, e, ha, o, hT, er⟩ | ⟨a, z', y, e, ha, nz, er⟩ | ⟨a, y, e, ha, ny, er⟩ | ⟨a, b, ys, e, ha, hb, ny, er⟩
    · subst er
      obtain ⟨t, ty, kt⟩ := nt.ty N
      exact ⟨_, rfl, _, _, _, _, false, rfl, .ty _, ty, kt, _, rfl, iteT (q H (Same.refl H))⟩
    · subst e er
      refine ⟨_, rfl, _, _, _, _, true, rfl, .ty _, .base (.tup ha), kit_ty (by decide +kernel), _, rfl, iteF ?_⟩
      refine ⟨_, rfl, a, _, rfl, .inr (SqT.of ha), rfl, _, rfl, ?_⟩
      have e2 : (!decide (V.int (xs.length : Nat) = V.int (2 : Nat))) = true := by rw [int_dec, decide_eq_false l2]; rfl
      have e3 : (!decide (V.int (xs.length : Nat) = V.int 2)) = true := e2
      rw [e3]
      exact iteT (q H (Same.refl H))
    · subst e er
      refine ⟨_, rfl, _, _, _, _, true, rfl, .ty _, .base (.tup ha), kit_ty (by decide +kernel), _, rfl, iteF ?_⟩
      refine ⟨_, rfl, a, _, rfl, .inr (SqT.of ha), rfl, _, rfl, iteF ?_⟩
      refine ⟨_, rfl, a, _, 0, _, rfl, rfl, SqT.of ha, atI_nat (j := 0) rfl, _, _, _, _, false, rfl, .ty _, o.ty, odd_str o hT, _, rfl, q H (Same.refl H)⟩
    · subst e er
      refine ⟨_, rfl, _, _, _, _, true, rfl, .ty _, .base (.tup ha), kit_ty (by decide +kernel), _, rfl, iteF ?_⟩
      refine ⟨_, rfl, a, _, rfl, .inr (SqT.of ha), rfl, _, rfl, iteF ?_⟩
      refine ⟨_, rfl, a, _, 0, _, rfl, rfl, SqT.of ha, atI_nat (j := 0) rfl, _, _, _, _, true, rfl, .ty _, .base (.str z'), kit_ty (by decide +kernel), _, rfl, ?_⟩
      refine ⟨_, rfl, a, _, 0, _, rfl, rfl, SqT.of ha, atI_nat (j := 0) rfl, _, rfl, rfl, _, rfl, ?_⟩
      rw [str_dec, decide_eq_false nz]
      exact q H (Same.refl H)
    · subst e er
      refine ⟨_, rfl, _, _, _, _, true, rfl, .ty _, .base (.tup ha), kit_ty (by decide +kernel), _, rfl, iteF ?_⟩
      refine ⟨_, rfl, a, _, rfl, .inr (SqT.of ha), rfl, _, rfl, iteF ?_⟩
      refine ⟨_, rfl, a, _, 0, _, rfl, rfl, SqT.of ha, atI_nat (j := 0) rfl, _, _, _, _, true, rfl, .ty _, .base (.str z), kit_ty (by decide +kernel), _, rfl, ?_⟩
      refine ⟨_, rfl, a, _, 0, _, rfl, rfl, SqT.of ha, atI_nat (j := 0) rfl, _, rfl, rfl, _, rfl, ?_⟩
      rw [str_dec, decide_eq_true rfl]
      refine ⟨_, rfl, a, _, 1, _, rfl, rfl, SqT.of ha, atI_nat (j := 1) rfl, y, false, rfl, ny, fun H' s' => ⟨_, rfl, q H' s'⟩⟩
    · subst e er
      refine ⟨_, rfl, _, _, _, _, true, rfl, .ty _, .base (.tup ha), kit_ty (by decide +kernel), _, rfl, iteF ?_⟩
      refine ⟨_, rfl, a, _, rfl, .inr (SqT.of ha), rfl, _, rfl, iteF ?_⟩
      refine ⟨_, rfl, a, _, 0, _, rfl, rfl, SqT.of ha, atI_nat (j := 0) rfl, _, _, _, _, true, rfl, .ty _, .base (.str z), kit_ty (by decide +kernel), _, rfl, ?_⟩
      refine ⟨_, rfl, a, _, 0, _, rfl, rfl, SqT.of ha, atI_nat (j := 0) rfl, _, rfl, rfl, _, rfl, ?_⟩
      rw [str_dec, decide_eq_true rfl]
      refine ⟨_, rfl, a, _, 1, _, rfl, rfl, SqT.of ha, atI_nat (j := 1) rfl, .ref b, true, rfl, ny, fun H' s' => ⟨_, rfl, ?_⟩⟩
      refine ⟨_, rfl, a, _, 1, _, rfl, rfl, SqT.of (s' _ _ ha), atI_nat (j := 1) rfl, b, ys, rfl, .inr (SqT.of (s' _ _ hb)), _, rfl, rfl, ?_⟩
      rw [int_dec]
      exact q H' s'
end
end FR
set_option Elab.async false
set_option linter.all false
set_option maxRecDepth 100000
set_option maxHeartbeats 4000000
/-! a, *b = a list -/
namespace SU
open PySem PySem.Spec PyProof.Rows
theorem tail {prog : Program} {w : World} {A : Around} (hh : A.handled = none) (I ax : Addr) (hne : ax ≠ I) (items : Array Value) :
    Walks prog w A I [I, ax] [I] (items.size - 1) (fun i v => items[i + 1]? = some v) (fun i h => h.IsListIter I ax (i + 1) ∧ h.IsList ax items) where
  sub := fun b hb => by simp at hb; simp [hb]
  frame := fun _ _ _ st hk => ⟨st.1.at fun o e => hk I (by simp) o e, st.2.at fun o e => hk ax (by simp) o e⟩
  item := fun i s Q E hi st hQ => by
    have lt : i + 1 < items.size := by omega
    refine wpAny_pyNext_list_item st.1 st.2 (x := items[i + 1]) (by simp [lt]) fun h' hit' hs' => ?_
    exact hQ _ h' s.toks (by simp [lt]) ⟨hit', st.2.extBut hs'.extBut hne⟩ fun b o hb e => hs'.extBut b o (fun h => hb (by simp [h])) e
  done := fun s Q E st hQ => wpAny_pyNext_list_end hh st.1 st.2 (by simp; omega) fun h' he' => hQ h' s.toks fun b o hb e => he' b o (fun h => hb (by simp [h])) e
  self := fun _ _ _ _ st hQ => wpAny_pyIter_listiter st.1 hQ
section
variable {prog : Program} {w : World} {A : Around} {E : Value → Shared → Prop} {s : Shared}
theorem unpackItems_star {l : Addr} {items : Array Value} {Q : List Value → Shared → Prop} (hh : A.handled = none) (hl : s.heap.IsList l items) (h0 : 0 < items.size) (hz : items.size ≤ sizeLine)
    (hQ : ∀ (h' : Heap) (tk : Nat), (∀ b o, s.heap.get? b = some o → h'.get? b = some o) → s.toks ≤ tk → Q [items[0], .ref h'.objs.size] { s with heap := h'.push { cls := .type "list", data := .seq (items.toList.drop 1).toArray }, toks := tk }) :
    wpAny (model prog w) A (unpackItems (.ref l) 2 (some 1)) Q E s := by
  have hlt : l ≠ s.heap.objs.size := by obtain ⟨o, ho, _⟩ := hl; exact Nat.ne_of_lt (Heap.lt_size ho)
  unfold unpackItems
  refine wpAny_bind ?_
  unfold notIterableAtAll
  refine wpAny_bind (wpAny_specialOf hl.typeIs slot_list_iter.lookup ?_)
  refine wpAny_pure ?_
  simp only [Bool.false_eq_true, if_false]
  refine wpAny_bind (wpAny_holding (wpAny_pyIter_list hl ?_))
  have hl1 : (s.heap.push { cls := .type "list_iterator", data := .fields #[.ref l, .int 0 0] }).IsList l items := hl.push _
  have hit0 : (s.heap.push { cls := .type "list_iterator", data := .fields #[.ref l, .int 0 0] }).IsListIter s.heap.objs.size l 0 := ⟨_, Heap.get?_push_size _ rfl, rfl, rfl⟩
  refine wpAny_bind (wpAny_holding ?_)
  show wpAny _ _ (pyNext (.ref s.heap.objs.size) >>= _) _ _ _
  refine wpAny_bind (wpAny_pyNext_list_item hit0 hl1 (x := items[0]) (by simp [h0]) fun h1 hit1 hs1 => ?_)
  refine wpAny_bind (wpAny_holding (wpAny_pure (wpAny_pure ?_)))
  show wpAny _ _ (if ([items[0]] : List Value).length < 1 then _ else _) _ _ _
  rw [if_neg (by simp)]
  have hl2 : h1.IsList l items := hl1.extBut hs1.extBut hlt
  have isz : s.heap.objs.size < h1.objs.size := by obtain ⟨o, ho, _⟩ := hit1; exact Heap.lt_size ho
  have lsz : l < h1.objs.size := by obtain ⟨o, ho, _⟩ := hl2; exact Heap.lt_size ho
  refine wpAny_bind (wpAny_holding (wpAny_collect_iter (T := "list_iterator") (.inr (.inr (.inl rfl))) (tail (A := A.in1) hh s.heap.objs.size l hlt items).toS (fun i s' st => st.1.typeIs) ⟨hit1, hl2⟩ (fun b hb => ?_) (by simp) (fun s' acc hm hacc => ?_) (by omega)))
  · simp only [List.mem_cons, List.mem_nil_iff, or_false] at hb
    rcases hb with e | e
    · rw [e]; exact isz
    · rw [e]; exact lsz
  have ea : acc.toList = items.toList.drop 1 := by
    refine List.ext_getElem? fun j => ?_
    rw [List.getElem?_drop]
    by_cases hj : j < acc.size
    · have h2 := hacc.2 j acc[j] (by simp [hj])
      have e1 : acc.toList[j]? = some acc[j] := by simp [hj]
      rw [e1]
      have : items.toList[1 + j]? = items[j + 1]? := by rw [Nat.add_comm 1 j]; simp
      rw [this, h2]
    · have hs := hacc.1
      rw [List.getElem?_eq_none (by simpa using hj), List.getElem?_eq_none (by simp; omega)]
  rw [ea]
  show wpAny _ _ (if (items.toList.drop 1).length < 0 then _ else _) _ _ _
  rw [if_neg (by omega)]
  have tk : (items.toList.drop 1).take (items.toList.drop 1).length = items.toList.drop 1 := List.take_length
  have dr : (items.toList.drop 1).drop (items.toList.drop 1).length = [] := List.drop_length
  show wpAny _ _ (newList ((items.toList.drop 1).take (items.toList.drop 1).length) >>= fun a => pure ([items[0]] ++ [a] ++ (items.toList.drop 1).drop (items.toList.drop 1).length)) _ _ _
  rw [tk, dr]
  refine wpAny_bind (wpAny_newObj_type (wpAny_pure ?_) (by show (List.drop 1 items.toList).toArray.size ≤ sizeLine; rw [List.size_toArray, List.length_drop]; have : items.toList.length = items.size := by simp
                                                           omega))
  obtain ⟨hp, g, d, tks, os⟩ := s'
  have e1 : g = _ := hm.gens
  have e2 : d = _ := hm.drawn
  have e3 : os = _ := hm.os
  subst e1 e2 e3
  refine hQ hp tks (fun b o e => ?_) hm.toks
  have nb : b ≠ s.heap.objs.size := Nat.ne_of_lt (Heap.lt_size e)
  exact hm.heap b o (by simp [nb]) (hs1.extBut b o nb (Heap.get?_push_of_some _ e))
theorem assign_star {l : Addr} {items : Array Value} {env : Env} {t1 t2 : Expr} {p2 pos : Pos} {k} {Q : Unit → Shared → Prop} (hh : A.handled = none) (hl : s.heap.IsList l items) (h0 : 0 < items.size) (hz : items.size ≤ sizeLine)
    (hs : assignEach [t1, .Starred t2 p2] env = [(false, assign t1 env), (true, assign t2 env)])
    (hQ : ∀ (h' : Heap) (tk : Nat), (∀ b o, s.heap.get? b = some o → h'.get? b = some o) → s.toks ≤ tk → wpAny (model prog w) A (assignInOrder [assign t1 env, assign t2 env] [items[0], .ref h'.objs.size]) Q E { s with heap := h'.push { cls := .type "list", data := .seq (items.toList.drop 1).toArray }, toks := tk }) :
    wpAny (model prog w) A (assign (.Tuple [t1, .Starred t2 p2] k pos) env (.ref l)) Q E s := by
  rw [assign_Tuple, hs]
  refine wpAny_bind (wpAny_standAt ?_)
  unfold unpack
  exact wpAny_bind (wpAny_holding (unpackItems_star hh hl h0 hz hQ))
end
end SU
namespace L2
open PySem PySem.Spec PyProof.Rows
/-- a, *b = a list that isn't empty -/
def gStar (K : PySem.W.Frag) (g1 g2 : TG) : TG := fun v σ H Q => ∃ a y ys, v = .ref a ∧ SqL K H a (y :: ys) ∧ ys.length ≤ 1000 ∧ ∀ l, H l = none → g1 y σ (upd H l (.lst ys)) fun σ1 H1 => g2 (.ref l) σ1 H1 Q
theorem pg_star {X : Cx} {t1 t2 : Expr} {p2 pos : Pos} {k : Nat} {g1 g2 : TG} (hc : X.calm = true) (h1 : PG X t1 g1) (h2 : PG X t2 g2) (hs : assignEach [t1, .Starred t2 p2] X.env = [(false, assign t1 X.env), (true, assign t2 X.env)] := by rfl) : PG X (.Tuple [t1, .Starred t2 p2] k pos) (gStar X.K g1 g2) := by
  refine ⟨fun pins s σ H v u Q I r hw => ?_⟩
  obtain ⟨a, y, ys, e1, hq, hl, hw⟩ := hw
  subst e1
  cases r
  obtain ⟨its, rv, pl, hz⟩ := I.list hq
  cases rv with
  | cons ry rys =>
    rename_i uy uys
    refine SU.assign_star (I.ok.hd hc) pl.isList (by simp) (by have e := rys.length; simp only [List.size_toArray, List.length_cons]; have hz : (y :: ys).length ≤ sizeLine := hz; rw [List.length_cons, e] at hz; exact hz) hs fun h' tk kk _ => ?_
    have I1 : Inv X pins σ H { s with heap := h', toks := tk } := I.kept kk
    have hf : H h'.objs.size = none := I1.hok.fresh (Nat.le_refl _)
    have I2 : Inv X pins σ (upd H h'.objs.size (.lst ys)) { s with heap := h'.push { cls := .type "list", data := .seq ((uy :: uys).toArray.toList.drop 1).toArray }, toks := tk } := I1.laid (t' := tk) (fun b u e => Heap.get?_push_of_some _ e) (Nat.le_refl _) (by
      refine ⟨?_, uys, 0, rys, Heap.get?_push_size _ rfl⟩
      exact Nat.le_of_lt (small1000 hl))
    have run := hw h'.objs.size hf
    refine assignInOrder_cons (thn (h1.run pins _ σ _ y _ _ I2 ry run) fun _ s1 ⟨σ1, H1, I3, q1⟩ => ?_)
    refine assignInOrder_cons (thn (h2.run pins s1 σ1 H1 (.ref h'.objs.size) _ _ I3 rfl q1) fun _ s2 ⟨σ2, H2, I4, q2⟩ => ?_)
    exact assignInOrder_nil ⟨σ2, H2, I4, q2⟩
end L2
set_option Elab.async false
set_option linter.all false
set_option maxRecDepth 100000
set_option maxHeartbeats 4000000
/-! the class Corner -/
namespace FR
open PySem PySem.Spec PyProof.Rows L2 RF CN
abbrev sCor : Stmt := top 11
abbrev sCi : Stmt := inClass sCor 0
abbrev NCi : List Str := ["self", "lines", "width", "place", "at"]
theorem scCi : FnScope NCi ["self", "lines", "width"] (defScope sCi) := ⟨rfl, rfl, rfl, by decide +kernel, rfl, by decide +kernel, by decide +kernel⟩

structure TxtC6 (K : PySem.W.Frag) (mg : Str → Option Value) (D : Addr) : Prop where
  cl : Cls K D
  nL : NoAttr K D "lines"
  nW : NoAttr K D "width"
  nG : NoAttr K D "gaps"
  nR : NoAttr K D "rows"
  nD : NoAttr K D "divisor"
  zip : mg "zip" = none
  range : mg "range" = none
  list : mg "list" = none
  len : mg "len" = none
  sum : mg "sum" = none
  min : mg "min" = none
/-- what a Corner holds -/
structure CoF (fs : List (Str × V)) (w : Nat) (la ga ra : Addr) (d : Int) : Prop where
  l : fs.lookup ("lines" : Str) = some (.ref la)
  w : fs.lookup ("width" : Str) = some (.int (w : Nat))
  g : fs.lookup ("gaps" : Str) = some (.ref ga)
  r : fs.lookup ("rows" : Str) = some (.ref ra)
  d : fs.lookup ("divisor" : Str) = some (.int d)
  few : fs.length ≤ 900
  no : ∀ m : Str, ¬ m = "lines" → ¬ m = "width" → ¬ m = "gaps" → ¬ m = "rows" → ¬ m = "divisor" → fs.lookup m = none
def LMx (g : Addr) (H : Hp) (a : Addr) (rows : List (List Int)) : Prop := a ≠ g ∧ ∃ vs, H a = some (.lst vs) ∧ AG (ILx g H) vs rows
theorem LMx.same {g : Addr} {H H' : Hp} {a : Addr} {rows : List (List Int)} (h : LMx g H a rows) (s : Same H H') : LMx g H' a rows := by
  obtain ⟨n, vs, e, z⟩ := h
  exact ⟨n, vs, s _ _ e, z.imp fun _ _ x => x.same s⟩
theorem LMx.lm {g : Addr} {H : Hp} {a : Addr} {rows : List (List Int)} (h : LMx g H a rows) : LM H a rows := by
  obtain ⟨n, vs, e, z⟩ := h
  exact ⟨vs, e, z.imp fun _ _ x => x.il⟩
abbrev gV (gs : List Nat) : List V := gs.map fun g => V.int (g : Nat)
def CoH (D g : Addr) (H : Hp) (x : Addr) (lines : List (List Int)) (w : Nat) (st : Co) : Prop :=
  ∃ dx fs la ra, H x = some (.ins D dx fs) ∧ CoF fs w la g ra st.d ∧ LMx g H la lines ∧ H g = some (.lst (gV st.gaps)) ∧ LMx g H ra st.rows
theorem CoH.same {D g : Addr} {H H' : Hp} {x : Addr} {lines : List (List Int)} {w : Nat} {st : Co} (h : CoH D g H x lines w st) (s : Same H H') : CoH D g H' x lines w st := by
  obtain ⟨dx, fs, la, ra, h1, h2, h3, h4, h5⟩ := h
  exact ⟨dx, fs, la, ra, s _ _ h1, h2, h3.same s, s _ _ h4, h5.same s⟩
abbrev lcInit0 : Scope := lcSc (fldE ((defBody sCi).getD 3 (.Pass ⟨0, 0, 0, 0⟩)))
section
variable {P : Program} {w : World} {K : PySem.W.Frag} {mg : Str → Option Value} {base : Heap} {D : Addr}
def spCi (D : Addr) : Sp := fun vs H Q _ => ∃ (x dx la : Addr) (n : Nat) (lines : List (List Int)), vs = [.ref x, .ref la, .int (n : Nat)] ∧ H x = some (.ins D dx []) ∧ LM H la lines ∧ n ≤ 90 ∧ ∀ g H', CoH D g H' x lines n (startC n) → H g = none → (∀ q o, q ≠ x → H q = some o → H' q = some o) → Q .non H'
theorem ok_ci {f : Addr} {fd : FuncData} (F : Fun K "__init__" "Corner.__init__" sCi f fd) (T : TxtC6 K mg D) : FnOk P w K mg base CX0 1 f fd ["self", "lines", "width"] (spCi D) := by
  refine F.ok scCi (fun vs H Q E h => ?_) (fun cdv A outer s H vs Q E hr h => ?_)
  · obtain ⟨x, dx, la, n, lines, rfl, _⟩ := h
    rfl
  · obtain ⟨x, dx, la, n, lines, rfl, hx, hl, n90, q⟩ := h
    refine ⟨_, (pss_cons (ps_fld (pv 0) (pv 1) rfl)
      (pss_cons (ps_fld (pv 0) (pv 2) rfl)
      (pss_cons (ps_fld (pv 0) (pe_listRg rfl (by rfl) T.list (prg_1 (by rfl) T.range (pv 2))) rfl)
      (pss_cons (ps_fld (pv 0) (pe_lc (X := (cxOf CX0 P w K mg base NCi "Corner.__init__" (defScope sCi) f cdv A outer s H E).nox) (own := [("place", 3)]) (g := (gName 3)) (tt := tYes) rfl scCi.nd (pi_range1 (by rfl) T.range (pa_cons (pv 2) pa_nil)) (blkOk_by (N := NCi) (sc := (defScope sCi)) (by decide +kernel)) (fun _ _ _ _ _ => (pg_name (i := 3) scCi.nd rfl (.inr rfl))) (fun _ _ _ _ _ => pts_nil) (fun s0 H0 C0 cl0 fp0 => (pe_op op_cat (pe_lst (pa_cons pe_int pa_nil)) (pe_lc (X := (((cxOf CX0 P w K mg base NCi "Corner.__init__" (defScope sCi) f cdv A outer s H E).nox).blk s0 H0 lcInit0 (compEnvC lcInit0 cl0 C0 ((cxOf CX0 P w K mg base NCi "Corner.__init__" (defScope sCi) f cdv A outer s H E).nox).env) fp0)) (own := [("at", 4)]) (g := (gName 4)) (tt := tYes) rfl scCi.nd (pi_range1 (by rfl) T.range (pa_cons (pv 2) pa_nil)) (blkOk_by (N := NCi) (sc := (relS lcInit0 (defScope sCi))) (by decide +kernel)) (fun _ _ _ _ _ => (pg_name (i := 4) scCi.nd rfl (.inl rfl))) (fun _ _ _ _ _ => pts_nil) (fun _ _ _ _ _ => (pe_ifExp (pt_cmpR op_eq (pv 4) (pv 3) (nomark _)) pe_int pe_int)))))) rfl)
      (pss_one (ps_fld (pv 0) pe_int rfl)))))), ?_⟩
    obtain ⟨us, hla, hu⟩ := id hl
    refine ⟨_, rfl, _, rfl, x, D, dx, _, rfl, hx, T.cl, T.nL, (by show 0 < 1000; decide), ?_⟩
    refine ⟨_, rfl, _, rfl, x, D, dx, _, rfl, upd_same, T.cl, T.nW, (by show 1 < 1000; decide), ?_⟩
    have g2 : ∀ q o, q ≠ x → H q = some o → upd (upd H x (.ins D dx (putF "lines" (.ref la) []))) x (.ins D dx (putF "width" (.int (n : Nat)) (putF "lines" (.ref la) []))) q = some o := fun q o ne e => by rw [upd_ne ne, upd_ne ne]; exact e
    have hx2 : upd (upd H x (.ins D dx (putF "lines" (.ref la) []))) x (.ins D dx (putF "width" (.int (n : Nat)) (putF "lines" (.ref la) []))) x = some (.ins D dx (putF "width" (.int (n : Nat)) (putF "lines" (.ref la) []))) := upd_same
    have n2 : ∀ q, q ≠ x → upd (upd H x (.ins D dx (putF "lines" (.ref la) []))) x (.ins D dx (putF "width" (.int (n : Nat)) (putF "lines" (.ref la) []))) q = none → H q = none := fun q ne e => by rw [upd_ne ne, upd_ne ne] at e; exact e
    generalize upd (upd H x _) x _ = H2 at g2 hx2 n2 ⊢
    refine ⟨_, rfl, (n : Int), rfl, RgOk.of_le (by decide) (by omega) (by decide) (by omega), fun g hg => ?_⟩
    have xg : x ≠ g := fun z => by rw [← z, hx2] at hg; cases hg
    have hg0 : H g = none := n2 g (Ne.symm xg) hg
    have rg : rgV 0 (n : Int) = gV (List.range n) := by
      unfold rgV gV
      refine List.ext_getElem? fun i => ?_
      rw [List.getElem?_map, List.getElem?_map]
      have e1 : ((n : Int) - 0).toNat = n := by omega
      rw [e1]
      cases (List.range n)[i]? with
      | none => rfl
      | some j => show some (V.int (0 + (j : Nat))) = some (V.int (j : Nat)); rw [Int.zero_add]
    rw [rg]
    have s3 : Same H2 (upd H2 g (.lst (gV (List.range n)))) := same_new hg
    have hg3 : upd H2 g (.lst (gV (List.range n))) g = some (.lst (gV (List.range n))) := upd_same
    generalize upd H2 g _ = H3 at s3 hg3 ⊢
    have hx3 := s3 _ _ hx2
    refine ⟨_, rfl, x, D, dx, _, rfl, hx3, T.cl, T.nG, (by show 2 < 1000; decide), ?_⟩
    have g3 : ∀ q o, q ≠ x → H q = some o → H3 q = some o := fun q o ne e => s3 _ _ (g2 q o ne e)
    have g4 : ∀ q o, q ≠ x → H3 q = some o → upd H3 x (.ins D dx (putF "gaps" (.ref g) (putF "width" (.int (n : Nat)) (putF "lines" (.ref la) [])))) q = some o := fun q o ne e => by rw [upd_ne ne]; exact e
    have hx4 : upd H3 x (.ins D dx (putF "gaps" (.ref g) (putF "width" (.int (n : Nat)) (putF "lines" (.ref la) [])))) x = some (.ins D dx (putF "gaps" (.ref g) (putF "width" (.int (n : Nat)) (putF "lines" (.ref la) [])))) := upd_same
    generalize upd H3 x _ = H4 at g4 hx4 ⊢
    have hg4 := g4 _ _ (Ne.symm xg) hg3
    refine ⟨_, rfl, (n : Int), rfl, by omega, by omega, fun R hR => ?_⟩
    refine lc_range (lo := 0) (n := n) (fun i Hc => Same H4 Hc ∧ ∃ us, Hc R = some (.lst us) ∧ AG (fun v r => ∃ q, v = .ref q ∧ q ≠ g ∧ q ≠ R ∧ Hc q = some (.lst (r.map V.int))) us (((List.range n).map (unitI n)).take i)) ⟨same_new hR, [], upd_same, AG.nil⟩ ?_ ?_
    · rintro i Hc hi ⟨sm, us, hRc, hu⟩
      have e0 : (0 : Int) + (i : Nat) = (i : Nat) := by omega
      rw [e0]
      refine ⟨rfl, small1000 (by show 0 ≤ 1000; decide), fun l1 hl1 => ?_⟩
      have sa : Same Hc (upd Hc l1 (.lst [.int 0])) := same_new hl1
      have ha1 : upd Hc l1 (.lst [.int 0]) l1 = some (.lst [.int 0]) := upd_same
      generalize upd Hc l1 _ = Ha at sa ha1 ⊢
      refine ⟨_, rfl, (n : Int), rfl, by omega, by omega, fun R2 hR2 => ?_⟩
      refine lc_range (lo := 0) (n := n) (fun j Hd => Same Ha Hd ∧ Hd R2 = some (.lst (((List.range n).take j).map fun a => V.int (if a = i then 1 else 0)))) ⟨same_new hR2, upd_same⟩ ?_ ?_
      · rintro j Hd hj ⟨sm2, hRd⟩
        have e1 : (0 : Int) + (j : Nat) = (j : Nat) := by omega
        rw [e1]
        have fin : ∀ v : Int, v = (if j = i then 1 else 0) → ∃ got, Hd R2 = some (.lst got) ∧ got.length < sizeLine ∧ (Same Ha (upd Hd R2 (.lst (got ++ [.int v]))) ∧ upd Hd R2 (.lst (got ++ [.int v])) R2 = some (.lst (((List.range n).take (j + 1)).map fun a => V.int (if a = i then 1 else 0)))) := fun v ev => by
          refine ⟨_, hRd, small1000 (by rw [List.length_map, List.length_take, List.length_range]; omega), same_upd hR2 sm2, ?_⟩
          rw [upd_same, take_snoc (x := j) (by rw [List.getElem?_range hj]), List.map_append, ev]
          rfl
        refine ⟨rfl, ?_⟩
        refine ⟨_, rfl, _, rfl, rfl, _, rfl, ite2 (fun z => ?_) (fun z => ?_)⟩
        · have z : j = i := by
            have := of_decide_eq_true z
            injection this with this
            omega
          exact fin 1 (by rw [if_pos z])
        · have z : ¬ j = i := fun y => z (by rw [y]; exact decide_eq_true rfl)
          exact fin 0 (by rw [if_neg z])
      · rintro Hd ⟨sm2, hRd⟩
        rw [List.take_of_length_le (by rw [List.length_range]; exact Nat.le_refl _)] at hRd
        refine ⟨l1, R2, _, _, rfl, rfl, sm2 _ _ ha1, hRd, Nat.le_of_lt (small1000 (by rw [List.length_map, List.length_range]; show 1 + n ≤ 1000; omega)), fun p hp => ?_⟩
        have s12 := (sa.trans sm2).trans (same_new (o := .lst ([V.int 0] ++ (List.range n).map fun a => V.int (if a = i then 1 else 0))) hp)
        have hpp : upd Hd p (.lst ([V.int 0] ++ (List.range n).map fun a => V.int (if a = i then 1 else 0))) p = some (.lst ((unitI n i).map V.int)) := by
          rw [upd_same]
          unfold unitI
          rw [List.map_cons, List.map_map]; rfl
        have pg : p ≠ g := fun z => by
          have := (sm.trans (sa.trans sm2)) _ _ hg4
          rw [z, this] at hp; cases hp
        generalize upd Hd p _ = He at s12 hpp ⊢
        have pR : p ≠ R := fun z => by
          have := s12 _ _ hRc
          have y := (sa.trans sm2) _ _ hRc
          rw [z, y] at hp; cases hp
        refine ⟨us, s12 _ _ hRc, small1000 (by rw [hu.1, List.length_take, List.length_map, List.length_range]; omega), same_upd hR (sm.trans s12), us ++ [.ref p], upd_same, ?_⟩
        rw [take_snoc (x := unitI n i) (by rw [List.getElem?_map, List.getElem?_range hi]; rfl)]
        exact AG.snoc (hu.imp fun _ _ ⟨q, e, n1, n2, t⟩ => ⟨q, e, n1, n2, by rw [upd_ne n2]; exact s12 _ _ t⟩) ⟨p, rfl, pg, pR, by rw [upd_ne pR]; exact hpp⟩
    · rintro Hc ⟨sm, us2, hRc, hu2⟩
      rw [List.take_of_length_le (by rw [List.length_map, List.length_range]; exact Nat.le_refl _)] at hu2
      have hx5 := sm _ _ hx4
      have hg5 := sm _ _ hg4
      have Rg : R ≠ g := fun z => by rw [z, hg4] at hR; cases hR
      have Rx : R ≠ x := fun z => by rw [z, hx4] at hR; cases hR
      refine ⟨_, rfl, x, D, dx, _, rfl, hx5, T.cl, T.nR, (by show 3 < 1000; decide), ?_⟩
      refine ⟨_, rfl, x, D, dx, _, rfl, upd_same, T.cl, T.nD, (by show 4 < 1000; decide), ?_⟩
      have keep : ∀ q o, q ≠ x → H q = some o → Hc q = some o := fun q o ne e => sm _ _ (g4 q o ne (g3 q o ne e))
      have two : ∀ {o1 o2 : HO} (q : Addr) (o : HO), q ≠ x → Hc q = some o → upd (upd Hc x o1) x o2 q = some o := fun q o ne e => by rw [upd_ne ne, upd_ne ne]; exact e
      have lax : la ≠ x := fun z => by rw [z, hx] at hla; cases hla
      have lag : la ≠ g := fun z => by rw [z, hg0] at hla; cases hla
      refine q g _ ⟨dx, _, la, R, upd_same, ⟨?_, ?_, ?_, ?_, ?_, by show 5 ≤ 900; decide, fun m h1 h2 h3 h4 h5 => by rw [lookup_putF, if_neg h5, lookup_putF, if_neg h4, lookup_putF, if_neg h3, lookup_putF, if_neg h2, lookup_putF, if_neg h1]; rfl⟩, ⟨lag, us, two _ _ lax (keep _ _ lax hla), hu.imp fun _ _ ⟨z, e, t⟩ => ⟨z, e, (fun y => by rw [y, hg0] at t; cases t), ?_⟩⟩, two _ _ (Ne.symm xg) hg5, ⟨Rg, us2, two _ _ Rx hRc, hu2.imp fun _ _ ⟨z, e, n1, n2, t⟩ => ⟨z, e, n1, ?_⟩⟩⟩ hg0 fun q o ne e => two _ _ ne (keep _ _ ne e)
      · rw [lookup_putF, if_neg ne_fld, lookup_putF, if_neg ne_fld, lookup_putF, if_neg ne_fld, lookup_putF, if_neg ne_fld, lookup_putF, if_pos rfl]
      · rw [lookup_putF, if_neg ne_fld, lookup_putF, if_neg ne_fld, lookup_putF, if_neg ne_fld, lookup_putF, if_pos rfl]
      · rw [lookup_putF, if_neg ne_fld, lookup_putF, if_neg ne_fld, lookup_putF, if_pos rfl]
      · rw [lookup_putF, if_neg ne_fld, lookup_putF, if_pos rfl]
      · rw [lookup_putF, if_pos rfl]; rfl
      · have zx : z ≠ x := fun y => by rw [y, hx] at t; cases t
        exact two _ _ zx (keep _ _ zx t)
      · have zx : z ≠ x := fun y => by rw [y, hx5] at t; cases t
        exact two _ _ zx t
end
end FR
set_option Elab.async false
set_option linter.all false
set_option maxRecDepth 100000
set_option maxHeartbeats 4000000
/-! comprehensions by what holds of each item -/
namespace FR
open PySem PySem.Spec PyProof.Rows L2 RF
/-- what is said of the items of the list at D stays when the list grows, and when the heap grows -/
structure Gr {α : Type} (D : Addr) (R : Hp → V → α → Prop) : Prop where
  same : ∀ H H' v c, Same H H' → R H v c → R H' v c
  upd : ∀ H gs o v c, H D = some (.lst gs) → R H v c → R (upd H D o) v c
theorem Gr.list {α : Type} {D : Addr} {R : Hp → V → α → Prop} (g : Gr D R) {H H' : Hp} {us gs : List V} {cs : List α} {v : V} {c : α} (hD : H' D = some (.lst gs)) (h : AG (R H) us cs) (s : Same H H') (r : R H' v c) : AG (R (L2.upd H' D (.lst (us ++ [v])))) (us ++ [v]) (cs ++ [c]) :=
  AG.snoc (h.imp fun _ _ z => g.upd _ _ _ _ _ hD (g.same _ _ _ _ s z)) (g.upd _ _ _ _ _ hD r)
/-- one turn's end: the value is appended -/
theorem gr_turn {α : Type} {D : Addr} {R : Hp → V → α → Prop} (g : Gr D R) {H1 H H' : Hp} {us : List V} {cs : List α} {v : V} {c : α} {i : Nat} (hD : H1 D = none) (sm : Same H1 H) (hDc : H D = some (.lst us)) (hu : AG (R H) us (cs.take i)) (hc : cs[i]? = some c) (hk : cs.length ≤ 900) (s : Same H H') (r : R H' v c) {N : Hp → Prop}
    (hN : ∀ H2, (Same H1 H2 ∧ ∃ us, H2 D = some (.lst us) ∧ AG (R H2) us (cs.take (i + 1))) → N H2) : ∃ got, H' D = some (.lst got) ∧ got.length < sizeLine ∧ N (L2.upd H' D (.lst (got ++ [v]))) := by
  have e := s _ _ hDc
  refine ⟨us, e, small1000 (by rw [hu.1, List.length_take]; omega), hN _ ⟨same_upd hD (sm.trans s), us ++ [v], upd_same, ?_⟩⟩
  rw [take_snoc hc]
  exact g.list e hu s r
theorem gr_start {α : Type} {D : Addr} {R : Hp → V → α → Prop} {H1 : Hp} {cs : List α} (hD : H1 D = none) : Same H1 (upd H1 D (.lst [])) ∧ ∃ us, upd H1 D (.lst []) D = some (.lst us) ∧ AG (R (upd H1 D (.lst []))) us (cs.take 0) := ⟨same_new hD, [], upd_same, AG.nil⟩
/-- [e for a, b in zip(xs, ys)] -/
theorem lz_g {α : Type} {K : PySem.W.Frag} {a b D : Addr} {xs ys : List V} {cs : List α} {R : Hp → V → α → Prop} (g : Gr D R) (hl : xs.length = ys.length) (hk : xs.length ≤ 900) (hc : cs.length = xs.length) {vs : List Nat} {σ : L2.St} {H1 : Hp} {Qd : Hp → Prop} {i1 i2 : Nat} {te : TE} (hD : H1 D = none)
    (ha : SqL K H1 a xs) (hb : SqL K H1 b ys) (wp : ∀ v w : V, wipe (((wipe σ vs).set i1 (some v)).set i2 (some w)) vs = wipe σ vs)
    (he : ∀ (i : Nat) (x y : V) (c : α) (H : Hp) (Q : VK), xs[i]? = some x → ys[i]? = some y → cs[i]? = some c → Same H1 H → (∃ gs, H D = some (.lst gs)) → (∀ v H', Same H H' → R H' v c → Q v H') → te (((wipe σ vs).set i1 (some x)).set i2 (some y)) H Q)
    (hd : ∀ H us, Same H1 H → H D = some (.lst us) → AG (R H) us cs → Qd H) :
    ∃ Wk : Nat → Nat → Hp → Prop, (∃ m0, Wk 0 m0 (upd H1 D (.lst []))) ∧ ∀ (i0 m0 : Nat) (h0 : Hp), Wk i0 m0 h0 →
      ((Itz K a b).stop i0 h0 ∧ Qd h0) ∨ ((Itz K a b).go i0 h0 ∧ ∃ Nk : Hp → Prop, (∀ h1, Nk h1 → ∃ m1, m1 < m0 ∧ Wk (i0 + 1) m1 h1) ∧ ∀ x h2, (Itz K a b).yld i0 h0 x h2 → gTup K 2 (gCons (gName i1) (gCons (gName i2) gNil)) x (wipe σ vs) h2 fun σ2 H2 => wipe σ2 vs = wipe σ vs ∧ tYes σ2 H2 fun b H3 =>
        if b = true then te σ2 H3 fun y H4 => ∃ got, H4 D = some (.lst got) ∧ got.length < sizeLine ∧ Nk (upd H4 D (.lst (got ++ [y]))) else Nk H3) := by
  refine lc_it (walk_zip (xs := xs) (ys := ys) (n := xs.length) (by omega)) (fun i H => Same H1 H ∧ ∃ us, H D = some (.lst us) ∧ AG (R H) us (cs.take i))
    (gr_start hD) (fun i H _ p => ⟨p.1.seq ha, p.1.seq hb⟩) ?_ fun H p => ?_
  · rintro i v H H' hi ⟨sm, us, hDc, hu⟩ ⟨T, x, y, rfl, nT, rfl, hx, hy⟩
    obtain ⟨c, hci⟩ : ∃ c, cs[i]? = some c := ⟨_, List.getElem?_eq_getElem (by omega)⟩
    have sT : Same H (upd H T (.tup [x, y])) := same_new nT
    refine ⟨T, _, rfl, SqT.of upd_same, rfl, _, _, rfl, _, _, rfl, rfl, wp _ _, ?_⟩
    exact he i x y c _ _ hx hy hci (sm.trans sT) ⟨us, sT _ _ hDc⟩ fun v H4 s4 r4 => gr_turn g hD sm hDc hu hci (by omega) (sT.trans s4) r4 fun _ z => z
  · obtain ⟨sm, us, hDc, hu⟩ := p
    rw [List.take_of_length_le (by omega)] at hu
    exact hd H us sm hDc hu
end FR
namespace FR
open PySem PySem.Spec PyProof.Rows L2 RF
theorem gr_int {D : Addr} : Gr D (fun (_ : Hp) (v : V) (c : Int) => v = .int c) := ⟨fun _ _ _ _ _ z => z, fun _ _ _ _ _ _ z => z⟩
theorem ag_ints : ∀ {us : List V} {cs : List Int}, AG (fun (v : V) (c : Int) => v = .int c) us cs → us = cs.map V.int
  | [], [], _ => rfl
  | u :: us, c :: cs, h => by
    obtain ⟨c0, e, r⟩ := h.2 0 u rfl
    cases e
    rw [r, ag_ints (us := us) (cs := cs) ⟨Nat.succ.inj h.1, fun i v hv => h.2 (i + 1) v hv⟩]; rfl
  | [], _ :: _, h => by have := h.1; cases this
  | _ :: _, [], h => by have := h.1; cases this
theorem zw_get {α β γ : Type} {f : α → β → γ} {xs : List α} {ys : List β} {i : Nat} {x : α} {y : β} {c : γ} (hx : xs[i]? = some x) (hy : ys[i]? = some y) (hc : (List.zipWith f xs ys)[i]? = some c) : c = f x y := by
  rw [List.getElem?_zipWith, hx, hy] at hc
  exact (Option.some.inj hc).symm
end FR
namespace FR
open PySem PySem.Spec PyProof.Rows L2 RF RZ
theorem walk_zipT {K : PySem.W.Frag} {a b : Addr} {xs ys : List V} {n : Nat} (hn : n = min xs.length ys.length) : Walk (ItzT K a b) n (fun H => SqT K H a xs ∧ SqT K H b ys) (YPair (fun i => xs[i]?) (fun i => ys[i]?)) := by
  subst hn
  refine ⟨fun i _ hi q => ?_, fun _ q => ⟨xs, ys, q.1, q.2, by omega⟩, fun i H v H' _ q y => ?_⟩
  · have h1 : i < xs.length := by omega
    have h2 : i < ys.length := by omega
    exact ⟨xs, ys, xs[i], ys[i], q.1, q.2, by simp [h1], by simp [h2]⟩
  · obtain ⟨T, x, z, h1, h2, h3, h4, h5⟩ := y
    exact ⟨T, x, z, h1, h2, h3, h4 xs q.1, h5 ys q.2⟩
theorem Same.seqT {K : PySem.W.Frag} {H H' : Hp} {a : Addr} {xs : List V} (e : Same H H') (h : SqT K H a xs) : SqT K H' a xs := by
  rcases h with (h | ⟨o, h⟩) | h
  · exact .inl (.inl (e _ _ h))
  · exact .inl (.inr ⟨o, e _ _ h⟩)
  · exact .inr h
/-- [e for a in xs], a list -/
theorem ll_g {α : Type} {K : PySem.W.Frag} {a D : Addr} {xs : List V} {cs : List α} {R : Hp → V → α → Prop} (g : Gr D R) (hk : xs.length ≤ 900) (hc : cs.length = xs.length) {vs : List Nat} {σ : L2.St} {H1 : Hp} {Qd : Hp → Prop} {i1 : Nat} {te : TE} (hD : H1 D = none)
    (ha : SqL K H1 a xs) (wp : ∀ v : V, wipe ((wipe σ vs).set i1 (some v)) vs = wipe σ vs)
    (he : ∀ (i : Nat) (x : V) (c : α) (H : Hp) (Q : VK), xs[i]? = some x → cs[i]? = some c → Same H1 H → (∃ gs, H D = some (.lst gs)) → (∀ v H', Same H H' → R H' v c → Q v H') → te ((wipe σ vs).set i1 (some x)) H Q)
    (hd : ∀ H us, Same H1 H → H D = some (.lst us) → AG (R H) us cs → Qd H) :
    ∃ Wk : Nat → Nat → Hp → Prop, (∃ m0, Wk 0 m0 (upd H1 D (.lst []))) ∧ ∀ (i0 m0 : Nat) (h0 : Hp), Wk i0 m0 h0 →
      ((Itl K a).stop i0 h0 ∧ Qd h0) ∨ ((Itl K a).go i0 h0 ∧ ∃ Nk : Hp → Prop, (∀ h1, Nk h1 → ∃ m1, m1 < m0 ∧ Wk (i0 + 1) m1 h1) ∧ ∀ x h2, (Itl K a).yld i0 h0 x h2 → gName i1 x (wipe σ vs) h2 fun σ2 H2 => wipe σ2 vs = wipe σ vs ∧ tYes σ2 H2 fun b H3 =>
        if b = true then te σ2 H3 fun y H4 => ∃ got, H4 D = some (.lst got) ∧ got.length < sizeLine ∧ Nk (upd H4 D (.lst (got ++ [y]))) else Nk H3) := by
  refine lc_list (xs := xs) (fun i H => Same H1 H ∧ ∃ us, H D = some (.lst us) ∧ AG (R H) us (cs.take i)) (gr_start hD) (fun i H _ p => p.1.seq ha) ?_ fun H p => ?_
  · rintro i x H hx ⟨sm, us, hDc, hu⟩
    have hi := (List.getElem?_eq_some_iff.mp hx).1
    obtain ⟨c, hci⟩ : ∃ c, cs[i]? = some c := ⟨_, List.getElem?_eq_getElem (by omega)⟩
    refine ⟨wp _, ?_⟩
    exact he i x c _ _ hx hci sm ⟨us, hDc⟩ fun v H4 s4 r4 => gr_turn g hD sm hDc hu hci (by omega) s4 r4 fun _ z => z
  · obtain ⟨sm, us, hDc, hu⟩ := p
    rw [List.take_of_length_le (by omega)] at hu
    exact hd H us sm hDc hu
/-- .. a tuple -/
theorem lt_g {α : Type} {K : PySem.W.Frag} {a D : Addr} {xs : List V} {cs : List α} {R : Hp → V → α → Prop} (g : Gr D R) (hk : xs.length ≤ 900) (hc : cs.length = xs.length) {vs : List Nat} {σ : L2.St} {H1 : Hp} {Qd : Hp → Prop} {i1 : Nat} {te : TE} (hD : H1 D = none)
    (ha : SqT K H1 a xs) (wp : ∀ v : V, wipe ((wipe σ vs).set i1 (some v)) vs = wipe σ vs)
    (he : ∀ (i : Nat) (x : V) (c : α) (H : Hp) (Q : VK), xs[i]? = some x → cs[i]? = some c → Same H1 H → (∃ gs, H D = some (.lst gs)) → (∀ v H', Same H H' → R H' v c → Q v H') → te ((wipe σ vs).set i1 (some x)) H Q)
    (hd : ∀ H us, Same H1 H → H D = some (.lst us) → AG (R H) us cs → Qd H) :
    ∃ Wk : Nat → Nat → Hp → Prop, (∃ m0, Wk 0 m0 (upd H1 D (.lst []))) ∧ ∀ (i0 m0 : Nat) (h0 : Hp), Wk i0 m0 h0 →
      ((Itt K a).stop i0 h0 ∧ Qd h0) ∨ ((Itt K a).go i0 h0 ∧ ∃ Nk : Hp → Prop, (∀ h1, Nk h1 → ∃ m1, m1 < m0 ∧ Wk (i0 + 1) m1 h1) ∧ ∀ x h2, (Itt K a).yld i0 h0 x h2 → gName i1 x (wipe σ vs) h2 fun σ2 H2 => wipe σ2 vs = wipe σ vs ∧ tYes σ2 H2 fun b H3 =>
        if b = true then te σ2 H3 fun y H4 => ∃ got, H4 D = some (.lst got) ∧ got.length < sizeLine ∧ Nk (upd H4 D (.lst (got ++ [y]))) else Nk H3) := by
  refine lc_it (walk_tup (xs := xs)) (fun i H => Same H1 H ∧ ∃ us, H D = some (.lst us) ∧ AG (R H) us (cs.take i)) (gr_start hD) (fun i H _ p => Same.seqT p.1 ha) ?_ fun H p => ?_
  · rintro i x H H' hi ⟨sm, us, hDc, hu⟩ ⟨e, hx⟩
    subst e
    obtain ⟨c, hci⟩ : ∃ c, cs[i]? = some c := ⟨_, List.getElem?_eq_getElem (by omega)⟩
    refine ⟨wp _, ?_⟩
    exact he i x c _ _ hx hci sm ⟨us, hDc⟩ fun v H4 s4 r4 => gr_turn g hD sm hDc hu hci (by omega) s4 r4 fun _ z => z
  · obtain ⟨sm, us, hDc, hu⟩ := p
    rw [List.take_of_length_le (by omega)] at hu
    exact hd H us sm hDc hu
end FR
namespace FR
open PySem PySem.Spec PyProof.Rows L2 RF RZ
/-- for x, y in zip(a, b): both lists, or both tuples -/
theorem for_zipA {K : PySem.W.Frag} {a b : Addr} {xs ys : List V} {n : Nat} {g : TG} {tb : TS} {D : Ends} {σ : L2.St} {H H0 : Hp} (hb : (SqL K H0 a xs ∧ SqL K H0 b ys) ∨ (SqT K H0 a xs ∧ SqT K H0 b ys)) (s0 : Same H0 H) (hn : n = min xs.length ys.length) (Pv : Nat → L2.St → Hp → Prop) (h0 : Pv 0 σ H) (hG : ∀ i σ H', i ≤ n → Pv i σ H' → Same H0 H')
    (hs : ∀ i T x y σ H', i < n → Pv i σ H' → xs[i]? = some x → ys[i]? = some y → H' T = none → g (.ref T) σ (upd H' T (.tup [x, y])) fun σ2 H2 => tb { D with nx := Pv (i + 1), ct := Pv (i + 1), bk := D.nx } σ2 H2) (hd : ∀ σ H, Pv n σ H → D.nx σ H) :
    (SqL K H a xs ∧ SqL K H b ys ∧ ∃ W : Nat → Nat → L2.St → Hp → Prop, (∃ m, W 0 m σ H) ∧ ∀ i m σ H, W i m σ H →
      ((Itz K a b).stop i H ∧ D.nx σ H) ∨ ((Itz K a b).go i H ∧ ∃ N : L2.St → Hp → Prop, (∀ σ' H', N σ' H' → ∃ m', m' < m ∧ W (i + 1) m' σ' H') ∧ ∀ x H', (Itz K a b).yld i H x H' → g x σ H' fun σ2 H2 => tb { D with nx := N, ct := N, bk := D.nx } σ2 H2)) ∨
    (SqT K H a xs ∧ SqT K H b ys ∧ ∃ W : Nat → Nat → L2.St → Hp → Prop, (∃ m, W 0 m σ H) ∧ ∀ i m σ H, W i m σ H →
      ((ItzT K a b).stop i H ∧ D.nx σ H) ∨ ((ItzT K a b).go i H ∧ ∃ N : L2.St → Hp → Prop, (∀ σ' H', N σ' H' → ∃ m', m' < m ∧ W (i + 1) m' σ' H') ∧ ∀ x H', (ItzT K a b).yld i H x H' → g x σ H' fun σ2 H2 => tb { D with nx := N, ct := N, bk := D.nx } σ2 H2)) := by
  rcases hb with ⟨h1, h2⟩ | ⟨h1, h2⟩
  · refine .inl ⟨s0.seq h1, s0.seq h2, for_it (walk_zip hn) Pv h0 (fun i σ H' hi p => ⟨(hG i σ H' hi p).seq h1, (hG i σ H' hi p).seq h2⟩) ?_ hd⟩
    rintro i v σ H1 H2 hi p ⟨T, x, y, rfl, nT, rfl, hx, hy⟩
    exact hs i T x y σ H1 hi p hx hy nT
  · refine .inr ⟨Same.seqT s0 h1, Same.seqT s0 h2, for_it (walk_zipT hn) Pv h0 (fun i σ H' hi p => ⟨Same.seqT (hG i σ H' hi p) h1, Same.seqT (hG i σ H' hi p) h2⟩) ?_ hd⟩
    rintro i v σ H1 H2 hi p ⟨T, x, y, rfl, nT, rfl, hx, hy⟩
    exact hs i T x y σ H1 hi p hx hy nT
end FR
set_option Elab.async false
set_option linter.all false
set_option maxRecDepth 100000
set_option maxHeartbeats 4000000
/-! Corner: constant_of, line_of, first_below -/
namespace FR
open PySem PySem.Spec PyProof.Rows L2 RF CN
abbrev sKc : Stmt := inClass sCor 1
abbrev NKc : List Str := ["self", "number", "total", "entries", "entry", "row"]
theorem scKc : FnScope NKc ["self", "number"] (defScope sKc) := ⟨rfl, rfl, rfl, by decide +kernel, rfl, by decide +kernel, by decide +kernel⟩
abbrev sKl : Stmt := inClass sCor 2
abbrev NKl : List Str := ["self", "number", "total", "entries", "line", "entry", "row", "told", "other"]
theorem scKl : FnScope NKl ["self", "number"] (defScope sKl) := ⟨rfl, rfl, rfl, by decide +kernel, rfl, by decide +kernel, by decide +kernel⟩
abbrev sKf : Stmt := inClass sCor 3
abbrev NKf : List Str := ["self", "number"]
theorem scKf : FnScope NKf ["self"] (defScope sKf) := ⟨rfl, rfl, rfl, by decide +kernel, rfl, by decide +kernel, by decide +kernel⟩

/-- lines of w factors; all that a tableau over them holds is below 2 ^ m -/
structure Wid (lines : List (List Int)) (w m : Nat) : Prop where
  len : ∀ l ∈ lines, l.length = w + 1
  few : lines.length ≤ 90
  w12 : w ≤ 12
  w1 : 1 ≤ w
  sz : ∀ l ∈ lines, Sh l m
  dt : ∀ st, CI lines w st → st.d.natAbs < 2 ^ m ∧ ∀ v, v < w + lines.length → Sh (lineC lines w st v) m
  m9 : m ≤ 3500
  m0 : 0 < m
section
variable {P : Program} {w : World} {K : PySem.W.Frag} {mg : Str → Option Value} {base : Heap} {D : Addr}
theorem ci_row {lines : List (List Int)} {n m : Nat} {st : Co} (I : CI lines n st) (W : Wid lines n m) {i : Nat} (hi : i < n) : Sh (st.rows.getD i []) m := by
  have := (W.dt st I).2 i (by omega)
  unfold lineC at this
  rw [if_pos hi] at this
  exact this
def spKc (D : Addr) : Sp := fun vs H Q _ => ∃ (x g : Addr) (n m v : Nat) (lines : List (List Int)) (st : Co), vs = [.ref x, .int (v : Nat)] ∧ CoH D g H x lines n st ∧ CI lines n st ∧ Wid lines n m ∧ v < n + lines.length ∧ ∀ H', Same H H' → Q (.int (constC lines n st v)) H'
theorem ok_kc {f : Addr} {fd : FuncData} (F : Fun K "constant_of" "Corner.constant_of" sKc f fd) (T : TxtC6 K mg D) : FnOk P w K mg base CX0 1 f fd ["self", "number"] (spKc D) := by
  refine F.ok scKc (fun vs H Q E h => ?_) (fun cdv A outer s H vs Q E hr h => ?_)
  · obtain ⟨x, g, n, m, v, lines, st, rfl, _⟩ := h
    rfl
  · obtain ⟨x, g, n, m, v, lines, st, rfl, hc, I, W, hv, q⟩ := h
    refine ⟨_, (pss_cons (ps_if (pt_cmpR op_lt (pv 1) (pe_fld (pv 0) rfl) (nomark _)) (pss_one (ps_ret (pe_ix ix_list (pe_ix ix_list (pe_fld (pv 0) rfl) (pv 1) (fun _ _ => rfl)) pe_int (fun _ _ => rfl)))) pss_nil)
      (pss_cons (ps_asg (pe_ix ix_list (pe_fld (pv 0) rfl) (pe_op op_sub (pv 1) (pe_fld (pv 0) rfl)) (fun _ _ => rfl)) (pg_star rfl (pg_name (i := 2) scKc.nd rfl (.inl rfl)) (pg_name (i := 3) scKc.nd rfl (.inl rfl))))
      (pss_one (ps_ret (pe_op op_sub (pe_op op_mulW (pe_fld (pv 0) rfl) (pv 2)) (pe_callB (cr_sum rfl) (by rfl) T.sum (by decide +kernel) (pa_cons (pe_lc (own := [("entry", 4), ("row", 5)]) (g := (gTup K 2 (gCons (gName 4) (gCons (gName 5) gNil)))) (tt := tYes) rfl scKc.nd (pi_zip (by rfl) T.zip (pa_cons (pv 3) (pa_cons (pe_fld (pv 0) rfl) pa_nil))) (blkOk_by (N := NKc) (sc := (defScope sKc)) (by decide +kernel)) (fun _ _ _ _ _ => (pg_tupK (K := K) rfl rfl (pgs_cons (pg_name (i := 4) scKc.nd rfl (.inl rfl)) (pgs_cons (pg_name (i := 5) scKc.nd rfl (.inl rfl)) pgs_nil)))) (fun _ _ _ _ _ => pts_nil) (fun _ _ _ _ _ => (pe_op op_mulW (pv 4) (pe_ix (ix_listK (K := K) rfl) (pv 5) pe_int (fun _ _ => rfl))))) pa_nil))))))), ?_⟩
    obtain ⟨dx, fs, la, ra, hx, cf, ⟨lag, us, hla, hu⟩, hg, ⟨rag, ws, hra, hw⟩⟩ := id hc
    refine ⟨_, rfl, _, rfl, x, D, dx, _, _, rfl, hx, T.cl, T.nW, cf.w, _, _, rfl, rfl, _, rfl, ite2 (fun z => ?_) (fun z => ?_)⟩
    · have z : v < n := by have := of_decide_eq_true z; omega
      obtain ⟨u, hu1⟩ : ∃ u, ws[v]? = some u := ⟨_, List.getElem?_eq_getElem (by rw [hw.1, I.rl]; exact z)⟩
      obtain ⟨r, hr1, p, rfl, np, hp⟩ := hw.2 v u hu1
      refine ⟨_, rfl, x, D, dx, _, _, rfl, hx, T.cl, T.nR, cf.r, _, rfl, ra, _, _, _, rfl, rfl, SqL.of hra, atI_nat hu1, p, _, 0, _, rfl, rfl, SqL.of hp, atI_ent (q := 0) (by rw [I.rw_ r (List.mem_of_getElem? hr1)]; omega), ?_⟩
      have := q H (Same.refl H)
      unfold constC at this
      rw [if_pos z, List.getD_eq_getElem?_getD, hr1] at this
      exact this
    · have z : n ≤ v := by
        by_cases y : v < n
        · exact absurd (decide_eq_true (by omega : (v : Int) < (n : Int))) z
        · omega
      obtain ⟨u, hu1⟩ : ∃ u, us[v - n]? = some u := ⟨_, List.getElem?_eq_getElem (by rw [hu.1]; omega)⟩
      obtain ⟨l, hl1, p, rfl, np, hp⟩ := hu.2 _ u hu1
      have ml := List.mem_of_getElem? hl1
      have ll := W.len l ml
      have ls := W.sz l ml
      have gl : lines.getD (v - n) [] = l := by rw [List.getD_eq_getElem?_getD, hl1]; rfl
      obtain ⟨t, es, rfl⟩ : ∃ t es, l = t :: es := by
        cases l with
        | nil => cases ll
        | cons t es => exact ⟨t, es, rfl⟩
      have el : es.length = n := Nat.succ.inj ll
      have w12 := W.w12
      have m9 := W.m9
      have m0 := W.m0
      refine ⟨_, rfl, x, D, dx, _, _, rfl, hx, T.cl, T.nL, cf.l, _, rfl, _, rfl, x, D, dx, _, _, rfl, hx, T.cl, T.nW, cf.w, _, _, rfl, rfl, la, us, _, _, rfl, rfl, SqL.of hla, (by rw [show ((v : Nat) : Int) - (n : Nat) = ((v - n : Nat) : Int) by omega]; exact atI_nat hu1), ?_⟩
      refine ⟨p, V.int t, es.map V.int, rfl, SqL.of hp, by rw [List.length_map]; omega, fun e1 he1 => ?_⟩
      have s1 : Same H (upd H e1 (.lst (es.map V.int))) := same_new he1
      have hes : upd H e1 (.lst (es.map V.int)) e1 = some (.lst (es.map V.int)) := upd_same
      generalize upd H e1 _ = H1 at s1 hes ⊢
      have hx1 := s1 _ _ hx
      refine ⟨_, rfl, x, D, dx, _, _, rfl, hx1, T.cl, T.nD, cf.d, _, rfl, _, _, rfl, rfl, wide_mul (W.dt st I).1 (ls 0) (by omega) (by omega) (by omega), ?_⟩
      refine ⟨_, rfl, _, rfl, x, D, dx, _, _, rfl, hx1, T.cl, T.nR, cf.r, e1, ra, _, _, rfl, SqL.of hes, SqL.of (s1 _ _ hra), fun R hR => ?_⟩
      refine lz_g (cs := List.zipWith (fun e r => e * ent r 0) es st.rows) gr_int (by rw [List.length_map, hw.1, I.rl, el]) (by rw [List.length_map]; omega) (by rw [List.length_zipWith, List.length_map, I.rl, el]; omega) hR (SqL.of hes) (SqL.of (s1 _ _ hra)) (fun _ _ => rfl) ?_ ?_
      · intro i a b c H2 Q2 ha hb hcc s2 _ q2
        obtain ⟨e, he2, rfl⟩ := il_at ha
        obtain ⟨r, hr1, p2, rfl, np2, hp2⟩ := hw.2 i b hb
        have ec := zw_get he2 hr1 hcc
        subst ec
        have hi : i < n := by rw [← I.rl]; exact (List.getElem?_eq_some_iff.mp hr1).1
        have rs := ci_row I W hi
        rw [List.getD_eq_getElem?_getD, hr1] at rs
        have es1 : (ent (t :: es) (i + 1)).natAbs < 2 ^ m := ls (i + 1)
        have ee : ent (t :: es) (i + 1) = e := by
          show ent es i = e
          exact ent_some he2
        rw [ee] at es1
        have s12 := s1.trans s2
        refine ⟨_, rfl, _, rfl, p2, _, 0, _, rfl, rfl, SqL.of (s12 _ _ hp2), atI_ent (q := 0) (by rw [I.rw_ r (List.mem_of_getElem? hr1)]; omega), _, _, rfl, rfl, wide_mul es1 (rs 0) (by omega) (by omega) (by omega), q2 _ _ (Same.refl _) rfl⟩
      · intro H2 us2 s2 hR2 hag
        have e2 := ag_ints hag
        subst e2
        refine ⟨R, _, rfl, SqL.of hR2, _, _, rfl, rfl, ?_⟩
        have := q H2 (s1.trans s2)
        unfold constC at this
        rw [if_neg (by omega), gl] at this
        exact this
/-! ### line_of -/
def spKl (D : Addr) : Sp := fun vs H Q _ => ∃ (x g : Addr) (n m v : Nat) (lines : List (List Int)) (st : Co), vs = [.ref x, .int (v : Nat)] ∧ CoH D g H x lines n st ∧ CI lines n st ∧ Wid lines n m ∧ v < n + lines.length ∧ ∀ p H', p ≠ g → H' p = some (.lst ((lineC lines n st v).map V.int)) → Same H H' → Q (.ref p) H'
theorem ok_kl {f : Addr} {fd : FuncData} (F : Fun K "line_of" "Corner.line_of" sKl f fd) (T : TxtC6 K mg D) : FnOk P w K mg base CX0 1 f fd ["self", "number"] (spKl D) := by
  refine F.ok scKl (fun vs H Q E h => ?_) (fun cdv A outer s H vs Q E hr h => ?_)
  · obtain ⟨x, g, n, m, v, lines, st, rfl, _⟩ := h
    rfl
  · obtain ⟨x, g, n, m, v, lines, st, rfl, hc, I, W, hv, q⟩ := h
    refine ⟨_, (pss_cons (ps_if (pt_cmpR op_lt (pv 1) (pe_fld (pv 0) rfl) (nomark _)) (pss_one (ps_ret (pe_ix ix_list (pe_fld (pv 0) rfl) (pv 1) (fun _ _ => rfl)))) pss_nil)
      (pss_cons (ps_asg (pe_ix ix_list (pe_fld (pv 0) rfl) (pe_op op_sub (pv 1) (pe_fld (pv 0) rfl)) (fun _ _ => rfl)) (pg_star rfl (pg_name (i := 2) scKl.nd rfl (.inl rfl)) (pg_name (i := 3) scKl.nd rfl (.inl rfl))))
      (pss_cons (ps_set (i := 4) scKl.nd rfl (Or.inl rfl) (pe_op op_cat (pe_lst (pa_cons (pe_op op_mulW (pe_fld (pv 0) rfl) (pv 2)) pa_nil)) (pe_op op_rep (pe_lst (pa_cons pe_int pa_nil)) (pe_fld (pv 0) rfl))))
      (pss_cons (ps_for PassesOwn.never rfl (pi_zip (by rfl) T.zip (pa_cons (pv 3) (pa_cons (pe_fld (pv 0) rfl) pa_nil))) (pg_tup (by rfl) (pgs_cons (pg_name (i := 5) scKl.nd rfl (.inr rfl)) (pgs_cons (pg_name (i := 6) scKl.nd rfl (.inl rfl)) pgs_nil)))
        (pss_one (ps_if (pt_cmpR op_ne (pv 5) pe_int (nomark _)) (pss_one (ps_setLc (i := 4) (own := [("told", 7), ("other", 8)]) (g := (gTup K 2 (gCons (gName 7) (gCons (gName 8) gNil)))) (tt := tYes) rfl scKl.nd rfl rfl (sw_true rfl rfl rfl (by decide +kernel)) (pi_zip (by rfl) T.zip (pa_cons (pv 4) (pa_cons (pv 6) pa_nil))) (blkOk_by (N := NKl) (sc := (defScope sKl)) (by decide +kernel)) (fun _ _ _ _ _ => (pg_tupK (K := K) rfl rfl (pgs_cons (pg_name (i := 7) scKl.nd rfl (.inl rfl)) (pgs_cons (pg_name (i := 8) scKl.nd rfl (.inl rfl)) pgs_nil)))) (fun _ _ _ _ _ => pts_nil) (fun _ _ _ _ _ => (pe_op op_sub (pv 7) (pe_op op_mulW (pv 5) (pv 8)))))) pss_nil)))
      (pss_one (ps_ret (pv 4))))))), ?_⟩
    obtain ⟨dx, fs, la, ra, hx, cf, ⟨lag, us, hla, hu⟩, hg, ⟨rag, ws, hra, hw⟩⟩ := id hc
    refine ⟨_, rfl, _, rfl, x, D, dx, _, _, rfl, hx, T.cl, T.nW, cf.w, _, _, rfl, rfl, _, rfl, ite2 (fun z => ?_) (fun z => ?_)⟩
    · have z : v < n := by have := of_decide_eq_true z; omega
      obtain ⟨u, hu1⟩ : ∃ u, ws[v]? = some u := ⟨_, List.getElem?_eq_getElem (by rw [hw.1, I.rl]; exact z)⟩
      obtain ⟨r, hr1, p, rfl, np, hp⟩ := hw.2 v u hu1
      refine ⟨_, rfl, x, D, dx, _, _, rfl, hx, T.cl, T.nR, cf.r, _, rfl, ra, _, _, _, rfl, rfl, SqL.of hra, atI_nat hu1, ?_⟩
      refine q p H np ?_ (Same.refl H)
      unfold lineC
      rw [if_pos z, List.getD_eq_getElem?_getD, hr1]
      exact hp
    · have z : n ≤ v := by
        by_cases y : v < n
        · exact absurd (decide_eq_true (by omega : (v : Int) < (n : Int))) z
        · omega
      obtain ⟨u, hu1⟩ : ∃ u, us[v - n]? = some u := ⟨_, List.getElem?_eq_getElem (by rw [hu.1]; omega)⟩
      obtain ⟨l, hl1, p, rfl, np, hp⟩ := hu.2 _ u hu1
      have ml := List.mem_of_getElem? hl1
      have ll := W.len l ml
      have ls := W.sz l ml
      have gl : lines.getD (v - n) [] = l := by rw [List.getD_eq_getElem?_getD, hl1]; rfl
      obtain ⟨t, es, rfl⟩ : ∃ t es, l = t :: es := by
        cases l with
        | nil => cases ll
        | cons t es => exact ⟨t, es, rfl⟩
      have el : es.length = n := Nat.succ.inj ll
      have w12 := W.w12
      have m9 := W.m9
      have m0 := W.m0
      refine ⟨_, rfl, x, D, dx, _, _, rfl, hx, T.cl, T.nL, cf.l, _, rfl, _, rfl, x, D, dx, _, _, rfl, hx, T.cl, T.nW, cf.w, _, _, rfl, rfl, la, us, _, _, rfl, rfl, SqL.of hla, (by rw [show ((v : Nat) : Int) - (n : Nat) = ((v - n : Nat) : Int) by omega]; exact atI_nat hu1), ?_⟩
      refine ⟨p, V.int t, es.map V.int, rfl, SqL.of hp, by rw [List.length_map]; omega, fun e1 he1 => ?_⟩
      have s1 : Same H (upd H e1 (.lst (es.map V.int))) := same_new he1
      have hes : upd H e1 (.lst (es.map V.int)) e1 = some (.lst (es.map V.int)) := upd_same
      generalize upd H e1 _ = H1 at s1 hes ⊢
      have hx1 := s1 _ _ hx
      refine ⟨_, rfl, x, D, dx, _, _, rfl, hx1, T.cl, T.nD, cf.d, _, rfl, _, _, rfl, rfl, wide_mul (W.dt st I).1 (ls 0) (by omega) (by omega) (by omega), small1000 (by show 0 ≤ 1000; decide), fun l1 hl1' => ?_⟩
      have s2 : Same H1 (upd H1 l1 (.lst [.int (st.d * t)])) := same_new hl1'
      have h1 : upd H1 l1 (.lst [.int (st.d * t)]) l1 = some (.lst [.int (st.d * t)]) := upd_same
      have hes2 := s2 _ _ hes
      have s12 := s1.trans s2
      generalize upd H1 l1 _ = H2 at s12 h1 hes2 ⊢
      refine ⟨small1000 (by show 0 ≤ 1000; decide), fun l2 hl2 => ?_⟩
      have s3 : Same H2 (upd H2 l2 (.lst [.int 0])) := same_new hl2
      have h2 : upd H2 l2 (.lst [.int 0]) l2 = some (.lst [.int 0]) := upd_same
      have hes3 := s3 _ _ hes2
      have h13 := s3 _ _ h1
      have s13 := s12.trans s3
      generalize upd H2 l2 _ = H3 at s13 h2 hes3 h13 ⊢
      refine ⟨_, rfl, x, D, dx, _, _, rfl, s13 _ _ hx, T.cl, T.nW, cf.w, ?_⟩
      refine ⟨l2, (n : Int), _, rfl, rfl, h2, by omega, by omega, Nat.le_of_lt (small1000 (by show 1 * (n : Int).toNat ≤ 1000; omega)), fun l3 hl3 => ?_⟩
      have s4 : Same H3 (upd H3 l3 (.lst (List.replicate (n : Int).toNat [V.int 0]).flatten)) := same_new hl3
      have h3 : upd H3 l3 (.lst (List.replicate (n : Int).toNat [V.int 0]).flatten) l3 = some (.lst (List.replicate n (V.int 0))) := by
        rw [upd_same, flat_rep]; rfl
      have hes4 := s4 _ _ hes3
      have h14 := s4 _ _ h13
      have s14 := s13.trans s4
      generalize upd H3 l3 _ = H4 at s14 h3 hes4 h14 ⊢
      refine ⟨l1, l3, _, _, rfl, rfl, h14, h3, Nat.le_of_lt (small1000 (by rw [List.length_replicate]; show 1 + n ≤ 1000; omega)), fun l4 hl4 => ?_⟩
      have s5 : Same H4 (upd H4 l4 (.lst ([V.int (st.d * t)] ++ List.replicate n (V.int 0)))) := same_new hl4
      have h4 : upd H4 l4 (.lst ([V.int (st.d * t)] ++ List.replicate n (V.int 0))) l4 = some (.lst ((st.d * t :: List.replicate n (0 : Int)).map V.int)) := by
        rw [upd_same, List.map_cons, List.map_replicate]; rfl
      have n4 : l4 ≠ g := fun y => by rw [y, s14 _ _ hg] at hl4; cases hl4
      have hes5 := s5 _ _ hes4
      have s15 := s14.trans s5
      generalize upd H4 l4 _ = H5 at s15 h4 hes5 ⊢
      refine ⟨_, rfl, _, rfl, x, D, dx, _, _, rfl, s15 _ _ hx, T.cl, T.nR, cf.r, e1, ra, _, _, rfl, SqL.of hes5, SqL.of (s15 _ _ hra), ?_⟩
      have zl : es.length = st.rows.length := by rw [el, I.rl]
      have fs_ := fun (i : Nat) => fold_sub (n := n + 1) (es.take i) (st.rows.take i) (st.d * t :: List.replicate n 0) (by rw [List.length_take, List.length_take, zl]) (by rw [List.length_cons, List.length_replicate]) fun r hr => I.rw_ r (List.mem_of_mem_take hr)
      have tz : ∀ i, (es.take i).zip (st.rows.take i) = (es.zip st.rows).take i := fun i => by
        simp only [List.zip, List.take_zipWith]
      refine for_it (walk_zip (xs := es.map V.int) (ys := ws) (n := n) (by rw [List.length_map, hw.1, I.rl, el]; omega))
        (fun i σ Hc => Same H Hc ∧ Hc e1 = some (.lst (es.map V.int)) ∧ ∃ (y : Addr) (x5 x6 : Option V), σ = [some (.ref x), some (.int (v : Nat)), some (.int t), some (.ref e1), some (.ref y), x5, x6, none, none] ∧ y ≠ g ∧ Hc y = some (.lst ((((es.zip st.rows).take i).foldl subStep (st.d * t :: List.replicate n 0)).map V.int)))
        ⟨s15, hes5, l4, _, _, rfl, n4, h4⟩ (fun i σ Hc _ p => ⟨SqL.of p.2.1, SqL.of (p.1 _ _ hra)⟩) ?_ ?_
      · rintro i vv_ σ Hc H' hi ⟨sm, hec, y, x5, x6, rfl, ny, hy⟩ ⟨T0, u1, u2, rfl, nT, rfl, g1, g2⟩
        obtain ⟨e, he2, rfl⟩ := il_at g1
        obtain ⟨r, hr1, p2, rfl, np2, hp2⟩ := hw.2 i u2 g2
        have hin : i < n := hi
        have rs := ci_row I W hin
        rw [List.getD_eq_getElem?_getD, hr1] at rs
        have es1 : (ent (t :: es) (i + 1)).natAbs < 2 ^ m := ls (i + 1)
        have ee : ent (t :: es) (i + 1) = e := by
          show ent es i = e
          exact ent_some he2
        rw [ee] at es1
        have rlen := I.rw_ r (List.mem_of_getElem? hr1)
        have sm' : Same H (upd Hc T0 (.tup [.int e, .ref p2])) := sm.trans (same_new nT)
        have hec' := same_new (o := .tup [.int e, .ref p2]) nT _ _ hec
        have hy' := same_new (o := .tup [.int e, .ref p2]) nT _ _ hy
        have tt : upd Hc T0 (.tup [.int e, .ref p2]) T0 = some (.tup [.int e, .ref p2]) := upd_same
        generalize upd Hc T0 _ = Hn at sm' hec' hy' tt ⊢
        have fi := fs_ i
        rw [tz] at fi
        have step : ((es.zip st.rows).take (i + 1)).foldl subStep (st.d * t :: List.replicate n 0) = subStep (((es.zip st.rows).take i).foldl subStep (st.d * t :: List.replicate n 0)) (e, r) := by
          rw [take_snoc (x := (e, r)) (by rw [List.getElem?_zip_eq_some]; exact ⟨he2, hr1⟩), List.foldl_append]; rfl
        generalize ((es.zip st.rows).take i).foldl subStep (st.d * t :: List.replicate n 0) = cur at fi hy' step ⊢
        refine ⟨T0, _, rfl, SqT.of tt, rfl, _, _, rfl, _, _, rfl, rfl, ?_⟩
        refine ⟨_, rfl, rfl, _, rfl, ite2 (fun z => ?_) (fun z => ?_)⟩
        · have z : e ≠ 0 := neq_of z
          refine ⟨_, rfl, _, rfl, y, p2, _, _, rfl, SqL.of hy', SqL.of (sm' _ _ hp2), fun R2 hR2 => ?_⟩
          refine lz_ints (xs := cur) (ys := r) (by rw [fi.1, rlen]) (by rw [fi.1]; omega) (fun a o => a - e * o) hR2 hy' (sm' _ _ hp2) (fun _ _ => rfl) ?_ ?_
          · intro i2 u v2 H2 Q2 hu hv2 s2 q2
            exact ⟨_, rfl, _, rfl, _, rfl, _, _, rfl, rfl, wide_mul es1 (rs.get hv2) (by omega) (by omega) (by omega), _, _, rfl, rfl, q2⟩
          · intro H2 s2 hR3
            refine ⟨sm'.trans s2, s2 _ _ hec', R2, _, _, rfl, fun y => ?_, ?_⟩
            · rw [y, sm' _ _ hg] at hR2; cases hR2
            · rw [step]
              unfold subStep
              rw [if_pos z]
              exact hR3
        · have z : ¬ e ≠ 0 := fun y => z (neq_to y)
          refine ⟨sm', hec', y, _, _, rfl, ny, ?_⟩
          rw [step]
          unfold subStep
          rw [if_neg z]
          exact hy'
      · rintro σ Hc ⟨sm, hec, y, x5, x6, rfl, ny, hy⟩
        rw [List.take_of_length_le (by rw [List.length_zip, zl, I.rl]; omega)] at hy
        refine ⟨_, rfl, q y Hc ny ?_ sm⟩
        unfold lineC
        rw [if_neg (by omega), gl]
        exact hy
/-! ### first_below -/
def wayV : Option Nat → V
  | none => .non
  | some v => .int (v : Nat)
def spKf (D : Addr) : Sp := fun vs H Q _ => ∃ (x g : Addr) (n m : Nat) (lines : List (List Int)) (st : Co), vs = [.ref x] ∧ CoH D g H x lines n st ∧ CI lines n st ∧ Wid lines n m ∧ ∀ H', Same H H' → Q (wayV (belowC lines n st)) H'
theorem ok_kf {f : Addr} {fd : FuncData} (F : Fun K "first_below" "Corner.first_below" sKf f fd) (T : TxtC6 K mg D) (mC : Met P w K mg base D "constant_of" 1 ["self", "number"] (spKc D)) : FnOk P w K mg base CX0 2 f fd ["self"] (spKf D) := by
  refine F.ok scKf (fun vs H Q E h => ?_) (fun cdv A outer s H vs Q E hr h => ?_)
  · obtain ⟨x, g, n, m, lines, st, rfl, _⟩ := h
    rfl
  · obtain ⟨x, g, n, m, lines, st, rfl, hc, I, W, q⟩ := h
    refine ⟨_, (pss_cons (ps_for PassesOwn.never rfl (pi_range1 (by rfl) T.range (pa_cons (pe_op op_add (pe_fld (pv 0) rfl) (pe_callB call_len_seq (by rfl) T.len PySem.boot_len (pa_cons (pe_fld (pv 0) rfl) pa_nil))) pa_nil)) (pg_name (i := 1) scKf.nd rfl (.inl rfl))
        (pss_one (ps_if (pt_cmpR op_lt (pe_meth (pv 0) T.cl ⟨mC.D.at_, mC.D.fn, mC.kp⟩ mC.G (hr.mono (by decide)) mC.b .nil pass0 (pa_cons (pv 1) pa_nil)) pe_int (nomark _)) (pss_one (ps_ret (pv 1))) pss_nil)))
      (pss_one (ps_ret pe_non))), ?_⟩
    obtain ⟨dx, fs, la, ra, hx, cf, ⟨lag, us, hla, hu⟩, hg, ⟨rag, ws, hra, hw⟩⟩ := id hc
    have w12 := W.w12
    have few := W.few
    refine ⟨_, rfl, x, D, dx, _, _, rfl, hx, T.cl, T.nW, cf.w, _, rfl, x, D, dx, _, _, rfl, hx, T.cl, T.nL, cf.l, la, us, rfl, .inl (SqL.of hla), _, _, rfl, rfl, ?_⟩
    refine ⟨((n + lines.length : Nat) : Int), congrArg (fun z => [V.int z]) (by rw [hu.1]; omega), by omega, by omega, ?_⟩
    refine for_range (fun i σ Hc => Same H Hc ∧ (∀ j, j < i → ¬ constC lines n st j < 0) ∧ ∃ x1 : Option V, σ = [some (.ref x), x1]) ⟨Same.refl H, fun j hj => by omega, _, rfl⟩ ?_ ?_
    · rintro i σ Hc hi ⟨sm, h0, x1, rfl⟩
      have hi : i < n + lines.length := by omega
      have e : (0 : Int) + (i : Nat) = (i : Nat) := by omega
      rw [e]
      refine ⟨_, rfl, x, dx, _, rfl, sm _ _ hx, cf.no _ ne_fld ne_fld ne_fld ne_fld ne_fld, _, rfl, ?_⟩
      refine ⟨x, g, n, m, i, lines, st, rfl, hc.same sm, I, W, hi, fun H1 s1 => ?_⟩
      refine ⟨_, _, rfl, rfl, _, rfl, ite2 (fun z => ?_) (fun z => ?_)⟩
      · have z : constC lines n st i < 0 := of_decide_eq_true z
        refine ⟨_, rfl, ?_⟩
        have := q H1 (sm.trans s1)
        rw [show belowC lines n st = some i from by
          unfold belowC
          rw [List.find?_range_eq_some]
          exact ⟨decide_eq_true z, List.mem_range.mpr hi, fun j hj => by rw [decide_eq_false (h0 j hj)]; rfl⟩] at this
        exact this
      · have z : ¬ constC lines n st i < 0 := fun y => z (decide_eq_true y)
        refine ⟨sm.trans s1, fun j hj => ?_, _, rfl⟩
        by_cases y : j = i
        · rw [y]; exact z
        · exact h0 j (by omega)
    · rintro σ Hc ⟨sm, h0, x1, rfl⟩
      have := q Hc sm
      rw [show belowC lines n st = none from by
        unfold belowC
        rw [List.find?_eq_none]
        intro j hj
        rw [decide_eq_false (h0 j (by have := List.mem_range.mp hj; omega))]
        decide] at this
      exact this
end
end FR
set_option Elab.async false
set_option linter.all false
set_option maxRecDepth 100000
set_option maxHeartbeats 4000000
/-! Corner: way_out, move -/
namespace L2
open PySem PySem.Spec PyProof.Rows
/-- as Fun, the code object known -/
structure FunC (K : PySem.W.Frag) (x qual : Str) (st : Stmt) (f : Addr) (fd : FuncData) (c : Addr) : Prop where
  ex : ∃ (oc : Value) (od : Option Addr) (kV doc pm : Value) (an : Option Addr) (ct : Value) (osl : Array (Option Value)),
    fd = PySem.W.fnOf x qual (defArgs st) (defBody st) (defScope st) .none kV doc pm an (.ref c) ct ∧ K.lookup f = some ⟨oc, od, .func fd, osl⟩ ∧ PySem.W.codeIn K (.ref c) qual = true
  kp : PySem.W.keepIn K (.ref f) = true
section
variable {P : Program} {w : World} {K : PySem.W.Frag} {mg : Str → Option Value} {base : Heap}
theorem FunC.fun_ {x qual : Str} {st : Stmt} {f c : Addr} {fd : FuncData} (F : FunC K x qual st f fd c) : Fun K x qual st f fd := by
  obtain ⟨oc, od, kV, doc, pm, an, ct, osl, e, lk, hcd⟩ := F.ex
  exact ⟨⟨oc, od, kV, doc, pm, an, _, ct, osl, e, lk, hcd⟩, F.kp⟩
theorem FunC.ok {x qual : Str} {st : Stmt} {f c : Addr} {fd : FuncData} {N ps : List Str} {k : Nat} {sp : Sp} (F : FunC K x qual st f fd c) (S : FnScope N ps (defScope st)) (len : ∀ vs H Q E, sp vs H Q E → vs.length = ps.length)
    (hbody : ∀ (A : Around) (outer : List Env) (s : Shared) (H : Hp) (vs : List V) (Q : VK) (E : XK), Room k (A.deeper (envOfC qual (defScope st) s.heap.objs.size f (.ref c))) → sp vs H Q E →
      ∃ t, PSs (cxOf CX0 P w K mg base N qual (defScope st) f (.ref c) A outer s H E).nox (defBody st) t ∧ t { nx := fun _ H' => Q .non H', rt := Q } (start N vs) H) : FnOk P w K mg base CX0 (k + 1) f fd ps sp := by
  obtain ⟨oc, od, kV, doc, pm, an, ct, osl, rfl, lk, hcd⟩ := F.ex
  refine fn_of lk hcd S len fun A outer s H vs Q E hr hsp => ?_
  obtain ⟨t, h, q⟩ := hbody A outer s H vs Q E hr hsp
  exact ⟨t, h.nox, q⟩
theorem fun_mkC {x qual : Str} {st : Stmt} {f c : Addr} {oc : Value} {od an : Option Addr} {osl : Array (Option Value)} {kV doc pm ct : Value} (l : K.lookup f = some ⟨oc, od, .func (PySem.W.fnOf x qual (defArgs st) (defBody st) (defScope st) .none kV doc pm an (.ref c) ct), osl⟩)
    (h : PySem.W.codeIn K (.ref c) qual = true) (k : PySem.W.keepIn K (.ref f) = true) : FunC K x qual st f (PySem.W.fnOf x qual (defArgs st) (defBody st) (defScope st) .none kV doc pm an (.ref c) ct) c := ⟨⟨oc, od, kV, doc, pm, an, ct, osl, rfl, l, h⟩, k⟩
end
end L2
namespace FR
open PySem PySem.Spec PyProof.Rows L2 RF CN LK LamX NdefX
abbrev sKw : Stmt := inClass sCor 4
abbrev NKw : List Str := ["self", "line", "ways", "at"]
theorem scKw : FnScope NKw ["self", "line"] (defScope sKw) := ⟨rfl, rfl, rfl, by decide +kernel, rfl, by decide +kernel, by decide +kernel⟩
abbrev sKm : Stmt := inClass sCor 5
abbrev NKm : List Str := ["self", "number", "line", "at", "moved", "row", "before"]
theorem scKm : FnScope NKm ["self", "number", "line", "at"] (defScope sKm) := ⟨rfl, rfl, rfl, by decide +kernel, rfl, by decide +kernel, by decide +kernel⟩

section
variable {P : Program} {w : World} {K : PySem.W.Frag} {mg : Str → Option Value} {base : Heap} {D : Addr}
def qLam : Str := "Corner.way_out.<locals>.<lambda>"
def spLm (D : Addr) : List (Option V) → List V → Hp → VK → Prop := fun ws vs H Q => ∃ (x g : Addr) (n a : Nat) (lines : List (List Int)) (st : Co), ws = [some (.ref x)] ∧ vs = [.int (a : Nat)] ∧ CoH D g H x lines n st ∧ st.gaps.length = n ∧ 1 ≤ a ∧ a ≤ n ∧ Q (.int (gapC st a : Nat)) H
theorem CoH.extN {D g : Addr} {H H' : Hp} {x : Addr} {lines : List (List Int)} {w : Nat} {st : Co} (h : CoH D g H x lines w st) (s : ExtN H H') : CoH D g H' x lines w st := by
  obtain ⟨dx, fs, la, ra, h1, h2, ⟨n3, vs, e3, z3⟩, h4, ⟨n5, us, e5, z5⟩⟩ := h
  have k : ∀ {b : Addr} {xs : List V}, H b = some (.lst xs) → H' b = some (.lst xs) := fun e => s _ _ e fun _ z => by cases z
  exact ⟨dx, fs, la, ra, s _ _ h1 (fun _ z => by cases z), h2, ⟨n3, vs, k e3, z3.imp fun _ _ ⟨q, e, n, t⟩ => ⟨q, e, n, k t⟩⟩, k h4, ⟨n5, us, k e5, z5.imp fun _ _ ⟨q, e, n, t⟩ => ⟨q, e, n, k t⟩⟩⟩
def spKw (D : Addr) (Tt : List (Addr × Str)) : Sp := fun vs H Q _ => ∃ (x g l : Addr) (n m : Nat) (lines : List (List Int)) (st : Co) (line : List Int), vs = [.ref x, .ref l] ∧ CoH D g H x lines n st ∧ CI lines n st ∧ Wid lines n m ∧ H l = some (.lst (line.map V.int)) ∧ line.length = n + 1 ∧ Tabs Tt H ∧
  ∀ H', ExtN H H' → Tabs Tt H' → Q (wayV (wayC n st line)) H'
theorem ok_kw {f c Pt : Addr} {Tt : List (Addr × Str)} {fd : FuncData} (F : FunC K "way_out" "Corner.way_out" sKw f fd c) (T : TxtC6 K mg D) (B : TabB base mg c Pt) (mT : (Pt, qLam) ∈ Tt) (uT : ∀ p ∈ Tt, p.1 = Pt → p.2 = qLam) : FnOk P w K mg base CX0 3 f fd ["self", "line"] (spKw D Tt) := by
  refine F.ok scKw (fun vs H Q E h => ?_) (fun A outer s H vs Q E hr h => ?_)
  · obtain ⟨x, g, l, n, m, lines, st, line, rfl, _⟩ := h
    rfl
  · obtain ⟨x, g, l, n, m, lines, st, line, rfl, hc, I, W, hl, ll, tb, q⟩ := h
    refine ⟨_, (pss_cons (ps_setLc (i := 2) (own := [("at", 3)]) (g := (gName 3)) rfl scKw.nd rfl rfl (sw_true rfl rfl rfl (by decide +kernel)) (pi_range2 (by rfl) T.range (pa_cons pe_int (pa_cons (pe_op op_add (pe_fld (pv 0) rfl) pe_int) pa_nil))) (blkOk_by (N := NKw) (sc := (defScope sKw)) (by decide +kernel)) (fun _ _ _ _ _ => (pg_name (i := 3) scKw.nd rfl (.inl rfl))) (fun _ _ _ _ _ => (pts_one (pt_cmpR op_gt (pe_ix (ix_listK (K := K) rfl) (pv 1) (pv 3) (fun _ _ => rfl)) pe_int (nomark _)))) (fun _ _ _ _ _ => (pv 3)))
      (pss_cons (ps_if (pt_cmpR op_eq (pe_callB call_len_seq (by rfl) T.len PySem.boot_len (pa_cons (pv 2) pa_nil)) pe_int (nomark _)) (pss_one (ps_ret pe_non)) pss_nil)
      (pss_one (ps_ret (pe_minLam (T := Tt) (c := c) (P := Pt) (k := 0) (N := ["at", "self"]) (fr := ["self"]) (js := [0]) (sp := spLm D) rfl (by rfl) T.min (pa_cons (pv 2) pa_nil) B rfl mT uT rfl hr (nscope_by (by decide +kernel)) (by show ndefB (defScope sKw) _ _ = true; decide +kernel) rfl (fun _ _ _ _ _ _ => rfl) (fun f2 c2 A2 outer2 s2 H2 vs2 ws2 Q2 hr2 hw2 hv2 h2 => ?lam)))))), ?main⟩
    case lam =>
      obtain ⟨x, g, n, a, lines, st, rfl, rfl, hc, gl, a1, a2, q⟩ := h2
      obtain ⟨dx, fs, la, ra, hx, cf, _, hg, _⟩ := hc
      refine ⟨_, pe_ix ix_list (pe_fld (pv 1) rfl) (pe_op op_sub (pv 0) pe_int) (fun _ _ => rfl), ?_⟩
      obtain ⟨z, hz⟩ : ∃ z, st.gaps[a - 1]? = some z := ⟨_, List.getElem?_eq_getElem (by omega)⟩
      refine ⟨_, rfl, x, D, dx, _, _, rfl, hx, T.cl, T.nG, cf.g, _, rfl, _, _, rfl, rfl, g, _, _, _, rfl, rfl, SqL.of hg, (by rw [show ((a : Nat) : Int) - 1 = ((a - 1 : Nat) : Int) by omega]; exact atI_nat (by rw [List.getElem?_map, hz]; rfl)), ?_⟩
      unfold gapC at q
      rw [List.getD_eq_getElem?_getD, hz] at q
      exact q
    obtain ⟨dx, fs, la, ra, hx, cf, ⟨lag, us, hla, hu⟩, hg, ⟨rag, ws, hra, hw⟩⟩ := id hc
    have w12 := W.w12
    refine ⟨_, rfl, x, D, dx, _, _, rfl, hx, T.cl, T.nW, cf.w, _, _, rfl, rfl, 1, _, rfl, ⟨by decide, by decide, by omega, by omega⟩, fun R hR => ?_⟩
    have hN : ((n : Int) + 1 - 1).toNat = n := by omega
    rw [hN]
    let wy : Nat → List Nat := fun i => (((List.range n).take i).map (· + 1)).filter fun a => decide (0 < ent line a)
    refine lc_range (lo := 1) (n := n) (fun i Hc => Same H Hc ∧ Hc R = some (.lst (gV (wy i)))) ⟨same_new hR, upd_same⟩ ?_ ?_
    · rintro i Hc hi ⟨sm, hRc⟩
      have e1 : (1 : Int) + (i : Nat) = ((i + 1 : Nat) : Int) := by omega
      rw [e1]
      have st_ : wy (i + 1) = wy i ++ (if 0 < ent line (i + 1) then [i + 1] else []) := by
        show (((List.range n).take (i + 1)).map (· + 1)).filter _ = _
        rw [take_snoc (x := i) (by rw [List.getElem?_range hi]), List.map_append, List.filter_append]
        congr 1
        show List.filter _ [i + 1] = _
        rw [List.filter_cons]
        by_cases z : 0 < ent line (i + 1)
        · rw [if_pos (decide_eq_true z), if_pos z]; rfl
        · rw [if_neg (by rw [decide_eq_false z]; decide), if_neg z]; rfl
      refine ⟨rfl, _, rfl, _, rfl, l, _, _, _, rfl, rfl, SqL.of (sm _ _ hl), atI_ent (by omega), _, _, rfl, rfl, _, rfl, ?_⟩
      by_cases z : 0 < ent line (i + 1)
      · rw [decide_eq_true z]
        rw [if_pos z] at st_
        refine ⟨_, rfl, _, hRc, small1000 ?_, same_upd hR sm, ?_⟩
        · rw [List.length_map]
          refine Nat.le_trans (List.length_filter_le _ _) ?_
          rw [List.length_map, List.length_take, List.length_range]; omega
        · rw [upd_same, st_]; unfold gV; rw [List.map_append]; rfl
      · rw [decide_eq_false z]
        rw [if_neg z, List.append_nil] at st_
        exact ⟨sm, by rw [st_]; exact hRc⟩
    · rintro Hc ⟨sm, hRc⟩
      have wall : wy n = waysC n line := by
        show (((List.range n).take n).map (· + 1)).filter _ = _
        rw [List.take_of_length_le (by rw [List.length_range]; exact Nat.le_refl _)]; rfl
      rw [wall] at hRc
      clear wall
      clear wy
      have tb1 : Tabs Tt Hc := tb.ext sm
      have eN : gV (waysC n line) = ((waysC n line).map fun a => ((a : Nat) : Int)).map V.int := by
        unfold gV
        rw [List.map_map]; rfl
      refine ⟨_, rfl, R, _, rfl, .inl (SqL.of hRc), rfl, _, rfl, ite2 (fun z => ?_) (fun z => ?_)⟩
      · have z : waysC n line = [] := by
          have y := of_decide_eq_true z
          injection y with y
          rw [List.length_map] at y
          exact List.eq_nil_of_length_eq_zero (by omega)
        have := q Hc (ExtN.of sm) tb1
        unfold wayC at this
        rw [z] at this
        exact this
      · have z : waysC n line ≠ [] := fun y => z (by rw [y]; rfl)
        rw [eN] at hRc
        refine ⟨_, rfl, tb1, R, (waysC n line).map fun a => ((a : Nat) : Int), fun i => (gapC st i.toNat : Nat), rfl, SqL.of hRc, by rw [List.length_map]; exact List.length_pos_iff.mpr z, fun H2 ex tb2 => ⟨fun k mk => ?_, fun k hk => ?_⟩⟩
        · obtain ⟨a, ma, rfl⟩ := List.mem_map.mp mk
          obtain ⟨a1, a2, _⟩ := mem_ways.mp ma
          exact ⟨x, g, n, a, lines, st, rfl, rfl, (hc.same sm).extN ex, I.gl, a1, a2, rfl, rfl⟩
        · obtain ⟨mk, lk⟩ := hk
          obtain ⟨a, ma, rfl⟩ := List.mem_map.mp mk
          have e := way_is (st := st) I.inj ma fun b mb => by
            have := lk _ (List.mem_map.mpr ⟨b, mb, rfl⟩)
            have := Int.ofNat_le.mp this
            exact this
          have := q H2 ((ExtN.of sm).trans ex) tb2
          rw [e] at this
          exact this
/-! ### move -/
theorem cut_takeI {xs : List V} {n : Nat} (h : n ≤ xs.length) : cutV xs none (some (n : Int)) = xs.take n := by
  unfold cutV
  rw [HT.sIx_nat, Nat.min_eq_left h]
  show (xs.drop (HT.sIx xs.length 0 none)).take (n - HT.sIx xs.length 0 none) = _
  rw [HT.sIx_none]; rfl
theorem cut_dropI {xs : List V} {n : Nat} (h : n ≤ xs.length) : cutV xs (some (n : Int)) none = xs.drop n := by
  unfold cutV
  rw [HT.sIx_nat, HT.sIx_none, Nat.min_eq_left h]
  exact List.take_of_length_le (by rw [List.length_drop]; exact Nat.le_refl _)
theorem sl_listK {X : Cx} {K : PySem.W.Frag} (hK : X.K = K) : SlR X (rSlL K) := by
  subst hK
  exact sl_list
/-- a row of integers that is neither at g nor at D -/
def RowN (g D : Addr) (H : Hp) (v : V) (r : List Int) : Prop := ∃ q, v = .ref q ∧ q ≠ g ∧ q ≠ D ∧ H q = some (.lst (r.map V.int))
theorem gr_row {g D : Addr} : Gr D (RowN g D) := ⟨fun _ _ _ _ s ⟨q, e, n1, n2, t⟩ => ⟨q, e, n1, n2, s _ _ t⟩, fun _ _ _ _ _ _ ⟨q, e, n1, n2, t⟩ => ⟨q, e, n1, n2, by rw [upd_ne n2]; exact t⟩⟩
def spKm (D : Addr) : Sp := fun vs H Q _ => ∃ (x g l : Addr) (n m v a : Nat) (lines : List (List Int)) (st : Co), vs = [.ref x, .int (v : Nat), .ref l, .int (a : Nat)] ∧ CoH D g H x lines n st ∧ CI lines n st ∧ Wid lines n m ∧ H l = some (.lst ((lineC lines n st v).map V.int)) ∧ l ≠ g ∧ v < n + lines.length ∧ 1 ≤ a ∧ a ≤ n ∧
  ∀ H', CoH D g H' x lines n (moveC st v (lineC lines n st v) a) → (∀ q o, q ≠ x → q ≠ g → H q = some o → H' q = some o) → Q .non H'
theorem ok_km {f : Addr} {fd : FuncData} (F : Fun K "move" "Corner.move" sKm f fd) (T : TxtC6 K mg D) (gClr : Glo P w K mg base "cleared_by" 1 ["rows", "line", "at", "divisor"] spClr) : FnOk P w K mg base CX0 2 f fd ["self", "number", "line", "at"] (spKm D) := by
  refine F.ok scKm (fun vs H Q E h => ?_) (fun cdv A outer s H vs Q E hr h => ?_)
  · obtain ⟨x, g, l, n, m, v, a, lines, st, rfl, _⟩ := h
    rfl
  · obtain ⟨x, g, l, n, m, v, a, lines, st, rfl, hc, I, W, hl, lg, hv, a1, a2, q⟩ := h
    refine ⟨_, (pss_cons (ps_set (i := 4) scKm.nd rfl (Or.inl rfl) (pe_call gClr.G (hr.mono (by decide)) (by rfl) gClr.m gClr.k gClr.b .nil pass0 (pa_cons (pe_fld (pv 0) rfl) (pa_cons (pv 2) (pa_cons (pv 3) (pa_cons (pe_fld (pv 0) rfl) pa_nil))))))
      (pss_cons (ps_fld (pv 0) (pe_lc (own := [("row", 5), ("before", 6)]) (g := (gTup K 2 (gCons (gName 5) (gCons (gName 6) gNil)))) (tt := tYes) rfl scKm.nd (pi_zip (by rfl) T.zip (pa_cons (pv 4) (pa_cons (pe_fld (pv 0) rfl) pa_nil))) (blkOk_by (N := NKm) (sc := (defScope sKm)) (by decide +kernel)) (fun _ _ _ _ _ => (pg_tupK (K := K) rfl rfl (pgs_cons (pg_name (i := 5) scKm.nd rfl (.inl rfl)) (pgs_cons (pg_name (i := 6) scKm.nd rfl (.inl rfl)) pgs_nil)))) (fun _ _ _ _ _ => pts_nil) (fun _ _ _ _ _ => (pe_op op_cat (pe_op op_cat (pe_slice (sl_listK (K := K) rfl) (pv 5) po_none (po_some (pv 3))) (pe_lst (pa_cons (pe_ix (ix_listK (K := K) rfl) (pv 6) (pv 3) (fun _ _ => rfl)) pa_nil))) (pe_slice (sl_listK (K := K) rfl) (pv 5) (po_some (pe_op op_add (pv 3) pe_int)) po_none)))) rfl)
      (pss_cons (ps_asg (pv 1) (pg_sub (pe_fld (pv 0) rfl) (pe_op op_sub (pv 3) pe_int) set_list))
      (pss_one (ps_fld (pv 0) (pe_ix ix_list (pv 2) (pv 3) (fun _ _ => rfl)) rfl))))), ?_⟩
    obtain ⟨dx, fs, la, ra, hx, cf, hla, hg, hra⟩ := id hc
    have w12 := W.w12
    have m9 := W.m9
    have m0 := W.m0
    obtain ⟨ll, _, _⟩ := I.line W.len hv
    have d0 : st.d ≠ 0 := by have := I.dp; omega
    refine ⟨_, rfl, x, D, dx, _, _, rfl, hx, T.cl, T.nR, cf.r, _, rfl, _, rfl, _, rfl, x, D, dx, _, _, rfl, hx, T.cl, T.nD, cf.d, ?_⟩
    refine ⟨ra, l, st.rows, lineC lines n st v, a, st.d, n + 1, m, m, rfl, hra.lm, hl, by rw [I.rl]; omega, fun r hr => ?_, ll, (W.dt st I).2 v hv, by omega, by omega, d0, (W.dt st I).1, by omega, by omega, m0, m0, fun y H1 hy s1 => ?_⟩
    · obtain ⟨i, hi, e⟩ := List.getElem_of_mem hr
      have := ci_row I W (i := i) (by rw [← I.rl]; exact hi)
      rw [List.getD_eq_getElem?_getD, List.getElem?_eq_getElem hi] at this
      exact ⟨I.rw_ r hr, by rw [← e]; exact this⟩
    obtain ⟨us, hy1, hu⟩ := id hy
    obtain ⟨rag, ws, hra0, hw0⟩ := id hra
    have hx1 := s1 _ _ hx
    have cl : (clearedBy st.rows (lineC lines n st v) a st.d).length = n := by unfold clearedBy; rw [List.length_map, I.rl]
    have crow : ∀ r ∈ clearedBy st.rows (lineC lines n st v) a st.d, r.length = n + 1 := fun r hr => by
      unfold clearedBy at hr
      obtain ⟨r0, hr0, e⟩ := List.mem_map.mp hr
      rw [← e, List.length_zipWith, I.rw_ r0 hr0, ll, Nat.min_self]
    refine ⟨_, rfl, _, rfl, x, D, dx, _, _, rfl, hx1, T.cl, T.nR, cf.r, y, ra, _, _, rfl, SqL.of hy1, SqL.of (s1 _ _ hra0), fun R hR => ?_⟩
    have Rg : R ≠ g := fun z => by rw [z, s1 _ _ hg] at hR; cases hR
    refine lz_g (cs := List.zipWith (swapR a) (clearedBy st.rows (lineC lines n st v) a st.d) st.rows) (gr_row (g := g) (D := R)) (by rw [hu.1, hw0.1, cl, I.rl]) (by rw [hu.1, cl]; omega) (by rw [List.length_zipWith, cl, I.rl, hu.1, cl, Nat.min_self]) hR (SqL.of hy1) (SqL.of (s1 _ _ hra0)) (fun _ _ => rfl) ?_ ?_
    · intro i b1 b2 cc H2 Q2 h1 h2 hcc s2 hD q2
      obtain ⟨r, hr1, p, rfl, hp⟩ := hu.2 i b1 h1
      obtain ⟨r2, hr2, p2, rfl, np2, hp2⟩ := hw0.2 i b2 h2
      have ec := zw_get hr1 hr2 hcc
      subst ec
      have rl := crow r (List.mem_of_getElem? hr1)
      have rl2 := I.rw_ r2 (List.mem_of_getElem? hr2)
      obtain ⟨gs, hD⟩ := hD
      have hp' := s2 _ _ hp
      have hp2' := s2 _ _ (s1 _ _ hp2)
      have hg2 := s2 _ _ (s1 _ _ hg)
      refine ⟨_, rfl, _, rfl, _, rfl, p, _, rfl, SqL.of hp', fun l1 hl1 => ?_⟩
      rw [cut_takeI (by rw [List.length_map]; omega)]
      have t1 : Same H2 (upd H2 l1 (.lst ((r.map V.int).take a))) := same_new hl1
      have e1 : upd H2 l1 (.lst ((r.map V.int).take a)) l1 = some (.lst ((r.take a).map V.int)) := by rw [upd_same, List.map_take]
      generalize upd H2 l1 _ = H3 at t1 e1 ⊢
      refine ⟨_, rfl, _, rfl, p2, _, a, _, rfl, rfl, SqL.of (t1 _ _ hp2'), atI_ent (by omega), small1000 (by show 0 ≤ 1000; decide), fun l2 hl2 => ?_⟩
      have t2 : Same H3 (upd H3 l2 (.lst [.int (ent r2 a)])) := same_new hl2
      have e2 : upd H3 l2 (.lst [.int (ent r2 a)]) l2 = some (.lst [.int (ent r2 a)]) := upd_same
      have e12 := t2 _ _ e1
      have t12 := t1.trans t2
      generalize upd H3 l2 _ = H4 at t12 e2 e12 ⊢
      refine ⟨l1, l2, _, _, rfl, rfl, e12, e2, Nat.le_of_lt (small1000 (by rw [List.length_map, List.length_take]; show _ + 1 ≤ 1000; omega)), fun l3 hl3 => ?_⟩
      have t3 : Same H4 (upd H4 l3 (.lst ((r.take a).map V.int ++ [.int (ent r2 a)]))) := same_new hl3
      have e3 : upd H4 l3 (.lst ((r.take a).map V.int ++ [.int (ent r2 a)])) l3 = some (.lst ((r.take a ++ [ent r2 a]).map V.int)) := by rw [upd_same, List.map_append]; rfl
      have t13 := t12.trans t3
      generalize upd H4 l3 _ = H5 at t13 e3 ⊢
      refine ⟨_, rfl, _, rfl, _, _, rfl, rfl, _, rfl, p, _, rfl, SqL.of (t13 _ _ hp'), fun l4 hl4 => ?_⟩
      rw [show ((a : Nat) : Int) + 1 = ((a + 1 : Nat) : Int) by omega, cut_dropI (by rw [List.length_map]; omega)]
      have t4 : Same H5 (upd H5 l4 (.lst ((r.map V.int).drop (a + 1)))) := same_new hl4
      have e4 : upd H5 l4 (.lst ((r.map V.int).drop (a + 1))) l4 = some (.lst ((r.drop (a + 1)).map V.int)) := by rw [upd_same, List.map_drop]
      have e34 := t4 _ _ e3
      have t14 := t13.trans t4
      generalize upd H5 l4 _ = H6 at t14 e4 e34 ⊢
      refine ⟨l3, l4, _, _, rfl, rfl, e34, e4, Nat.le_of_lt (small1000 (by rw [List.length_map, List.length_map, List.length_append, List.length_take, List.length_drop]; show _ + 1 + _ ≤ 1000; omega)), fun l5 hl5 => ?_⟩
      refine q2 (.ref l5) _ (t14.trans (same_new hl5)) ⟨l5, rfl, fun z => ?_, fun z => ?_, ?_⟩
      · rw [z, t14 _ _ hg2] at hl5; cases hl5
      · rw [z, t14 _ _ hD] at hl5; cases hl5
      · rw [upd_same]
        unfold swapR
        simp only [List.map_append]
    · intro H2 us2 s2 hR2 hag
      have s12 := s1.trans s2
      have hx2 := s12 _ _ hx
      have hg2 := s12 _ _ hg
      have hl2 := s12 _ _ hl
      have xR : x ≠ R := fun z => by rw [← z, hx1] at hR; cases hR
      refine ⟨_, rfl, x, D, dx, _, rfl, hx2, T.cl, T.nR, (by have := cf.few; omega), ?_⟩
      have xg : x ≠ g := fun z => by rw [z, hg] at hx; cases hx
      have k3 : ∀ q o, q ≠ x → H2 q = some o → upd H2 x (.ins D dx (putF "rows" (.ref R) fs)) q = some o := fun q o ne e => by rw [upd_ne ne]; exact e
      have hx3 : upd H2 x (.ins D dx (putF "rows" (.ref R) fs)) x = some (.ins D dx (putF "rows" (.ref R) fs)) := upd_same
      generalize upd H2 x _ = H3 at k3 hx3 ⊢
      have gl3 : (putF "rows" (.ref R) fs).lookup ("gaps" : Str) = some (.ref g) := by rw [lookup_putF, if_neg ne_fld]; exact cf.g
      have hg3 := k3 _ _ (Ne.symm xg) hg2
      refine ⟨_, rfl, _, rfl, x, D, dx, _, _, rfl, hx3, T.cl, T.nG, gl3, _, rfl, _, _, rfl, rfl, g, _, _, a - 1, rfl, rfl, hg3, ?_, ?_⟩
      · rw [List.length_map, I.gl]
        unfold ixN
        rw [if_pos (by omega), if_pos (by omega)]
        congr 1
        omega
      have k4 : ∀ q o, q ≠ g → H3 q = some o → upd H3 g (.lst ((gV st.gaps).set (a - 1) (.int (v : Nat)))) q = some o := fun q o ne e => by rw [upd_ne ne]; exact e
      have hg4 : upd H3 g (.lst ((gV st.gaps).set (a - 1) (.int (v : Nat)))) g = some (.lst (gV (st.gaps.set (a - 1) v))) := by
        rw [upd_same]; unfold gV; rw [List.map_set]
      generalize upd H3 g _ = H4 at k4 hg4 ⊢
      have hx4 := k4 _ _ xg hx3
      have lx : l ≠ x := fun z => by rw [z, hx] at hl; cases hl
      have hl4 := k4 _ _ lg (k3 _ _ lx hl2)
      have wd4 : (putF "rows" (.ref R) fs).length ≤ 900 := by rw [putF_len cf.r]; exact cf.few
      refine ⟨_, rfl, _, rfl, l, _, _, _, rfl, rfl, SqL.of hl4, atI_ent (by omega), _, rfl, x, D, dx, _, rfl, hx4, T.cl, T.nD, by omega, ?_⟩
      have k5 : ∀ q o, q ≠ x → q ≠ g → H2 q = some o → upd H4 x (.ins D dx (putF "divisor" (.int (ent (lineC lines n st v) a)) (putF "rows" (.ref R) fs))) q = some o := fun q o n1 n2 e => by rw [upd_ne n1]; exact k4 _ _ n2 (k3 _ _ n1 e)
      refine q _ ⟨dx, _, la, R, upd_same, ⟨?_, ?_, ?_, ?_, ?_, ?_, fun m h1 h2 h3 h4 h5 => ?_⟩, ?_, ?_, ?_⟩ fun q o n1 n2 e => k5 q o n1 n2 (s12 _ _ e)
      · rw [lookup_putF, if_neg ne_fld, lookup_putF, if_neg ne_fld]; exact cf.l
      · rw [lookup_putF, if_neg ne_fld, lookup_putF, if_neg ne_fld]; exact cf.w
      · rw [lookup_putF, if_neg ne_fld, lookup_putF, if_neg ne_fld]; exact cf.g
      · rw [lookup_putF, if_neg ne_fld, lookup_putF, if_pos rfl]
      · rw [lookup_putF, if_pos rfl]; rfl
      · have ld : (putF "rows" (.ref R) fs).lookup ("divisor" : Str) = some (.int st.d) := by rw [lookup_putF, if_neg ne_fld]; exact cf.d
        rw [putF_len ld]; exact wd4
      · rw [lookup_putF, if_neg h5, lookup_putF, if_neg h4]; exact cf.no m h1 h2 h3 h4 h5
      · obtain ⟨n3, vs3, e3, z3⟩ := hla
        have lax : la ≠ x := fun z => by rw [z, hx] at e3; cases e3
        refine ⟨n3, vs3, k5 _ _ lax n3 (s12 _ _ e3), z3.imp fun _ _ ⟨z, e, n, t⟩ => ⟨z, e, n, k5 _ _ (fun y => by rw [y, hx] at t; cases t) n (s12 _ _ t)⟩⟩
      · rw [upd_ne (Ne.symm xg)]; exact hg4
      · refine ⟨Rg, us2, k5 _ _ (Ne.symm xR) Rg hR2, hag.imp fun _ _ ⟨z, e, n1, n2, t⟩ => ⟨z, e, n1, k5 _ _ (fun y => by rw [y, hx2] at t; cases t) n1 t⟩⟩
end
end FR
set_option Elab.async false
set_option linter.all false
set_option maxRecDepth 100000
set_option maxHeartbeats 4000000
/-! _factors, corner_or_bar -/
namespace FR
open PySem PySem.Spec PyProof.Rows L2 RF CN LK LamX NdefX
abbrev sKa : Stmt := top 13
abbrev NKa : List Str := ["corner", "number", "line", "factors", "told", "gap", "factor"]
theorem scKa : FnScope NKa ["corner", "number", "line"] (defScope sKa) := ⟨rfl, rfl, rfl, by decide +kernel, rfl, by decide +kernel, by decide +kernel⟩
abbrev sKb : Stmt := top 12
abbrev NKb : List Str := ["lines", "width", "corner", "number", "line", "at"]
theorem scKb : FnScope NKb ["lines", "width"] (defScope sKb) := ⟨rfl, rfl, rfl, by decide +kernel, rfl, by decide +kernel, by decide +kernel⟩

section
variable {P : Program} {w : World} {K : PySem.W.Frag} {mg : Str → Option Value} {base : Heap} {D : Addr}
/-- a pair of a place and an integer -/
def NPr (H : Hp) (v : V) (c : Nat × Int) : Prop := ∃ q, v = .ref q ∧ H q = some (.tup [.int (c.1 : Nat), .int c.2])
theorem NPr.same {H H' : Hp} {v : V} {c : Nat × Int} (h : NPr H v c) (s : Same H H') : NPr H' v c := by
  obtain ⟨q, e, t⟩ := h
  exact ⟨q, e, s _ _ t⟩
theorem gr_npr {D : Addr} : Gr D NPr := ⟨fun _ _ _ _ s h => h.same s, fun _ _ _ _ _ hD ⟨q, e, t⟩ => ⟨q, e, tup_updl t hD⟩⟩
def spKa (D : Addr) : Sp := fun vs H Q _ => ∃ (x g l : Addr) (n m v : Nat) (lines : List (List Int)) (st : Co), vs = [.ref x, .int (v : Nat), .ref l] ∧ CoH D g H x lines n st ∧ CI lines n st ∧ Wid lines n m ∧ H l = some (.lst ((lineC lines n st v).map V.int)) ∧ v < n + lines.length ∧
  ∀ p H', H' p = some (.lst ((factC n lines.length st v (lineC lines n st v)).map V.int)) → Same H H' → Q (.ref p) H'
theorem ok_ka {f : Addr} {fd : FuncData} (F : Fun K "_factors" "_factors" sKa f fd) (T : TxtC6 K mg D) : FnOk P w K mg base CX0 1 f fd ["corner", "number", "line"] (spKa D) := by
  refine F.ok scKa (fun vs H Q E h => ?_) (fun cdv A outer s H vs Q E hr h => ?_)
  · obtain ⟨x, g, l, n, m, v, lines, st, rfl, _⟩ := h
    rfl
  · obtain ⟨x, g, l, n, m, v, lines, st, rfl, hc, I, W, hl, hv, q⟩ := h
    refine ⟨_, (pss_cons (ps_set (i := 3) scKa.nd rfl (Or.inl rfl) (pe_op op_rep (pe_lst (pa_cons pe_int pa_nil)) (pe_callB call_len_seq (by rfl) T.len PySem.boot_len (pa_cons (pe_fld (pv 0) rfl) pa_nil))))
      (pss_cons (ps_set (i := 4) scKa.nd rfl (Or.inl rfl) (pe_lst (pa_cons (pe_tup (pa_cons (pv 1) (pa_cons (pe_fld (pv 0) rfl) pa_nil))) pa_nil)))
      (pss_cons (ps_expr (pe_bm PySem.F.plainAttrs_list PySem.F.slot_list_extend PySem.F.type_list_extend mt_extend (pv 4) (pa_cons (pe_lc (own := [("gap", 5), ("factor", 6)]) (g := (gTup K 2 (gCons (gName 5) (gCons (gName 6) gNil)))) (tt := tYes) rfl scKa.nd (pi_zip (by rfl) T.zip (pa_cons (pe_fld (pv 0) rfl) (pa_cons (pe_slice sl_list (pv 2) (po_some pe_int) po_none) pa_nil))) (blkOk_by (N := NKa) (sc := (defScope sKa)) (by decide +kernel)) (fun _ _ _ _ _ => (pg_tupK (K := K) rfl rfl (pgs_cons (pg_name (i := 5) scKa.nd rfl (.inl rfl)) (pgs_cons (pg_name (i := 6) scKa.nd rfl (.inl rfl)) pgs_nil)))) (fun _ _ _ _ _ => pts_nil) (fun _ _ _ _ _ => (pe_tup (pa_cons (pv 5) (pa_cons (pe_un un_neg (pv 6)) pa_nil))))) pa_nil)))
      (pss_cons (ps_for PassesOwn.never rfl (pi_list (pv 4)) (pg_tup (by rfl) (pgs_cons (pg_name (i := 5) scKa.nd rfl (.inl rfl)) (pgs_cons (pg_name (i := 6) scKa.nd rfl (.inl rfl)) pgs_nil)))
        (pss_one (ps_if (pt_cmpR op_ge (pv 5) (pe_fld (pv 0) rfl) (nomark _)) (pss_one (ps_asg (pv 6) (pg_sub (pv 3) (pe_op op_sub (pv 5) (pe_fld (pv 0) rfl)) set_list))) pss_nil)))
      (pss_one (ps_ret (pv 3))))))), ?_⟩
    obtain ⟨dx, fs, la, ra, hx, cf, ⟨lag, us, hla, hu⟩, hg, hra⟩ := id hc
    have w12 := W.w12
    have few := W.few
    obtain ⟨ll, _, _⟩ := I.line W.len hv
    generalize eL : lineC lines n st v = line at *
    refine ⟨small1000 (by show 0 ≤ 1000; decide), fun l1 hl1 => ?_⟩
    have s1 : Same H (upd H l1 (.lst [.int 0])) := same_new hl1
    have h1 : upd H l1 (.lst [.int 0]) l1 = some (.lst [.int 0]) := upd_same
    generalize upd H l1 _ = H1 at s1 h1 ⊢
    refine ⟨_, rfl, x, D, dx, _, _, rfl, s1 _ _ hx, T.cl, T.nL, cf.l, la, us, rfl, .inl (SqL.of (s1 _ _ hla)), l1, _, _, rfl, rfl, h1, by omega, by rw [hu.1]; omega, Nat.le_of_lt (small1000 (by rw [hu.1]; show 1 * ((lines.length : Nat) : Int).toNat ≤ 1000; omega)), fun fl hfl => ?_⟩
    have s2 : Same H1 (upd H1 fl (.lst (List.replicate ((us.length : Nat) : Int).toNat [V.int 0]).flatten)) := same_new hfl
    have hf2 : upd H1 fl (.lst (List.replicate ((us.length : Nat) : Int).toNat [V.int 0]).flatten) fl = some (.lst ((List.replicate lines.length (0 : Int)).map V.int)) := by
      rw [upd_same, flat_rep, List.map_replicate, hu.1]; rfl
    have s12 := s1.trans s2
    have hf0 : H fl = none := Same.free s1 hfl
    generalize upd H1 fl _ = H2 at s12 hf2 ⊢
    refine ⟨_, rfl, _, rfl, x, D, dx, _, _, rfl, s12 _ _ hx, T.cl, T.nD, cf.d, (by show 2 ≤ sizeLine; decide), fun t0 ht0 => ?_⟩
    have s3 : Same H2 (upd H2 t0 (.tup [.int (v : Nat), .int st.d])) := same_new ht0
    have ht3 : upd H2 t0 (.tup [.int (v : Nat), .int st.d]) t0 = some (.tup [.int (v : Nat), .int st.d]) := upd_same
    have hf3 := s3 _ _ hf2
    have s13 := s12.trans s3
    generalize upd H2 t0 _ = H3 at s13 ht3 hf3 ⊢
    refine ⟨small1000 (by show 0 ≤ 1000; decide), fun tl htl => ?_⟩
    have s4 : Same H3 (upd H3 tl (.lst [.ref t0])) := same_new htl
    have ht4 : upd H3 tl (.lst [.ref t0]) tl = some (.lst [.ref t0]) := upd_same
    have hf4 := s4 _ _ hf3
    have hp4 := s4 _ _ ht3
    have s14 := s13.trans s4
    generalize upd H3 tl _ = H4 at s14 ht4 hf4 hp4 ⊢
    refine ⟨_, rfl, .inl ⟨rfl, _, SqL.of ht4⟩, ?_⟩
    refine ⟨_, rfl, x, D, dx, _, _, rfl, s14 _ _ hx, T.cl, T.nG, cf.g, _, rfl, _, rfl, l, _, rfl, SqL.of (s14 _ _ hl), fun l5 hl5 => ?_⟩
    rw [show (1 : Int) = ((1 : Nat) : Int) from rfl, cut_dropI (by rw [List.length_map]; omega)]
    have s5 : Same H4 (upd H4 l5 (.lst ((line.map V.int).drop 1))) := same_new hl5
    have h5 : upd H4 l5 (.lst ((line.map V.int).drop 1)) l5 = some (.lst ((line.drop 1).map V.int)) := by rw [upd_same, List.map_drop]
    have hf5 := s5 _ _ hf4
    have hp5 := s5 _ _ hp4
    have ht5 := s5 _ _ ht4
    have s15 := s14.trans s5
    generalize upd H4 l5 _ = H5 at s15 h5 hf5 hp5 ht5 ⊢
    refine ⟨g, l5, _, _, rfl, SqL.of (s15 _ _ hg), SqL.of h5, fun R hR => ?_⟩
    have dl : (line.drop 1).length = n := by rw [List.length_drop, ll]; rfl
    refine lz_g (cs := st.gaps.zip ((line.drop 1).map fun x => -x)) (gr_npr (D := R)) (by rw [List.length_map, List.length_map, I.gl, dl]) (by rw [List.length_map, I.gl]; omega) (by rw [List.length_zip, List.length_map, List.length_map, I.gl, dl, Nat.min_self]) hR (SqL.of (s15 _ _ hg)) (SqL.of h5) (fun _ _ => rfl) ?_ ?_
    · intro i b1 b2 cc H6 Q6 g1 g2 hcc s6 _ q6
      rw [List.getElem?_map] at g1
      obtain ⟨z, hz, e1⟩ : ∃ z, st.gaps[i]? = some z ∧ b1 = .int (z : Nat) := by
        cases y : st.gaps[i]? with
        | none => rw [y] at g1; cases g1
        | some z => rw [y] at g1; exact ⟨z, rfl, (Option.some.inj g1).symm⟩
      obtain ⟨y, hy, e2⟩ := il_at g2
      subst e1 e2
      have ec : cc = (z, -y) := by
        have e : (st.gaps.zip ((line.drop 1).map fun x => -x))[i]? = some (z, -y) := by
          rw [List.getElem?_zip_eq_some]
          exact ⟨hz, by rw [List.getElem?_map, hy]; rfl⟩
        rw [e] at hcc
        exact (Option.some.inj hcc).symm
      subst ec
      refine ⟨_, rfl, _, rfl, _, rfl, (by show 2 ≤ sizeLine; decide), fun tq htq => ?_⟩
      exact q6 _ _ (same_new htq) ⟨tq, rfl, upd_same⟩
    · intro H6 us6 s6 hR6 hag
      have s16 := s15.trans s6
      have hf6 := s6 _ _ hf5
      have hp6 := s6 _ _ hp5
      have ht6 := s6 _ _ ht5
      have tR : tl ≠ R := fun z => by rw [z] at ht5; rw [ht5] at hR; cases hR
      have ft : fl ≠ tl := fun z => by rw [z] at hf3; rw [hf3] at htl; cases htl
      have ul : us6.length = n := by rw [hag.1, List.length_zip, List.length_map, I.gl, dl, Nat.min_self]
      refine ⟨tl, R, _, _, rfl, rfl, ht6, hR6, Nat.le_of_lt (small1000 (by rw [ul]; show 1 + n ≤ 1000; omega)), ?_⟩
      have k7 : ∀ z o, z ≠ tl → H6 z = some o → upd H6 tl (.lst ([.ref t0] ++ us6)) z = some o := fun z o ne e => by rw [upd_ne ne]; exact e
      have ht7 : upd H6 tl (.lst ([.ref t0] ++ us6)) tl = some (.lst (.ref t0 :: us6)) := upd_same
      have tup : ∀ z xs, H6 z = some (.tup xs) → z ≠ tl := fun z xs e y => by rw [y, ht6] at e; cases e
      generalize upd H6 tl _ = H7 at k7 ht7 ⊢
      have hf7 := k7 _ _ ft hf6
      have al : AG (NPr H7) (.ref t0 :: us6) ((v, st.d) :: st.gaps.zip ((line.drop 1).map fun x => -x)) := by
        refine ⟨by rw [List.length_cons, List.length_cons, hag.1], fun i w hw => ?_⟩
        cases i with
        | zero =>
          cases hw
          exact ⟨_, rfl, t0, rfl, k7 _ _ (tup _ _ hp6) hp6⟩
        | succ i =>
          obtain ⟨c, hc2, q2, e, t⟩ := hag.2 i w hw
          exact ⟨c, hc2, q2, e, k7 _ _ (tup _ _ t) t⟩
      have keep0 : ∀ z o, H z = some o → H7 z = some o := fun z o e => k7 _ _ (fun y => by
        have := s13 _ _ e
        rw [y] at this
        rw [this] at htl; cases htl) (s16 _ _ e)
      have bnd : ∀ c ∈ (v, st.d) :: st.gaps.zip ((line.drop 1).map fun x => -x), c.1 < n + lines.length := fun c hc2 => by
        rcases List.mem_cons.mp hc2 with e | e
        · rw [e]; exact hv
        · exact I.gb _ (List.of_mem_zip (show (c.1, c.2) ∈ _ from e)).1
      have cl : ((v, st.d) :: st.gaps.zip ((line.drop 1).map fun x => -x)).length ≤ 20 := by
        rw [← al.1, List.length_cons, ul]; omega
      refine ⟨_, rfl, tl, rfl, ⟨_, SqL.of ht7⟩, ?_⟩
      unfold factC at q
      generalize (v, st.d) :: st.gaps.zip ((line.drop 1).map fun x => -x) = cs at *
      have flen : ∀ i, ((cs.take i).foldl (fun fs z => if n ≤ z.1 then fs.set (z.1 - n) z.2 else fs) (List.replicate lines.length (0 : Int))).length = lines.length := fun i => by
        generalize cs.take i = ds
        have : ∀ (ds : List (Nat × Int)) (fs : List Int), (ds.foldl (fun fs z => if n ≤ z.1 then fs.set (z.1 - n) z.2 else fs) fs).length = fs.length := by
          intro ds
          induction ds with
          | nil => intro fs; rfl
          | cons z ds ih =>
            intro fs
            rw [List.foldl_cons, ih]
            split
            · rw [List.length_set]
            · rfl
        rw [this, List.length_replicate]
      refine for_list (xs := .ref t0 :: us6) (fun i σ Hc => (∀ z o, z ≠ fl → H7 z = some o → Hc z = some o) ∧ Hc fl = some (.lst (((cs.take i).foldl (fun fs z => if n ≤ z.1 then fs.set (z.1 - n) z.2 else fs) (List.replicate lines.length (0 : Int))).map V.int)) ∧ ∃ x5 x6 : Option V, σ = [some (.ref x), some (.int (v : Nat)), some (.ref l), some (.ref fl), some (.ref tl), x5, x6])
        ⟨fun _ _ _ e => e, hf7, _, _, rfl⟩ (fun i σ Hc _ p => SqL.of (p.1 _ _ (Ne.symm ft) ht7)) ?_ ?_
      · rintro i b σ Hc hb ⟨k8, hf8, x5, x6, rfl⟩
        obtain ⟨c, hc2, tq, rfl, ht⟩ := al.2 i b hb
        have tf : tq ≠ fl := fun y => by rw [y, hf7] at ht; cases ht
        refine ⟨tq, _, rfl, SqT.of (k8 _ _ tf ht), rfl, _, _, rfl, _, _, rfl, rfl, ?_⟩
        have step : (cs.take (i + 1)).foldl (fun fs z => if n ≤ z.1 then fs.set (z.1 - n) z.2 else fs) (List.replicate lines.length (0 : Int)) = (if n ≤ c.1 then ((cs.take i).foldl (fun fs z => if n ≤ z.1 then fs.set (z.1 - n) z.2 else fs) (List.replicate lines.length (0 : Int))).set (c.1 - n) c.2 else (cs.take i).foldl (fun fs z => if n ≤ z.1 then fs.set (z.1 - n) z.2 else fs) (List.replicate lines.length (0 : Int))) := by
          rw [take_snoc hc2, List.foldl_append]; rfl
        have fli := flen i
        generalize (cs.take i).foldl (fun fs z => if n ≤ z.1 then fs.set (z.1 - n) z.2 else fs) (List.replicate lines.length (0 : Int)) = cur at hf8 step fli ⊢
        have xf : x ≠ fl := fun y => by rw [← y] at hf0; rw [hx] at hf0; cases hf0
        refine ⟨_, rfl, _, rfl, x, D, dx, _, _, rfl, k8 _ _ xf (keep0 _ _ hx), T.cl, T.nW, cf.w, _, _, rfl, rfl, _, rfl, ite2 (fun z => ?_) (fun z => ?_)⟩
        · have z : n ≤ c.1 := by have := of_decide_eq_true z; omega
          have b1 := bnd c (List.mem_of_getElem? hc2)
          refine ⟨_, rfl, _, rfl, _, rfl, _, rfl, x, D, dx, _, _, rfl, k8 _ _ xf (keep0 _ _ hx), T.cl, T.nW, cf.w, _, _, rfl, rfl, fl, _, _, c.1 - n, rfl, rfl, hf8, ?_, ?_⟩
          · rw [List.length_map, fli]
            unfold ixN
            rw [if_pos (by omega), if_pos (by omega)]
            congr 1
            omega
          · refine ⟨fun z o ne e => by rw [upd_ne ne]; exact k8 z o ne e, ?_, _, _, rfl⟩
            rw [step, if_pos z, upd_same, List.map_set]
        · have z : ¬ n ≤ c.1 := fun y => z (decide_eq_true (by omega))
          refine ⟨k8, ?_, _, _, rfl⟩
          rw [step, if_neg z]
          exact hf8
      · rintro σ Hc ⟨k8, hf8, x5, x6, rfl⟩
        rw [List.take_of_length_le (by rw [← al.1]; exact Nat.le_refl _)] at hf8
        exact ⟨_, rfl, q fl Hc hf8 fun z o e => k8 _ _ (fun y => by rw [y, hf0] at e; cases e) (keep0 _ _ e)⟩
/-! ### corner_or_bar -/
/-- the class Corner, for calls -/
structure CkC (P : Program) (w : World) (K : PySem.W.Frag) (mg : Str → Option Value) (base : Heap) (D fI' : Addr) (fdI' : FuncData) : Prop where
  T : TxtC6 K mg D
  M : Mk K D fI'
  G : FnOk P w K mg base CX0 1 fI' fdI' ["self", "lines", "width"] (spCi D)
  b : Binds K fdI' ["self", "lines", "width"] []
  m : mg "Corner" = some (.ref D)
theorem tabs_but {Tt : List (Addr × Str)} {H H' : Hp} (t : Tabs Tt H) (k : ∀ b o, H b = some o → (∀ C dx fs, o ≠ .ins C dx fs) → (∀ xs, o ≠ .lst xs) → H' b = some o) : Tabs Tt H' := fun p hp => by
  obtain ⟨ps, h1, h2, h3⟩ := t p hp
  refine ⟨ps, k _ _ h1 (fun _ _ _ z => by cases z) (fun _ z => by cases z), h2, fun pos cv hc => ?_⟩
  obtain ⟨c, e1, e2⟩ := h3 pos cv hc
  exact ⟨c, e1, k _ _ e2 (fun _ _ _ z => by unfold CodeO at z; cases z) (fun _ z => by unfold CodeO at z; cases z)⟩
def CbAt (D : Addr) (H : Hp) (t : Addr) (lines : List (List Int)) (n : Nat) : Res → Prop
  | .fit st => ∃ x g, H t = some (.tup [.ref x, .non]) ∧ CoH D g H x lines n st
  | .bar fs => ∃ p, H t = some (.tup [.non, .ref p]) ∧ H p = some (.lst (fs.map V.int))
def spKb (D : Addr) (Tt : List (Addr × Str)) : Sp := fun vs H Q _ => ∃ (la : Addr) (n m N : Nat) (lines : List (List Int)) (res : Res), vs = [.ref la, .int (n : Nat)] ∧ LM H la lines ∧ Wid lines n m ∧ Tabs Tt H ∧ runC lines n N (startC n) = some res ∧
  ∀ t H', ExtN H H' → Tabs Tt H' → CbAt D H' t lines n res → Q (.ref t) H'
theorem run_step {lines : List (List Int)} {n m : Nat} {st : Co} {res : Res} (h : runC lines n m st = some res) : ∃ m', m = m' + 1 ∧ (match stepC lines n st with | .inl r => some r | .inr st' => runC lines n m' st') = some res := by
  cases m with
  | zero => cases h
  | succ m' => exact ⟨m', rfl, h⟩
theorem ok_kb {f fI' : Addr} {Tt : List (Addr × Str)} {fd fdI' : FuncData} (F : Fun K "corner_or_bar" "corner_or_bar" sKb f fd) (ck : CkC P w K mg base D fI' fdI') (mF : Met P w K mg base D "first_below" 2 ["self"] (spKf D)) (mL : Met P w K mg base D "line_of" 1 ["self", "number"] (spKl D)) (mW : Met P w K mg base D "way_out" 3 ["self", "line"] (spKw D Tt))
    (mM : Met P w K mg base D "move" 2 ["self", "number", "line", "at"] (spKm D)) (gFa : Glo P w K mg base "_factors" 1 ["corner", "number", "line"] (spKa D)) : FnOk P w K mg base CX0 4 f fd ["lines", "width"] (spKb D Tt) := by
  have T := ck.T
  refine F.ok scKb (fun vs H Q E h => ?_) (fun cdv A outer s H vs Q E hr h => ?_)
  · obtain ⟨la, n, m, N, lines, res, rfl, _⟩ := h
    rfl
  · obtain ⟨la, n, m, N, lines, res, rfl, hl, W, tb, run, q⟩ := h
    refine ⟨_, (pss_cons (ps_set (i := 2) scKb.nd rfl (Or.inl rfl) (pe_make ck.M ck.G (hr.mono (by decide)) (by rfl) ck.m ck.b .nil pass0 (pa_cons (pv 0) (pa_cons (pv 1) pa_nil))))
      (pss_cons (ps_set (i := 3) scKb.nd rfl (Or.inl rfl) (pe_meth0 (pv 2) T.cl ⟨mF.D.at_, mF.D.fn, mF.kp⟩ mF.G (hr.mono (by decide)) mF.b .nil pass0))
      (pss_cons (ps_while PassesOwn.never (pt_cmpR op_notN (pv 3) pe_non (nomark _)) (pss_cons (ps_set (i := 4) scKb.nd rfl (Or.inl rfl) (pe_meth (pv 2) T.cl ⟨mL.D.at_, mL.D.fn, mL.kp⟩ mL.G (hr.mono (by decide)) mL.b .nil pass0 (pa_cons (pv 3) pa_nil)))
      (pss_cons (ps_set (i := 5) scKb.nd rfl (Or.inl rfl) (pe_meth (pv 2) T.cl ⟨mW.D.at_, mW.D.fn, mW.kp⟩ mW.G (hr.mono (by decide)) mW.b .nil pass0 (pa_cons (pv 4) pa_nil)))
      (pss_cons (ps_if (pt_cmpR op_isN (pv 5) pe_non (nomark _)) (pss_one (ps_ret (pe_tup (pa_cons pe_non (pa_cons (pe_call gFa.G (hr.mono (by decide)) (by rfl) gFa.m gFa.k gFa.b .nil pass0 (pa_cons (pv 2) (pa_cons (pv 3) (pa_cons (pv 4) pa_nil)))) pa_nil))))) pss_nil)
      (pss_cons (ps_expr (pe_meth (pv 2) T.cl ⟨mM.D.at_, mM.D.fn, mM.kp⟩ mM.G (hr.mono (by decide)) mM.b .nil pass0 (pa_cons (pv 3) (pa_cons (pv 4) (pa_cons (pv 5) pa_nil)))))
      (pss_one (ps_set (i := 3) scKb.nd rfl (Or.inl rfl) (pe_meth0 (pv 2) T.cl ⟨mF.D.at_, mF.D.fn, mF.kp⟩ mF.G (hr.mono (by decide)) mF.b .nil pass0))))))))
      (pss_one (ps_ret (pe_tup (pa_cons (pv 2) (pa_cons pe_non pa_nil)))))))), ?_⟩
    have w12 := W.w12
    refine ⟨_, rfl, _, rfl, fun x dx nx nd nn => ⟨x, dx, la, n, lines, rfl, upd_same, ?_, by omega, fun g H2 hc hg0 hs => ⟨rfl, ?_⟩⟩⟩
    · obtain ⟨us, e, z⟩ := hl
      have sm : Same H (upd (upd H dx (.own x)) x (.ins D dx [])) := fun a o e => by
        rw [upd_ne (ne_of_none e nx), upd_ne (ne_of_none e nd)]; exact e
      exact ⟨us, sm _ _ e, z.imp fun _ _ y => y.same sm⟩
    have s2 : Same H H2 := same_make (C := D) nx nd hs
    have hg : H g = none := by
      cases y : H g with
      | none => rfl
      | some o =>
        have e1 : upd (upd H dx (.own x)) x (.ins D dx []) g = some o := by rw [upd_ne (ne_of_none y nx), upd_ne (ne_of_none y nd)]; exact y
        rw [e1] at hg0; cases hg0
    have tb2 : Tabs Tt H2 := tb.ext s2
    have I0 := CI.start lines n
    have far : ∀ {H' : Hp} {st : Co}, CoH D g H' x lines n st → ∃ dx fs, H' x = some (.ins D dx fs) ∧ fs.lookup ("line_of" : Str) = none ∧ fs.lookup ("first_below" : Str) = none ∧ fs.lookup ("way_out" : Str) = none ∧ fs.lookup ("move" : Str) = none ∧ H' g = some (.lst (gV st.gaps)) := fun ⟨dx, fs, la, ra, h1, cf, _, hg, _⟩ =>
      ⟨dx, fs, h1, cf.no _ ne_fld ne_fld ne_fld ne_fld ne_fld, cf.no _ ne_fld ne_fld ne_fld ne_fld ne_fld, cf.no _ ne_fld ne_fld ne_fld ne_fld ne_fld, cf.no _ ne_fld ne_fld ne_fld ne_fld ne_fld, hg⟩
    obtain ⟨dx2, fs2, hx2, _, nf2, _, _, _⟩ := far hc
    refine ⟨_, rfl, x, dx2, _, rfl, hx2, nf2, x, g, n, m, lines, _, rfl, hc, I0, W, fun H3 s3 => ?_⟩
    refine ⟨fun k σ Hc => ∃ (st : Co) (x4 x5 : Option V), σ = [some (.ref la), some (.int (n : Nat)), some (.ref x), some (wayV (belowC lines n st)), x4, x5] ∧ ExtN H Hc ∧ Tabs Tt Hc ∧ CoH D g Hc x lines n st ∧ CI lines n st ∧ runC lines n k st = some res,
      ⟨N, _, _, _, rfl, ExtN.of (s2.trans s3), tb2.ext s3, hc.same s3, I0, run⟩, ?_⟩
    rintro k σ Hc ⟨st, x4, x5, rfl, ex, tbc, hcc, I, rn⟩
    obtain ⟨k', rfl, rs⟩ := run_step rn
    unfold stepC at rs
    cases eb : belowC lines n st with
    | none =>
      rw [eb] at rs
      cases rs
      refine ⟨_, rfl, rfl, _, rfl, iteF ?_⟩
      refine ⟨_, rfl, (by show 2 ≤ sizeLine; decide), fun t ht => ?_⟩
      have s4 : Same Hc (upd Hc t (.tup [.ref x, .non])) := same_new ht
      exact q t _ (ex.trans (ExtN.of s4)) (tbc.ext s4) ⟨x, g, upd_same, hcc.same s4⟩
    | some v =>
      obtain ⟨hv, _, _⟩ := below_some eb
      rw [eb] at rs
      simp only at rs
      refine ⟨_, rfl, rfl, _, rfl, iteT ?_⟩
      obtain ⟨dx3, fs3, hx3, nl3, _, _, _, _⟩ := far hcc
      refine ⟨fun σ' H' => ∃ (st' : Co) (x4 x5 : Option V), σ' = [some (.ref la), some (.int (n : Nat)), some (.ref x), some (wayV (belowC lines n st')), x4, x5] ∧ ExtN H H' ∧ Tabs Tt H' ∧ CoH D g H' x lines n st' ∧ CI lines n st' ∧ runC lines n k' st' = some res, fun σ' H' ⟨st', y4, y5, a1, a2, a3, a4, a5, a6⟩ => ⟨k', by omega, st', y4, y5, a1, a2, a3, a4, a5, a6⟩, ?_⟩
      refine ⟨_, rfl, x, dx3, _, rfl, hx3, nl3, _, rfl, x, g, n, m, v, lines, st, rfl, hcc, I, W, hv, fun p H4 pg hp s4 => ?_⟩
      have hc4 := hcc.same s4
      obtain ⟨ll, _, _⟩ := I.line W.len hv
      obtain ⟨dx4, fs4, hx4, _, _, nw4, _, _⟩ := far hc4
      refine ⟨_, rfl, x, dx4, _, rfl, hx4, nw4, _, rfl, x, g, p, n, m, lines, st, lineC lines n st v, rfl, hc4, I, W, hp, ll, tbc.ext s4, fun H5 ex5 tb5 => ?_⟩
      have ex05 := (ex.trans (ExtN.of s4)).trans ex5
      have hc5 := hc4.extN ex5
      have hp5 := ex5 _ _ hp (fun _ z => by cases z)
      cases ew : wayC n st (lineC lines n st v) with
      | none =>
        rw [ew] at rs
        cases rs
        refine ⟨_, rfl, rfl, _, rfl, iteT ?_⟩
        refine ⟨_, rfl, _, rfl, _, rfl, x, g, p, n, m, v, lines, st, rfl, hc5, I, W, hp5, hv, fun pf H6 hpf s6 => ?_⟩
        refine ⟨(by show 2 ≤ sizeLine; decide), fun t ht => ?_⟩
        have s7 : Same H6 (upd H6 t (.tup [.non, .ref pf])) := same_new ht
        exact q t _ (ex05.trans (ExtN.of (s6.trans s7))) ((tb5.ext s6).ext s7) ⟨pf, upd_same, s7 _ _ hpf⟩
      | some a =>
        rw [ew] at rs
        simp only at rs
        obtain ⟨ma, _⟩ := way_some ew
        obtain ⟨a1, a2, a3⟩ := mem_ways.mp ma
        refine ⟨_, rfl, rfl, _, rfl, iteF ?_⟩
        obtain ⟨dx5, fs5, hx5, _, _, _, nm5, hg5⟩ := far hc5
        refine ⟨_, rfl, x, dx5, _, rfl, hx5, nm5, _, rfl, _, rfl, _, rfl, x, g, p, n, m, v, a, lines, st, rfl, hc5, I, W, hp5, pg, hv, a1, a2, fun H6 hc6 k6 => ?_⟩
        have I6 := I.move W.len hv a1 a2 a3
        have ex6 : ExtN H H6 := fun z o e nt => k6 _ _ (ne_of_none e nx) (ne_of_none e hg) (ex05 z o e nt)
        have tb6 : Tabs Tt H6 := tabs_but tb5 fun b o e n1 n2 => k6 b o (fun y => by rw [y, hx5] at e; exact n1 _ _ _ (Option.some.inj e).symm) (fun y => by rw [y, hg5] at e; exact n2 _ (Option.some.inj e).symm) e
        obtain ⟨dx6, fs6, hx6, _, nf6, _, _, _⟩ := far hc6
        refine ⟨_, rfl, x, dx6, _, rfl, hx6, nf6, x, g, n, m, lines, _, rfl, hc6, I6, W, fun H7 s7 => ?_⟩
        exact ⟨_, _, _, rfl, ex6.trans (ExtN.of s7), tb6.ext s7, hc6.same s7, I6, rs⟩
end
end FR
set_option Elab.async false
set_option linter.all false
set_option maxRecDepth 100000
set_option maxHeartbeats 4000000
/-! enumerate of a tuple -/
namespace SU
open PySem PySem.Spec PyProof.Rows
open AutoSeq1 (wpAny_loadPart')
set_option maxHeartbeats 1000000 in
theorem meets_enum1 {v : Value} {o : Obj} {H : Heap → Prop} (B : Begins v o H) :
    Meets (Builtin.«enumerate.__new__» ⟨[.type "enumerate", v], []⟩) (fun _ R s => H s.heap ∧
      R (.ok (.ret (.ref (s.heap.push o).objs.size))) { s with heap := (s.heap.push o).push { cls := .type "enumerate", data := .fields #[.none, .bool false, .ref s.heap.objs.size, rawInt 0, .none, .none] } }) :=
  .of_wp fun prog w A R s h => by
    obtain ⟨hp, g, d, tk, os⟩ := s; obtain ⟨h1, h⟩ := h
    have hsub := sub_enumerate
    have q1 : ∀ {A' : Around} {E : Value → Shared → Prop} {Q : Value → Shared → Prop}, Q (.ref hp.objs.size) ⟨hp.push o, g, d, tk, os⟩ → wpAny (model prog w) A' (pyIter v) Q E ⟨hp, g, d, tk, os⟩ :=
      fun q => B.iter prog w _ _ ⟨hp, g, d, tk, os⟩ _ h1 q
    wp_walk using q1
    refine wpAny_stack_any fun st => wpAny_pure ?_
    split
    · rename_i c _ _ _ _ _
      cases (c == Value.type "enumerate")
      · wp_walk using q1
        exact ⟨_, rfl, h⟩
      · wp_walk using q1
        exact ⟨_, rfl, h⟩
    · wp_walk using q1
      exact ⟨_, rfl, h⟩
section
variable {prog : Program} {w : World} {A : Around} {E : Value → Shared → Prop} {s : Shared}
theorem enum_begins1 {v : Value} {o : Obj} {H : Heap → Prop} {Q : Value → Shared → Prop} (B : Begins v o H) (h1 : H s.heap)
    (h : ∀ h', IsEnum h' (s.heap.objs.size + 1) s.heap.objs.size 0 .none → h'.get? s.heap.objs.size = some o → h'.objs.size = s.heap.objs.size + 2 →
      (∀ b o, s.heap.get? b = some o → h'.get? b = some o) → Q (.ref (s.heap.objs.size + 1)) { s with heap := h' }) :
    wpAny (model prog w) A (call (.type "enumerate") [v]) Q E s := by
  refine callType_new F.called_enumerate (by decide) (F.typeCall_enumerate_1 _) (F.newCall_enumerate_1 _) (fun obj => F.args_object_init_2 obj _) F.entry_enumerate_new
    (meets_enum1 B) ⟨h1, ?_⟩
  have hz : (s.heap.push o).objs.size = s.heap.objs.size + 1 := Heap.size_push ..
  show _ ∧ _
  rw [hz]
  have he : IsEnum ((s.heap.push o).push { cls := .type "enumerate", data := .fields #[.none, .bool false, .ref s.heap.objs.size, rawInt 0, .none, .none] }) (s.heap.objs.size + 1) s.heap.objs.size 0 .none := by
    have := Heap.get?_push_size (s.heap.push o) (o := { cls := .type "enumerate", data := .fields #[.none, .bool false, .ref s.heap.objs.size, rawInt 0, .none, .none] }) rfl
    rw [hz] at this; exact this
  refine ⟨⟨_, he, rfl⟩, h _ he (Heap.get?_push_of_some _ (Heap.get?_push_size _ B.free)) (by rw [Heap.size_push, hz]) fun b o x => Heap.get?_push_of_some _ (Heap.get?_push_of_some _ x)⟩
end
end SU
namespace L2
open PySem PySem.Spec PyProof.Rows
/-- the tuple at a, each item in a new pair -/
def IteT (K : PySem.W.Frag) (a : Addr) : It :=
  ⟨fun i H => ∃ (xs : List V) (x : V), SqT K H a xs ∧ xs[i]? = some x, fun i H v H' => ∃ T x, v = .ref T ∧ H T = none ∧ H' = upd H T (.tup [.int (i : Nat), x]) ∧ ∀ xs, SqT K H a xs → xs[i]? = some x, fun i H => ∃ xs : List V, SqT K H a xs ∧ xs.length ≤ i⟩
theorem turn_enumT {P : Program} {w : World} {K : PySem.W.Frag} {elts : List Expr} {kk : Nat} {tpos : Pos} (a e it : Addr) :
    Turn P w K (.Tuple elts kk tpos) (IteT K a) [e, it] e (fun i h => (∃ old, IsEnum h e it ((i : Nat) : Int) old) ∧ h.IsTupleIter it a i ∧ e ≠ it) where
  mem := by simp
  obj := fun i h st b hb => by
    obtain ⟨⟨old, he⟩, ⟨o, ho, hc, hd⟩, _⟩ := st
    have e' : b = e ∨ b = it := by simpa using hb
    rcases e' with z | z
    · rw [z]; exact ⟨_, he, fun v q => nomatch q⟩
    · rw [z]; exact ⟨o, ho, fun v q => by rw [hd] at q; cases q⟩
  keep := fun i h h' st k => let ⟨⟨old, he⟩, hi, hne⟩ := st; ⟨⟨old, k e (by simp) _ he⟩, hi.at fun o q => k it (by simp) o q, hne⟩
  item := by
    intro X hP hw hK hc i pins s σ H E I hf st hg
    subst hP hw hK
    obtain ⟨⟨old, he⟩, hit, hne⟩ := st
    obtain ⟨xs, x, hq, hx⟩ := hg
    obtain ⟨its, rv, p, hz⟩ := I.tuple hq
    obtain ⟨u, hu, ru⟩ := rv.get hx
    have hel : e < s.heap.objs.size := Heap.lt_size he
    have hil : it < s.heap.objs.size := by obtain ⟨_, q, _⟩ := hit; exact Heap.lt_size q
    have pt : s.heap.IsTuple a its.toArray := p
    have tit : a ≠ it := fun z => by
      obtain ⟨o1, h1, c1, _⟩ := hit
      obtain ⟨o2, h2, c2, _⟩ := pt
      rw [z, h1] at h2
      cases h2
      rw [c1] at c2
      exact absurd c2 (by decide)
    have te : e ∉ [it, a] := fun m => by
      simp only [List.mem_cons, List.mem_nil_iff, or_false] at m
      rcases m with z | z
      · exact hne z
      · obtain ⟨o2, h2, c2, _⟩ := pt
        have he' : s.heap.get? e = _ := he
        rw [z, h2] at he'
        cases he'
        have c2 : Value.type "enumerate" = Value.type "tuple" := c2
        exact absurd c2 (by decide)
    have lt : i < its.toArray.size := by
      have h1 := (List.getElem?_eq_some_iff.mp hu).1
      simpa using h1
    refine wpAny_pyNext_enum_itemD (Draws.tuple (A := X.A.in1) (I.ok.hd hc) it a tit its.toArray) he ⟨hit, pt⟩ lt hne te fun x' h' tk hx' ho hst' hT hsz hk => ?_
    have ex : x' = u := by
      have : its.toArray[i]? = some u := by simpa using hu
      rw [this] at hx'
      exact (Option.some.inj hx').symm
    subst ex
    obtain ⟨hit', _⟩ := hst'
    refine ⟨_, rfl, wpAny_letOwnedTupleGo_enum (s := { s with heap := h', toks := tk + 1 }) ho fun h'' he' sb => ?_⟩
    have hT2 : h''.get? s.heap.objs.size = some { cls := .type "tuple", data := .seq #[.int i tk, x'] } := (sb.2 _ (Nat.ne_of_gt hel)).trans hT
    have new : ObjOk X.prog X.w (upd H s.heap.objs.size (.tup [.int (i : Nat), x])) h'' s.heap.objs.size (.tup [.int (i : Nat), x]) :=
      ⟨by show 2 ≤ sizeLine; decide, [.int i tk, x'], .cons ⟨_, rfl⟩ (.cons ru .nil), ⟨_, hT2, rfl, _, rfl⟩⟩
    have I1 : Inv X pins σ (upd H s.heap.objs.size (.tup [.int (i : Nat), x])) { s with heap := h'', toks := tk + 1 } :=
      I.turnedNew (ch := [e, it]) (fun b ob hb q => (sb.2 b (fun z => hb (by simp [z]))).trans (hk b ob (fun z => hb (by simp [z])) (fun z => hb (by simp [z])) q)) hf (Nat.le_refl _) new
    refine ⟨.ref s.heap.objs.size, _, I1, rfl, ⟨_, x, rfl, I.hok.fresh (Nat.le_refl _), rfl, fun ys hy => by rw [I.tuple_inj hy hq]; exact hx⟩, ⟨⟨x', ?_⟩, hit'.at fun o q => (sb.2 it (Ne.symm hne)).trans q, hne⟩, fun b hb => ?_⟩
    · have e1 : ((i + 1 : Nat) : Int) = (i : Int) + 1 := by omega
      rw [e1]; exact he'
    · have hb' : b < s.heap.objs.size := by
        have e' : b = e ∨ b = it := by simpa using hb
        rcases e' with z | z
        · rw [z]; exact hel
        · rw [z]; exact hil
      rw [upd_ne (Nat.ne_of_lt hb')]
      exact (hf b hb).1
  done := by
    intro X hP hw hK hc i pins s σ H E I hf st hg
    subst hP hw hK
    obtain ⟨⟨old, he⟩, hit, hne⟩ := st
    obtain ⟨xs, hq, hx⟩ := hg
    obtain ⟨its, rv, p, hz⟩ := I.tuple hq
    obtain ⟨f0, f1, f2, f3, f4, f5⟩ := hf it (by simp)
    have hl := rv.length
    have hT : s.TypeIs (.ref e) "enumerate" := ⟨_, he, rfl⟩
    unfold pyNext
    refine wpAny_bind (wpAny_attempt (wpAny_callSpecial?_slot (name := Str.ofString "__next__") hT F.slot_enumerate_next
      (wpAny_call_entry F.slot_enumerate_next hT F.entry_enumerate_next ?_ (F.args_enumerate_next_1 _))))
    show wpAny _ _ (field (.ref e) 2 >>= _) _ _ _
    refine wpAny_bind (wpAny_field he rfl (x := .ref it) rfl ?_)
    refine wpAny_bind (wpAny_nextOf_tuple_end (I.ok.hd hc) hit (show s.heap.IsTuple a its.toArray from p) (by simp; omega) fun h' x he' hx' => ?_)
    obtain ⟨o, ho, hc'⟩ := hx'
    refine wpAny_bind (wpAny_isInstance (T := "StopIteration") (b := true) ⟨o, ho, hc'⟩ isSubtype_stop ?_)
    exact wpAny_pure ⟨rfl, I.turned (t' := s.toks) (fun b o hb q => he' b o hb q) f0 f1 f3 f4 f5⟩
  self := fun A i s Q E st h => let ⟨⟨_, he⟩, _⟩ := st; wpAny_pyIter_enum he h
def iEnumT (K : PySem.W.Frag) (ta : TA) : TI := fun σ H R => ta σ H fun vs H1 => ∃ a xs, vs = [.ref a] ∧ SqT K H1 a xs ∧ R (IteT K a) H1
theorem pi_enumT {X : Cx} {e : Expr} {ta : TA} {p pos tpos : Pos} {elts : List Expr} {kk : Nat} (hg : Gl X "enumerate") (hm : X.mg "enumerate" = none) (ha : PA X [e] ta) (hs : starEach [e] X.env = [(false, eval e X.env)] := by rfl) :
    PI X (.Tuple elts kk tpos) (.Call (.Name "enumerate" p) [e] [] pos) (iEnumT X.K ta) := by
  refine ⟨fun pins s σ H R I h => ?_⟩
  refine Call_ (ld_blt I hg hm boot_enumerate (PyProof.Rows.callWith_type1 (thn (ha.run pos pins s σ H _ I h) fun us s1 ⟨vs, H1, I1, r1, q1⟩ => ?_) hs rfl))
  obtain ⟨a, xs, ex, hq, q⟩ := q1
  subst ex
  cases r1 with
  | cons r rr =>
    cases rr
    cases r
    obtain ⟨its, rv, p', hz⟩ := I1.tuple hq
    refine SU.enum_begins1 (begins_tuple a its.toArray) (show s1.heap.IsTuple a its.toArray from p') fun h' he hit hsz hk => wpAny_pyIter_enum he ?_
    have I2 : Inv X pins σ H1 { s1 with heap := h' } := I1.kept (t' := s1.toks) hk
    refine ⟨s1.heap.objs.size + 1, [s1.heap.objs.size + 1, s1.heap.objs.size], _, _, H1, rfl, I2, turn_enumT a (s1.heap.objs.size + 1) s1.heap.objs.size, ⟨⟨.none, he⟩, ⟨_, hit, rfl, rfl⟩, Nat.succ_ne_self _⟩, fun b hb => ?_, q⟩
    have e' : b = s1.heap.objs.size + 1 ∨ b = s1.heap.objs.size := by simpa using hb
    have hle : s1.heap.objs.size ≤ b := by
      rcases e' with z | z
      · rw [z]; exact Nat.le_add_right _ _
      · rw [z]; exact Nat.le_refl _
    exact I1.fpOk hle (I1.hok.fresh hle)
theorem walk_enumT {K : PySem.W.Frag} {a : Addr} {xs : List V} : Walk (IteT K a) xs.length (fun H => SqT K H a xs) (YPair (fun i => some (.int (i : Nat))) (fun i => xs[i]?)) := by
  refine ⟨fun i _ hi q => ⟨xs, xs[i], q, by simp [hi]⟩, fun _ q => ⟨xs, q, Nat.le_refl _⟩, fun i H v H' _ q y => ?_⟩
  obtain ⟨T, x, h1, h2, h3, h4⟩ := y
  exact ⟨T, .int (i : Nat), x, h1, h2, h3, rfl, h4 xs q⟩
end L2
set_option Elab.async false
set_option linter.all false
set_option maxRecDepth 100000
set_option maxHeartbeats 4000000
/-! _mark, _row_times, _check_rows_and_totals, _factors_of -/
namespace FR
open PySem PySem.Spec PyProof.Rows L2 LD RF
theorem A2.set {R : V → PI → Prop} {v : V} {p : PI} {vs : List V} {ps : List PI} (h : A2 R vs ps) (r : R v p) (j : Nat) : A2 R (vs.set j v) (ps.set j p) := by
  refine ⟨by rw [List.length_set, List.length_set, h.1], fun i x hx => ?_⟩
  rw [List.getElem?_set] at hx ⊢
  by_cases z : j = i
  · rw [if_pos z] at hx ⊢
    split at hx
    · next g =>
      rw [if_pos (by rw [← h.1]; exact g)]
      cases hx
      exact ⟨p, rfl, r⟩
    · cases hx
  · rw [if_neg z] at hx ⊢
    exact h.2 i x hx
theorem frs_rep {C : Addr} {H : Hp} {q : Addr} {p : PI} (h : FrAt C H q p.1 p.2) (n : Nat) : FRs C H (List.replicate n (.ref q)) (List.replicate n p) := by
  refine ⟨by rw [List.length_replicate, List.length_replicate], fun i v hv => ?_⟩
  rw [List.getElem?_replicate] at hv ⊢
  split at hv
  · next z =>
    rw [if_pos z]
    cases hv
    exact ⟨_, rfl, q, rfl, h⟩
  · cases hv
/-! ### the model -/
def markL (k many : Nat) : List Int := (List.range many).map fun n => if n = k then 1 else 0
abbrev TK : Type := List (Nat × Int)
def factP (tk : TK) (rs : List Int) (many : Nat) : List PI := (tk.zip (rs.drop 1)).foldl (fun fs z => fs.set z.1.1 (nT (z.2 * z.1.2) (ent rs 0), nB (z.2 * z.1.2) (ent rs 0))) (List.replicate many (0, 1))
/-- pairs of a place and an integer, in a list -/
def TkL (H : Hp) (a : Addr) (tk : TK) : Prop := ∃ vs, H a = some (.lst vs) ∧ AG (fun v (p : Nat × Int) => ∃ q, v = .ref q ∧ H q = some (.tup [.int (p.1 : Nat), .int p.2])) vs tk
theorem TkL.same {H H' : Hp} {a : Addr} {tk : TK} (h : TkL H a tk) (s : Same H H') : TkL H' a tk := by
  obtain ⟨vs, e, z⟩ := h
  exact ⟨vs, s _ _ e, z.imp fun _ _ ⟨q, e1, t⟩ => ⟨q, e1, s _ _ t⟩⟩
section
variable {P : Program} {w : World} {K : PySem.W.Frag} {mg : Str → Option Value} {base : Heap} {C fI pT gT0 pB gB0 : Addr} {fdI fdT fdB : FuncData}
abbrev sMk : Stmt := top 31
abbrev NMk : List Str := ["at", "many", "number"]
theorem scMk : FnScope NMk ["at", "many"] (defScope sMk) := ⟨rfl, rfl, rfl, by decide +kernel, rfl, by decide +kernel, by decide +kernel⟩
def spMk : Sp := fun vs H Q _ => ∃ (k many : Nat), vs = [.int (k : Nat), .int (many : Nat)] ∧ many ≤ 900 ∧ ∀ l H', H' l = some (.lst ((markL k many).map V.int)) → Same H H' → H l = none → Q (.ref l) H'
theorem ok_mk {f : Addr} {fd : FuncData} (F : Fun K "_mark" "_mark" sMk f fd) (mR : mg "range" = none) : FnOk P w K mg base CX0 1 f fd ["at", "many"] spMk := by
  refine F.ok scMk (fun vs H Q E h => ?_) (fun cdv A outer s H vs Q E hr h => ?_)
  · obtain ⟨k, many, rfl, _⟩ := h
    rfl
  · obtain ⟨k, many, rfl, m9, q⟩ := h
    refine ⟨_, (pss_one (ps_ret (pe_lc (X := (cxOf CX0 P w K mg base NMk "_mark" (defScope sMk) f cdv A outer s H E).nox) (own := [("number", 2)]) (g := (gName 2)) (tt := tYes) rfl scMk.nd (pi_range1 (by rfl) mR (pa_cons (pv 1) pa_nil)) (blkOk_by (N := NMk) (sc := (defScope sMk)) (by decide +kernel)) (fun _ _ _ _ _ => (pg_name (i := 2) scMk.nd rfl (.inl rfl))) (fun _ _ _ _ _ => pts_nil) (fun _ _ _ _ _ => (pe_ifExp (pt_cmpR op_eq (pv 2) (pv 0) (nomark _)) pe_int pe_int))))), ?_⟩
    refine ⟨_, rfl, (many : Int), rfl, by omega, by omega, fun D hD => ?_⟩
    have nat : ((many : Int)).toNat = many := by omega
    rw [nat]
    refine lc_range (lo := 0) (n := many) (fun i Hc => Same H Hc ∧ Hc D = some (.lst (((markL k many).take i).map V.int))) ⟨same_new hD, upd_same⟩ ?_ ?_
    · rintro i Hc hi ⟨sm, hDc⟩
      have e0 : (0 : Int) + (i : Nat) = (i : Nat) := by omega
      rw [e0]
      refine ⟨rfl, _, rfl, _, rfl, rfl, _, rfl, ?_⟩
      have key : ∀ (x : Int), x = (if i = k then 1 else 0) → ∃ acc, Hc D = some (.lst acc) ∧ acc.length < sizeLine ∧ Same H (upd Hc D (.lst (acc ++ [V.int x]))) ∧ upd Hc D (.lst (acc ++ [V.int x])) D = some (.lst (((markL k many).take (i + 1)).map V.int)) := fun x ex => by
        refine ⟨_, hDc, small1000 (by rw [List.length_map, List.length_take]; omega), same_upd hD sm, ?_⟩
        rw [take_snoc (x := x) (by unfold markL; rw [List.getElem?_map, List.getElem?_range hi, ex]; rfl), List.map_append]
        exact upd_same
      by_cases z : i = k
      · have e1 : decide (V.int (i : Nat) = V.int (k : Nat)) = true := by rw [z]; exact decide_eq_true rfl
        show if decide (V.int (i : Nat) = V.int (k : Nat)) = true then _ else _
        rw [if_pos e1]
        exact key 1 (by rw [if_pos z])
      · have e1 : ¬ decide (V.int (i : Nat) = V.int (k : Nat)) = true := by rw [int_dec, decide_eq_false z]; decide
        show if decide (V.int (i : Nat) = V.int (k : Nat)) = true then _ else _
        rw [if_neg e1]
        exact key 0 (by rw [if_neg z])
    · rintro Hc ⟨sm, hDc⟩
      rw [List.take_of_length_le (by unfold markL; rw [List.length_map, List.length_range]; exact Nat.le_refl _)] at hDc
      exact q D Hc hDc sm hD
/-! ### _row_times -/
abbrev sRx : Stmt := top 50
theorem scRx : FnScope ["row", "column"] ["row", "column"] (defScope sRx) := ⟨rfl, rfl, rfl, by decide +kernel, rfl, by decide +kernel, by decide +kernel⟩
def spRx (C : Addr) : Sp := fun vs H Q _ => ∃ (r c : Addr) (ps cs : List PI), vs = [.ref r, .ref c] ∧ Tf C H r ps ∧ Tf C H c cs ∧ ps.length = cs.length ∧ ∀ q H', FrAt C H' q (dotP ps cs).1 (dotP ps cs).2 → Same H H' → Q (.ref q) H'
theorem ok_rx {f : Addr} {fd : FuncData} (F : Fun K "_row_times" "_row_times" sRx f fd) (gT : Glo P w K mg base "_times" 6 ["rows", "column"] (spTms C)) : FnOk P w K mg base CX0 7 f fd ["row", "column"] (spRx C) := by
  refine F.ok scRx (fun vs H Q E h => ?_) (fun cdv A outer s H vs Q E hr h => ?_)
  · obtain ⟨r, c, ps, cs, rfl, _⟩ := h
    rfl
  · obtain ⟨r, c, ps, cs, rfl, t1, t2, len, q⟩ := h
    refine ⟨_, (pss_one (ps_ret (pe_ix ix_tup (pe_call gT.G hr (by rfl) gT.m gT.k gT.b .nil pass0 (pa_cons (pe_tup (pa_cons (pv 0) pa_nil)) (pa_cons (pv 1) pa_nil))) pe_int (fun _ _ => rfl)))), ?_⟩
    refine ⟨_, rfl, small1000 (by show 0 ≤ 1000; decide), fun t ht => ?_⟩
    have s1 : Same H (upd H t (.tup [.ref r])) := same_new ht
    refine ⟨_, rfl, t, c, [ps], cs, rfl, ⟨_, upd_same, AG.snoc AG.nil ⟨r, rfl, t1.same s1⟩⟩, t2.same s1, by show 1 ≤ 80; decide, fun x m => by rw [List.mem_singleton.mp m]; exact len, fun y H' hy s2 => ?_⟩
    obtain ⟨xs, hx, hf⟩ := hy
    match xs, hf with
    | [], hf => exact absurd hf.1 (by simp [timesP])
    | x0 :: xr, hf =>
      obtain ⟨p, hp, z, rfl, fz⟩ := hf.2 0 x0 rfl
      have ep : p = dotP ps cs := by have : some (dotP ps cs) = some p := hp; exact (Option.some.inj this).symm
      rw [ep] at fz
      exact ⟨y, _, 0, _, rfl, rfl, SqT.of hx, atI_nat (j := 0) rfl, q z H' fz (s1.trans s2)⟩
/-! ### _check_rows_and_totals -/
abbrev sCt : Stmt := top 41
theorem scCt : FnScope ["rows", "totals"] ["rows", "totals"] (defScope sCt) := ⟨rfl, rfl, rfl, by decide +kernel, rfl, by decide +kernel, by decide +kernel⟩
def spCt (C : Addr) : Sp := fun vs H Q _ => ∃ (a c : Addr) (pss : List (List PI)) (n : Nat) (ts : List PI), vs = [.ref a, .ref c] ∧ TMx C H a pss ∧ Rs pss n ∧ Tf C H c ts ∧ ts.length = pss.length ∧ ∀ H', Same H H' → Q .non H'
theorem ok_ct {f : Addr} {fd : FuncData} (F : Fun K "_check_rows_and_totals" "_check_rows_and_totals" sCt f fd) (gR : Glo P w K mg base "_check_rows" 5 ["rows"] (spCrs C)) (gF : Glo P w K mg base "_check_fractions" 4 ["value", "many"] (spCfs C)) (mL : mg "len" = none) : FnOk P w K mg base CX0 6 f fd ["rows", "totals"] (spCt C) := by
  refine F.ok scCt (fun vs H Q E h => ?_) (fun cdv A outer s H vs Q E hr h => ?_)
  · obtain ⟨a, c, pss, n, ts, rfl, _⟩ := h
    rfl
  · obtain ⟨a, c, pss, n, ts, rfl, tm, R, tt, len, q⟩ := h
    refine ⟨_, (pss_cons (ps_expr (pe_call gR.G hr (by rfl) gR.m gR.k gR.b .nil pass0 (pa_cons (pv 0) pa_nil)))
      (pss_one (ps_expr (pe_call gF.G (hr.mono (by decide)) (by rfl) gF.m gF.k gF.b .nil pass0 (pa_cons (pv 1) (pa_cons (pe_callB call_len_seq (by rfl) mL PySem.boot_len (pa_cons (pv 0) pa_nil)) pa_nil)))))), ?_⟩
    refine ⟨_, rfl, a, pss, n, rfl, tm, R, fun H1 s1 => ?_⟩
    obtain ⟨vs, ha, hv⟩ := tm.same s1
    refine ⟨_, rfl, _, rfl, a, vs, rfl, .inr (SqT.of ha), c, ts, by rw [hv.1, ← len]; rfl, tt.same s1, fun H2 s2 => q H2 (s1.trans s2)⟩
/-! ### _factors_of -/
abbrev sFa : Stmt := top 32
abbrev NFa : List Str := ["taken", "rest", "many", "total", "marks", "factors", "number", "bottom", "mark"]
theorem scFa : FnScope NFa ["taken", "rest", "many"] (defScope sFa) := ⟨rfl, rfl, rfl, by decide +kernel, rfl, by decide +kernel, by decide +kernel⟩
def spFa (C : Addr) : Sp := fun vs H Q _ => ∃ (a r : Addr) (tk : TK) (rs : List Int) (many : Nat), vs = [.ref a, .ref r, .int (many : Nat)] ∧ TkL H a tk ∧ H r = some (.lst (rs.map V.int)) ∧ 0 < rs.length ∧ rs.length ≤ 90 ∧ many ≤ 90 ∧ ent rs 0 ≠ 0 ∧ (∀ x ∈ rs, x.natAbs < 2 ^ 8000) ∧ (∀ p ∈ tk, p.1 < many ∧ p.2.natAbs < 2 ^ 2401) ∧ tk.length ≤ 90 ∧
  ∀ t H', TFr C H' t (factP tk rs many) → Same H H' → Q (.ref t) H'
theorem ok_fa {f : Addr} {fd : FuncData} (F : Fun K "_factors_of" "_factors_of" sFa f fd) (k : FrK P w K mg base C fI pT gT0 pB gB0 fdI fdT fdB) (mZ : mg "zip" = none) (mT : mg "tuple" = none) : FnOk P w K mg base CX0 4 f fd ["taken", "rest", "many"] (spFa C) := by
  obtain ⟨ds, vds, bds⟩ := k.b1
  refine F.ok scFa (fun vs H Q E h => ?_) (fun cdv A outer s H vs Q E hr h => ?_)
  · obtain ⟨a, r, tk, rs, many, rfl, _⟩ := h
    rfl
  · obtain ⟨a, r, tk, rs, many, rfl, ⟨vs, ha, hv⟩, hrs, r0, r9, m9, t0, rz, tz, k9, q⟩ := h
    refine ⟨_, (pss_cons (ps_asg (pv 1) (pg_star rfl (pg_name (i := 3) scFa.nd rfl (.inl rfl)) (pg_name (i := 4) scFa.nd rfl (.inl rfl))))
      (pss_cons (ps_set (i := 5) scFa.nd rfl (Or.inl rfl) (pe_op op_rep (pe_lst (pa_cons (pe_make k.M k.GI (hr.mono (by decide)) (by rfl) k.T.mC bds vds pass0 (pa_cons pe_int pa_nil)) pa_nil)) (pv 2)))
      (pss_cons (ps_for PassesOwn.never rfl (pi_zip (by rfl) mZ (pa_cons (pv 0) (pa_cons (pv 4) pa_nil))) (pg_tup (by rfl) (pgs_cons (pg_tup (by rfl) (pgs_cons (pg_name (i := 6) scFa.nd rfl (.inl rfl)) (pgs_cons (pg_name (i := 7) scFa.nd rfl (.inl rfl)) pgs_nil))) (pgs_cons (pg_name (i := 8) scFa.nd rfl (.inl rfl)) pgs_nil)))
        (pss_one (ps_asg (pe_make k.M k.GI (hr.mono (by decide)) (by rfl) k.T.mC k.b2 .nil pass0 (pa_cons (pe_op op_mulW (pv 8) (pv 7)) (pa_cons (pv 3) pa_nil))) (pg_sub (pv 5) (pv 6) set_list))))
      (pss_one (ps_ret (pe_callTy call_tuple_of (by rfl) mT (by decide +kernel) (pa_cons (pv 5) pa_nil))))))), ?_⟩
    match rs, hrs, r0, r9, t0, rz, q with
    | [], _, r0, _, _, _, _ => exact absurd r0 (by simp)
    | x0 :: xr, hrs, r0, r9, t0, rz, q =>
    have t0' : x0 ≠ 0 := t0
    have x0z := rz x0 List.mem_cons_self
    refine ⟨_, rfl, r, _, _, rfl, SqL.of hrs, by rw [List.length_map]; simp only [List.length_cons] at r9; omega, fun ml hml => ?_⟩
    have s1 : Same H (upd H ml (.lst (xr.map V.int))) := same_new hml
    have hm1 : upd H ml (.lst (xr.map V.int)) ml = some (.lst (xr.map V.int)) := upd_same
    generalize upd H ml _ = H1 at *
    refine fun x dx nx nd ne => ⟨x, dx, 0, 1, rfl, upd_same, by decide, dv8 (by decide) (by decide), fun H2 hf hs => ⟨rfl, small1000 (by show 0 ≤ 1000; decide), fun p hp => ?_⟩⟩
    have s2 := same_make (C := C) nx nd hs
    have e0 : ((nT 0 1, nB 0 1) : PI) = (0, 1) := by decide +kernel
    have f0 : FrAt C H2 x ((0, 1) : PI).1 ((0, 1) : PI).2 := by
      have a1 : nT 0 1 = 0 := congrArg Prod.fst e0
      have a2 : nB 0 1 = 1 := congrArg Prod.snd e0
      rw [a1, a2] at hf
      exact hf
    have s3 : Same H2 (upd H2 p (.lst [.ref x])) := same_new hp
    have hp3 : upd H2 p (.lst [.ref x]) p = some (.lst [.ref x]) := upd_same
    have f3 := f0.same s3
    have hm3 := s3 _ _ (s2 _ _ hm1)
    have s13 := s1.trans (s2.trans s3)
    generalize upd H2 p _ = H3 at *
    refine ⟨_, rfl, p, (many : Int), [.ref x], rfl, rfl, hp3, by omega, by omega, Nat.le_of_lt (small1000 (by show 1 * (many : Int).toNat ≤ 1000; omega)), fun fl hfl => ?_⟩
    have nat : ((many : Int)).toNat = many := by omega
    have s4 : Same H3 (upd H3 fl (.lst (List.replicate ((many : Int).toNat) [V.ref x]).flatten)) := same_new hfl
    have hfl4 : upd H3 fl (.lst (List.replicate ((many : Int).toNat) [V.ref x]).flatten) fl = some (.lst (List.replicate many (V.ref x))) := by rw [upd_same, nat, flat_rep]
    have f4 := f3.same s4
    have hm4 := s4 _ _ hm3
    have s14 := s13.trans s4
    have flf : H fl = none := Same.free s13 hfl
    have mfl : ml ≠ fl := fun z => by rw [z, hfl] at hm3; cases hm3
    generalize upd H3 fl _ = H4 at *
    refine ⟨_, rfl, _, rfl, a, ml, _, _, rfl, SqL.of (s14 _ _ ha), SqL.of hm4, ?_⟩
    refine for_it (walk_zip (xs := vs) (ys := xr.map V.int) (n := (tk.zip xr).length) (by rw [List.length_map, List.length_zip, hv.1]))
      (fun i σ Hc => Same H Hc ∧ Hc ml = some (.lst (xr.map V.int)) ∧ ∃ (us : List V) (x6 x7 x8 : Option V), σ = [some (.ref a), some (.ref r), some (.int (many : Nat)), some (.int x0), some (.ref ml), some (.ref fl), x6, x7, x8] ∧ Hc fl = some (.lst us) ∧
        FRs C Hc us (((tk.zip xr).take i).foldl (fun fs z => fs.set z.1.1 (nT (z.2 * z.1.2) x0, nB (z.2 * z.1.2) x0)) (List.replicate many (0, 1))) ∧ us.length = many)
      ⟨s14, hm4, _, _, _, _, rfl, hfl4, frs_rep f4 many, List.length_replicate⟩ (fun i σ Hc _ p => ⟨SqL.of (p.1 _ _ ha), SqL.of p.2.1⟩) ?_ ?_
    · rintro i v σ Hc H' hi ⟨sm, hmc, us, x6, x7, x8, rfl, hflc, hu, ul⟩ ⟨T0, u1, u2, rfl, nT0, rfl, h1, h2⟩
      have h1 : vs[i]? = some u1 := h1
      have h2 : (xr.map V.int)[i]? = some u2 := h2
      obtain ⟨⟨num, bot⟩, htk, t, rfl, ht⟩ := hv.2 i u1 h1
      obtain ⟨mk, hmk, rfl⟩ := il_at h2
      obtain ⟨tz1, tz2⟩ := tz _ (List.mem_of_getElem? htk)
      have tz1 : num < many := tz1
      have mz := rz mk (List.mem_cons_of_mem _ (List.mem_of_getElem? hmk))
      have sT : Same Hc (upd Hc T0 (.tup [.ref t, .int mk])) := same_new nT0
      have ht' := sT _ _ (sm _ _ ht)
      have tt : upd Hc T0 (.tup [.ref t, .int mk]) T0 = some (.tup [.ref t, .int mk]) := upd_same
      have hfl' := sT _ _ hflc
      have hmc' := sT _ _ hmc
      have hu' := hu.same sT
      have sm' := sm.trans sT
      generalize upd Hc T0 _ = Hn at *
      refine ⟨T0, _, rfl, SqT.of tt, rfl, _, _, rfl, t, _, rfl, SqT.of ht', rfl, _, _, rfl, _, _, rfl, rfl, _, _, rfl, rfl, ?_⟩
      refine ⟨_, rfl, _, rfl, _, _, rfl, rfl, wide_mul mz tz2 (by decide) (by decide) (by decide), _, rfl, fun y dy ny ndy ney => ⟨y, dy, mk * bot, x0, rfl, upd_same, t0', dv8 t0' x0z, fun H' hf hs => ⟨rfl, ?_⟩⟩⟩
      have s5 := same_make (C := C) ny ndy hs
      have e5 := s5 _ _ hfl'
      refine ⟨_, rfl, _, rfl, fl, us, (num : Int), num, rfl, rfl, e5, ?_, ?_⟩
      · unfold ixN
        rw [if_pos (by omega), if_pos (by omega)]
        exact congrArg some (by omega)
      · refine ⟨same_upd flf (sm'.trans s5), by rw [upd_ne mfl]; exact s5 _ _ hmc', us.set num (.ref y), _, _, _, rfl, upd_same, ?_, by rw [List.length_set]; exact ul⟩
        rw [take_snoc (x := ((num, bot), mk)) (by rw [List.getElem?_zip_eq_some]; exact ⟨htk, hmk⟩), List.foldl_append]
        exact A2.set ((hu'.same s5).updl e5) ⟨y, rfl, hf.updl e5⟩ num
    · rintro σ Hc ⟨sm, hmc, us, x6, x7, x8, rfl, hflc, hu, ul⟩
      rw [List.take_of_length_le (Nat.le_refl _)] at hu
      refine ⟨_, rfl, fl, _, rfl, .inl ⟨SqL.of hflc, fun t ht => ?_⟩⟩
      exact q t _ ⟨us, upd_same, hu.same (same_new ht)⟩ (sm.trans (same_new ht))
end
end FR
set_option Elab.async false
set_option linter.all false
set_option maxRecDepth 100000
set_option maxHeartbeats 4000000
/-! is_solution -/
namespace SU
open PySem PySem.SeqAt
open AutoSeq1 (wpAny_loadPart')
open MeetsSeq MeetsSeq2 MeetsSeq3 SeqRoads2
theorem str_no_dict (b : Str) (u : Tok) (l : Addr) (c : Value) (es : Array DictEntry) (ep : Nat) (dd : Option Addr) (sl : Array (Option Value)) :
    Meets (Builtin.«str.__eq__» ⟨[.str b u, .ref l], []⟩) (fun _ R s => s.heap.get? l = some { cls := c, dict := dd, data := .dict es ep, slots := sl } ∧ R (.ok (.ret .notImplemented)) s) :=
  .of_wp fun prog w A R s h => by obtain ⟨hp, g, d, tk, os⟩ := s; obtain ⟨hl, h⟩ := h; wp_walk using wpAny_load hl; exact ⟨_, rfl, h⟩
section
variable {prog : Program} {w : World} {A : Around} {E : Value → Shared → Prop} {s : Shared}
theorem dict_no_str {Q : Value → Shared → Prop} {a : Addr} (b : Str) (u : Tok) (hT : s.TypeIs (.ref a) "dict") (h : Q .notImplemented s) :
    wpAny (model prog w) A (call (.builtin "dict.__eq__") [.ref a, .str b u]) Q E s := by
  refine wpAny_call_entry PySem.F.slot_dict_eq hT PySem.F.entry_dict_eq ?_ (PySem.F.args_dict_eq_2 _ _)
  show wpAny _ _ (Builtin.Dict.dictSlotArgs "__eq__" ⟨[.ref a, .str b u], []⟩ >>= _) _ _ s
  refine wpAny_bind ?_
  unfold Builtin.Dict.dictSlotArgs
  refine wpAny_bind (wpAny_notOrdered_dict hT ?_)
  show wpAny _ _ (pure (Value.ref a, Value.str b u)) _ _ s
  refine wpAny_pure ?_
  refine wpAny_bind (wpAny_isInstance (T := "str") (b := false) (typeIs_str s b u) PySem.F.sub_str_dict ?_)
  wp_walk
  exact ⟨_, rfl, h⟩
end
theorem eqAt_str_dict {A : Around} {s : Shared} {l : Addr} {o : Obj} {es : Array DictEntry} {ep : Nat} (b : Str) (u : Tok) (ho : s.heap.get? l = some o) (hc : o.cls = .type "dict") (hd : o.data = .dict es ep) (hu : A.units < cLine) : EqAt A s (.str b u) (.ref l) false := fun prog w E Q h => by
  obtain ⟨cls, dd, data, sl⟩ := o
  simp only at hc hd
  subst hc hd
  unfold eqBool
  refine wpAny_holding ?_
  refine wpAny_ite_split (fun hab => absurd (eq_of_beq hab) nofun) (fun _ => ?_)
  refine wpAny_bind ?_
  exact rc_eq_decline_or (k := false) (typeIs_str s b u) ⟨_, ho, rfl⟩ (by decide) F.sub_dict_str F.slot_str_eq F.slot_dict_eq_refl
    (fun _ hq => call_meets F.slot_str_eq (typeIs_str s b u) F.entry_str_eq (F.args_str_eq_2 _ _) (str_no_dict b u l (.type "dict") es ep dd sl) ⟨ho, hq⟩)
    (fun _ hq => dict_no_str b u ⟨_, ho, rfl⟩ hq)
    (fun _ hq => wpAny_of_eq (rfl : isSame (.str b u) (.ref l) = pure false) hq) (.inr hu) (wpAny_truthy_bool h)
end SU
namespace FR
open PySem PySem.Spec PyProof.Rows L2 LD RF
abbrev JD : Type := Option (Str × List PI)
def wSol : Str := "falling"
def wNone : Str := "kept"
/-- what stands first in a pair, where it is no text -/
def Fst1 (H : Hp) (x : V) : Prop := (∃ i, x = .int i) ∨ (∃ q, x = .ref q ∧ H q = some (.lst [])) ∨ (∃ q, x = .ref q ∧ H q = some (.dK [])) ∨ (∃ q s, x = .ref q ∧ H q = some (.tup [.str s]) ∧ PyData.strOk s = true)
theorem Fst1.odd {K : PySem.W.Frag} {H : Hp} {x : V} (h : Fst1 H x) : ∃ T, Odd K H x T ∧ T ≠ "str" := by
  rcases h with ⟨i, e⟩ | ⟨q, e, h⟩ | ⟨q, e, h⟩ | ⟨q, s, e, h, _⟩ <;> subst e
  · exact ⟨_, .int i, by decide⟩
  · exact ⟨_, .lst h, by decide⟩
  · exact ⟨_, .dK h, by decide⟩
  · exact ⟨_, .tup h, by decide⟩
theorem Fst1.same {H H' : Hp} {x : V} (h : Fst1 H x) (s : Same H H') : Fst1 H' x := by
  rcases h with ⟨i, e⟩ | ⟨q, e, h⟩ | ⟨q, e, h⟩ | ⟨q, z, e, h, so⟩
  · exact .inl ⟨i, e⟩
  · exact .inr (.inl ⟨q, e, s _ _ h⟩)
  · exact .inr (.inr (.inl ⟨q, e, s _ _ h⟩))
  · exact .inr (.inr (.inr ⟨q, z, e, s _ _ h, so⟩))
/-- what stands first is in no tuple of texts -/
theorem op_notInF {X : Cx} (hu : X.A.units + 65 < cLine) : OpR X (compareOp .NotIn) (fun x y H Q => ∃ (b : Addr) (z1 z2 : Str), y = .ref b ∧ SqT X.K H b [.str z1, .str z2] ∧ PyData.strOk z1 = true ∧ PyData.strOk z2 = true ∧ ((Fst1 H x ∧ Q (.bl true) H) ∨ (∃ z, x = .str z ∧ PyData.strOk z = true ∧ Q (.bl (!(decide (z1 = z) || decide (z2 = z)))) H))) := by
  intro pins s σ H x y v u Q I rx ry ⟨b, z1, z2, ey, hb, k1, k2, h⟩
  subst ey
  have dy : Dp X.K H (.ref b) (.tuple [.str z1, .str z2]) := .tup hb (.cons (.str z1) (.cons (.str z2) .nil))
  obtain ⟨bs, r2⟩ := Dp.reads I _ _ u dy ry
  have hxs : PyData.canLayAll0 [.str z1, .str z2] = true := by simp [PyData.canLayAll0, PyData.canLay0, k1, k2]
  have hd0 : PyData.depthAll [.str z1, .str z2] ≤ 1 := by simp [PyData.depthAll, PyData.depth]
  have fin : ∀ (d : PyData) (as : List Addr) (r : Bool), Reads s.heap v d as → d.canLay0 = true → (!(PyData.eqv (.str z1) d || (PyData.eqv (.str z2) d || false))) = r → Q (.bl r) H → wpAny (model X.prog X.w) X.A (compareOp .NotIn v u) (EP X pins σ Q) X.xe s := fun d as r r1 cl er q => by
    refine SeqAt.notIn_tuple_reads r2 r1 hxs cl (by omega) ⟨.bl _, H, I, rfl, ?_⟩
    have e : ([PyData.str z1, PyData.str z2].any fun y => PyData.eqv y d) = (PyData.eqv (.str z1) d || (PyData.eqv (.str z2) d || false)) := rfl
    rw [e, er]
    exact q
  rcases h with ⟨f, q⟩ | ⟨z, e, kz, q⟩
  · rcases f with ⟨i, e⟩ | ⟨p, e, hp⟩ | ⟨p, e, hp⟩ | ⟨p, z, e, hp, kz⟩ <;> subst e
    · obtain ⟨as, r1⟩ := Dp.reads I _ _ v (Dp.int (K := X.K) i) rx
      exact fin _ as true r1 (by simp [PyData.canLay0]) (by simp [PyData.eqv]) q
    · obtain ⟨as, r1⟩ := Dp.reads I _ _ v (Dp.lst (K := X.K) (SqL.of hp) .nil) rx
      exact fin _ as true r1 (by simp [PyData.canLay0, PyData.canLayAll0]) (by simp [PyData.eqv]) q
    · cases (show v = .ref p from rx)
      obtain ⟨_, _, vs, kv, o, es, ep, h1, h2, h3, _, h5, _⟩ := (show ObjOk X.prog X.w H s.heap p (.dK []) from I.hok p _ hp)
      have ev : vs = [] := by cases kv; rfl
      subst ev
      obtain ⟨its, rv, pl, hz⟩ := I.tuple hb
      cases (show u = .ref b from ry)
      refine SeqAt.notIn_tupleAt (fun _ => false) pl (fun y hy => ?_) ⟨.bl _, H, I, rfl, ?_⟩
      · cases rv with
        | cons ra rva =>
          cases rva with
          | cons rb rvb =>
            cases rvb
            obtain ⟨ta, ea⟩ := ra
            obtain ⟨tb, eb⟩ := rb
            subst ea eb
            have hy' : y = Value.str z1 ta ∨ y = Value.str z2 tb := by simpa using hy
            rcases hy' with e | e <;> subst e
            · exact SU.eqAt_str_dict z1 ta h1 h2.1 h3 (show X.A.in1.units < cLine by have : X.A.in1.units ≤ X.A.units + 1 := by { first | exact Nat.le_refl _ | exact Nat.le_succ _ | (simp [Around.in1]) }; omega)
            · exact SU.eqAt_str_dict z2 tb h1 h2.1 h3 (show X.A.in1.units < cLine by have : X.A.in1.units ≤ X.A.units + 1 := by { first | exact Nat.le_refl _ | exact Nat.le_succ _ | (simp [Around.in1]) }; omega)
      · have e : (!(its.toArray.any fun _ => false)) = true := by simp
        rw [e]
        exact q
    · obtain ⟨as, r1⟩ := Dp.reads I _ _ v (Dp.tup (K := X.K) (SqT.of hp) (.cons (.str z) .nil)) rx
      exact fin _ as true r1 (by simp [PyData.canLay0, PyData.canLayAll0, kz]) (by simp [PyData.eqv]) q
  · subst e
    obtain ⟨as, r1⟩ := Dp.reads I _ _ v (Dp.str (K := X.K) z) rx
    exact fin _ as _ r1 (by simp [PyData.canLay0, kz]) (by simp only [PyData.eqv, Bool.or_false]; rfl) q
/-- what a value is: a pair of one of the two words and fractions, or nothing of that kind -/
theorem nums_fv {K : PySem.W.Frag} {C : Addr} {H : Hp} {b : Addr} {ys : List V} {ps : List PI} (h : H b = some (.tup ys)) (f : FVs C H ys ps) (l : ys.length ≤ 90) : NumsR K C H (.ref b) true := by
  refine .inr ⟨b, ys, List.replicate ys.length true, rfl, h, l, by rw [List.length_replicate], fun i z hz => ?_, by simp⟩
  obtain ⟨p, _, fv⟩ := f.2 i z hz
  have il := (List.getElem?_eq_some_iff.mp hz).1
  refine ⟨true, by rw [List.getElem?_replicate, if_pos il], ?_⟩
  rcases fv with ⟨q, e, f⟩ | ⟨e, _⟩
  · exact .inl ⟨q, _, _, e, f, rfl⟩
  · exact .inr (.inl ⟨_, e, rfl⟩)
end FR
set_option Elab.async false
set_option linter.all false
set_option maxRecDepth 100000
set_option maxHeartbeats 4000000
/-! _fit -/
namespace CN
open RF
theorem ent_set_or {l : List Int} {q k : Nat} {x : Int} : ent (l.set q x) k = x ∨ ent (l.set q x) k = ent l k := by
  by_cases h : q < l.length
  · rw [ent_set h]
    split
    · exact .inl rfl
    · exact .inr rfl
  · rw [List.set_eq_of_length_le (by omega)]
    exact .inr rfl
theorem fold_sz {w : Nat} {B : Nat} : ∀ (l : List (Nat × Int)) (fs : List Int), (∀ z ∈ l, z.2.natAbs < B) → (∀ k, (ent fs k).natAbs < B) → ∀ k, (ent (l.foldl (fun fs z => if w ≤ z.1 then fs.set (z.1 - w) z.2 else fs) fs) k).natAbs < B
  | [], _, _, h => h
  | z :: l, fs, hz, h => by
    rw [List.foldl_cons]
    refine fold_sz l _ (fun x hx => hz x (.tail _ hx)) fun k => ?_
    split
    · rcases ent_set_or (l := fs) (q := z.1 - w) (k := k) (x := z.2) with e | e
      · rw [e]; exact hz z (.head _)
      · rw [e]; exact h k
    · exact h k
theorem fact_sz {w m : Nat} {st : Co} {v : Nat} {line : List Int} {M : Nat} (hd : st.d.natAbs < 2 ^ M) (hl : ∀ j, (ent line j).natAbs < 2 ^ M) : ∀ k, (ent (factC w m st v line) k).natAbs < 2 ^ M := by
  unfold factC
  refine fold_sz _ _ (fun z hz => ?_) fun k => by rw [ent_rep0]; exact Nat.pow_pos (by decide)
  rcases List.mem_cons.mp hz with e | e
  · rw [e]; exact hd
  · have := (List.of_mem_zip (show (z.1, z.2) ∈ _ from e)).2
    obtain ⟨x, mx, ex⟩ := List.mem_map.mp this
    rw [← ex, Int.natAbs_neg]
    obtain ⟨i, hi, e2⟩ := List.getElem_of_mem (List.mem_of_mem_drop mx)
    have := hl i
    rw [ent_some (List.getElem?_eq_getElem hi), e2] at this
    exact this
end CN
namespace FR
open PySem PySem.Spec PyProof.Rows L2 RF CN LK LamX NdefX RZ
theorem run_sz {lines : List (List Int)} {w m : Nat} (W : Wid lines w m) : ∀ (T : Nat) (st : Co) (fs : List Int), CI lines w st → runC lines w T st = some (.bar fs) → ∀ k, (ent fs k).natAbs < 2 ^ m
  | 0, _, _, _, h => by cases h
  | T + 1, st, fs, I, h => by
    unfold runC at h
    cases e : stepC lines w st with
    | inr s =>
      rw [e] at h
      exact run_sz W T s fs (I.step W.len e) h
    | inl x =>
      rw [e] at h
      cases h
      unfold stepC at e
      cases e1 : belowC lines w st with
      | none => rw [e1] at e; cases e
      | some v =>
        rw [e1] at e
        obtain ⟨hv, _, _⟩ := below_some e1
        cases e2 : wayC w st (lineC lines w st v) with
        | none =>
          simp only [e2] at e
          cases e
          exact fact_sz (W.dt st I).1 ((W.dt st I).2 v hv)
        | some a => simp only [e2] at e; cases e
abbrev sFt : Stmt := top 35
abbrev NFt : List Str := ["rows", "totals", "lines", "bottoms", "row", "total", "tops", "bottom", "corner", "factors", "sum_of_totals", "scaled", "factor", "line"]
theorem scFt : FnScope NFt ["rows", "totals"] (defScope sFt) := ⟨rfl, rfl, rfl, by decide +kernel, rfl, by decide +kernel, by decide +kernel⟩

/-! ### the model -/
def linesF (pss : List (List PI)) (ts : List PI) : List (List Int) := List.zipWith (fun ps t => lineP (t :: ps)) pss ts
def botsF (pss : List (List PI)) (ts : List PI) : List Int := List.zipWith (fun ps t => lcmP (t :: ps)) pss ts
def wF : Str := "fit"
def wB : Str := "bar"
def fitP (pss : List (List PI)) (ts : List PI) : Res → Str × List PI
  | .fit st => (wF, ovP (st.rows.map fun r => ent r 0) st.d)
  | .bar fs => (wB, ovP (List.zipWith (fun f b => f * b) fs (botsF pss ts)) (-(List.zipWith (fun f l => f * ent l 0) fs (linesF pss ts)).sum))
/-- the pair that is returned -/
def SolAt (C : Addr) (H : Hp) (t : Addr) (z : Str) (ps : List PI) : Prop := ∃ b, H t = some (.tup [.str z, .ref b]) ∧ TFr C H b ps
def SqA (K : PySem.W.Frag) (H : Hp) (a : Addr) (xs : List V) : Prop := SqT K H a xs ∨ SqL K H a xs
theorem SqA.same {K : PySem.W.Frag} {H H' : Hp} {a : Addr} {xs : List V} (h : SqA K H a xs) (s : Same H H') : SqA K H' a xs := h.imp (Same.seqT s) (Same.seq s)
/-- rows and totals: tuples or lists, of tuples or lists -/
structure FtIn (K : PySem.W.Frag) (C : Addr) (H : Hp) (a c : Addr) (pss : List (List PI)) (ts : List PI) (vs ws : List V) : Prop where
  both : (SqL K H a vs ∧ SqL K H c ws) ∨ (SqT K H a vs ∧ SqT K H c ws)
  rows : AG (fun v ps => ∃ q xs, v = .ref q ∧ SqA K H q xs ∧ FVs C H xs ps) vs pss
  tot : FVs C H ws ts
/-- what the numbers must be -/
structure FtOk (pss : List (List PI)) (ts : List PI) (n m : Nat) : Prop where
  len : ts.length = pss.length
  row : ∀ ps ∈ pss, ps.length = n
  ne : 0 < pss.length
  few : pss.length ≤ 80
  lf : ∀ (i : Nat) ps t, pss[i]? = some ps → ts[i]? = some t → AllLf (t :: ps) ∧ Shr (t :: ps)
  wid : Wid (linesF pss ts) n m
theorem FtOk.line {pss : List (List PI)} {ts : List PI} {n m : Nat} (h : FtOk pss ts n m) {i : Nat} {ps : List PI} {t : PI} (h1 : pss[i]? = some ps) (h2 : ts[i]? = some t) : (linesF pss ts)[i]? = some (lineP (t :: ps)) ∧ (botsF pss ts)[i]? = some (lcmP (t :: ps)) := by
  unfold linesF botsF
  rw [List.getElem?_zipWith, List.getElem?_zipWith, h1, h2]
  exact ⟨rfl, rfl⟩
theorem FtOk.lens {pss : List (List PI)} {ts : List PI} {n m : Nat} (h : FtOk pss ts n m) : (linesF pss ts).length = pss.length ∧ (botsF pss ts).length = pss.length := by
  unfold linesF botsF
  rw [List.length_zipWith, List.length_zipWith, h.len, Nat.min_self]
  exact ⟨rfl, rfl⟩
theorem gr_l2 {ll bl : Addr} {H : Hp} {v : V} {r : List Int} (h : ∃ q, v = .ref q ∧ q ≠ ll ∧ q ≠ bl ∧ H q = some (.lst (r.map V.int))) {o : HO} {d : Addr} (hd : d = ll ∨ d = bl) : ∃ q, v = .ref q ∧ q ≠ ll ∧ q ≠ bl ∧ upd H d o q = some (.lst (r.map V.int)) := by
  obtain ⟨q, e, n1, n2, t⟩ := h
  exact ⟨q, e, n1, n2, by rw [upd_ne (by rcases hd with z | z <;> rw [z] <;> assumption)]; exact t⟩
section
variable {P : Program} {w : World} {K : PySem.W.Frag} {mg : Str → Option Value} {base : Heap} {D C fI pT gT pB gB : Addr} {fdI fdT fdB : FuncData}
def spFt (K : PySem.W.Frag) (C : Addr) (Tt : List (Addr × Str)) : Sp := fun vs H Q _ => ∃ (a c : Addr) (pss : List (List PI)) (ts : List PI) (n m N : Nat) (res : Res) (us ws : List V), vs = [.ref a, .ref c] ∧ FtIn K C H a c pss ts us ws ∧ FtOk pss ts n m ∧ Tabs Tt H ∧ runC (linesF pss ts) n N (startC n) = some res ∧
  ∀ t H', ExtN H H' → Tabs Tt H' → SolAt C H' t (fitP pss ts res).1 (fitP pss ts res).2 → Q (.ref t) H'
theorem ok_ft {f : Addr} {Tt : List (Addr × Str)} {fd : FuncData} (F : Fun K "_fit" "_fit" sFt f fd) (T : TxtC6 K mg D) (gO : Glo P w K mg base "over_one_bottom" 5 ["fractions"] (spOver C)) (gCb : Glo P w K mg base "corner_or_bar" 4 ["lines", "width"] (spKb D Tt)) (gOv : Glo P w K mg base "_over" 4 ["tops", "bottom"] (spOvr C)) : FnOk P w K mg base CX0 6 f fd ["rows", "totals"] (spFt K C Tt) := by
  refine F.ok scFt (fun vs H Q E h => ?_) (fun cdv A outer s H vs Q E hr h => ?_)
  · obtain ⟨a, c, pss, ts, n, m, N, res, us, ws, rfl, _⟩ := h
    rfl
  · obtain ⟨a, c, pss, ts, n, m, N, res, us, ws, rfl, hin, ok, tb, run, q⟩ := h
    refine ⟨_, (pss_cons (ps_set (i := 2) scFt.nd rfl (Or.inl rfl) (pe_lst pa_nil))
      (pss_cons (ps_set (i := 3) scFt.nd rfl (Or.inl rfl) (pe_lst pa_nil))
      (pss_cons (ps_for PassesOwn.never rfl (pi_zipA (by rfl) T.zip (pa_cons (pv 0) (pa_cons (pv 1) pa_nil))) (pg_tup (by rfl) (pgs_cons (pg_name (i := 4) scFt.nd rfl (.inl rfl)) (pgs_cons (pg_name (i := 5) scFt.nd rfl (.inl rfl)) pgs_nil)))
        (pss_cons (ps_asg (pe_call gO.G (hr.mono (by decide)) (by rfl) gO.m gO.k gO.b .nil pass0 (pa_cons (pe_tup (pa_cons (pv 5) (StX.pa_star (pv 4) pa_nil))) pa_nil)) (pg_tup (by rfl) (pgs_cons (pg_name (i := 6) scFt.nd rfl (.inl rfl)) (pgs_cons (pg_name (i := 7) scFt.nd rfl (.inl rfl)) pgs_nil))))
      (pss_cons (ps_expr (pe_bm PySem.F.plainAttrs_list PySem.F.slot_list_append PySem.F.type_list_append mt_append (pv 2) (pa_cons (pv 6) pa_nil)))
      (pss_one (ps_expr (pe_bm PySem.F.plainAttrs_list PySem.F.slot_list_append PySem.F.type_list_append mt_append (pv 3) (pa_cons (pv 7) pa_nil)))))))
      (pss_cons (ps_asg (pe_call gCb.G (hr.mono (by decide)) (by rfl) gCb.m gCb.k gCb.b .nil pass0 (pa_cons (pv 2) (pa_cons (pe_callB call_len_seq (by rfl) T.len PySem.boot_len (pa_cons (pe_ix ix_seq (pv 0) pe_int (fun _ _ => rfl)) pa_nil)) pa_nil))) (pg_tup (by rfl) (pgs_cons (pg_name (i := 8) scFt.nd rfl (.inl rfl)) (pgs_cons (pg_name (i := 9) scFt.nd rfl (.inl rfl)) pgs_nil))))
      (pss_cons (ps_if (pt_cmpR op_notN (pv 8) pe_non (nomark _)) (pss_one (ps_ret (pe_tup (pa_cons pe_str (pa_cons (pe_call gOv.G (hr.mono (by decide)) (by rfl) gOv.m gOv.k gOv.b .nil pass0 (pa_cons (pe_lc (own := [("row", 4)]) (g := (gName 4)) (tt := tYes) rfl scFt.nd (pi_list (pe_fld (pv 8) rfl)) (blkOk_by (N := NFt) (sc := (defScope sFt)) (by decide +kernel)) (fun _ _ _ _ _ => (pg_name (i := 4) scFt.nd rfl (.inl rfl))) (fun _ _ _ _ _ => pts_nil) (fun _ _ _ _ _ => (pe_ix (ix_listK (K := K) rfl) (pv 4) pe_int (fun _ _ => rfl)))) (pa_cons (pe_fld (pv 8) rfl) pa_nil))) pa_nil))))) pss_nil)
      (pss_cons (ps_set (i := 10) scFt.nd rfl (Or.inl rfl) (pe_callB (cr_sum rfl) (by rfl) T.sum (by decide +kernel) (pa_cons (pe_lc (own := [("factor", 12), ("line", 13)]) (g := (gTup K 2 (gCons (gName 12) (gCons (gName 13) gNil)))) (tt := tYes) rfl scFt.nd (pi_zip (by rfl) T.zip (pa_cons (pv 9) (pa_cons (pv 2) pa_nil))) (blkOk_by (N := NFt) (sc := (defScope sFt)) (by decide +kernel)) (fun _ _ _ _ _ => (pg_tupK (K := K) rfl rfl (pgs_cons (pg_name (i := 12) scFt.nd rfl (.inl rfl)) (pgs_cons (pg_name (i := 13) scFt.nd rfl (.inl rfl)) pgs_nil)))) (fun _ _ _ _ _ => pts_nil) (fun _ _ _ _ _ => (pe_op op_mulW (pv 12) (pe_ix (ix_listK (K := K) rfl) (pv 13) pe_int (fun _ _ => rfl))))) pa_nil)))
      (pss_cons (ps_setLc (i := 11) (own := [("factor", 12), ("bottom", 7)]) (g := (gTup K 2 (gCons (gName 12) (gCons (gName 7) gNil)))) (tt := tYes) rfl scFt.nd rfl rfl (sw_true rfl rfl rfl (by decide +kernel)) (pi_zip (by rfl) T.zip (pa_cons (pv 9) (pa_cons (pv 3) pa_nil))) (blkOk_by (N := NFt) (sc := (defScope sFt)) (by decide +kernel)) (fun _ _ _ _ _ => (pg_tupK (K := K) rfl rfl (pgs_cons (pg_name (i := 12) scFt.nd rfl (.inl rfl)) (pgs_cons (pg_name (i := 7) scFt.nd rfl (.inl rfl)) pgs_nil)))) (fun _ _ _ _ _ => pts_nil) (fun _ _ _ _ _ => (pe_op op_mulW (pv 12) (pv 7))))
      (pss_one (ps_ret (pe_tup (pa_cons pe_str (pa_cons (pe_call gOv.G (hr.mono (by decide)) (by rfl) gOv.m gOv.k gOv.b .nil pass0 (pa_cons (pv 11) (pa_cons (pe_un un_neg (pv 10)) pa_nil))) pa_nil)))))))))))), ?_⟩
    have few := ok.few
    refine ⟨Nat.zero_le _, fun ll hll => ?_⟩
    have s1 : Same H (upd H ll (.lst [])) := same_new hll
    have h1 : upd H ll (.lst []) ll = some (.lst []) := upd_same
    generalize upd H ll _ = H1 at s1 h1 ⊢
    refine ⟨Nat.zero_le _, fun bl hbl => ?_⟩
    have lb : ll ≠ bl := fun z => by rw [z] at h1; rw [h1] at hbl; cases hbl
    have s2 : Same H (upd H1 bl (.lst [])) := s1.trans (same_new hbl)
    have h2 : upd H1 bl (.lst []) bl = some (.lst []) := upd_same
    have h12 : upd H1 bl (.lst []) ll = some (.lst []) := by rw [upd_ne lb]; exact h1
    have hb0 : H bl = none := Same.free s1 hbl
    generalize upd H1 bl _ = H2 at s2 h2 h12 ⊢
    -- the loop
    have ul : us.length = pss.length := hin.rows.1
    have wl : ws.length = pss.length := by rw [hin.tot.1, ok.len]
    obtain ⟨len1, len2⟩ := ok.lens
    have ll0 : H ll = none := hll
    refine ⟨_, rfl, _, rfl, a, c, us, ws, rfl, for_zipA hin.both s2 (n := pss.length) (by omega)
      (fun i σ Hc => Same H Hc ∧ (∃ x4 x5 x6 x7 : Option V, σ = [some (.ref a), some (.ref c), some (.ref ll), some (.ref bl), x4, x5, x6, x7, none, none, none, none, none, none]) ∧ (∃ us2 : List V, Hc ll = some (.lst us2) ∧ AG (fun v r => ∃ q, v = .ref q ∧ q ≠ ll ∧ q ≠ bl ∧ Hc q = some (.lst (r.map V.int))) us2 ((linesF pss ts).take i)) ∧ Hc bl = some (.lst (((botsF pss ts).take i).map V.int)))
      ⟨s2, ⟨_, _, _, _, rfl⟩, ⟨[], h12, AG.nil⟩, h2⟩ (fun i σ H' _ p => p.1) ?_ ?_⟩
    · rintro i T0 u1 u2 σ Hc hi ⟨sm, ⟨x4, x5, x6, x7, rfl⟩, ⟨us2, hlc, hag⟩, hbc⟩ g1 g2 nT
      obtain ⟨ps, hps, qr, xs, rfl, hqr, fx⟩ := hin.rows.2 i u1 g1
      obtain ⟨t, ht, fv⟩ := hin.tot.2 i u2 g2
      obtain ⟨lf1, shr1⟩ := ok.lf i ps t hps ht
      obtain ⟨li, bi⟩ := ok.line hps ht
      have pn := ok.row ps (List.mem_of_getElem? hps)
      have n12 := ok.wid.w12
      have sT : Same Hc (upd Hc T0 (.tup [.ref qr, u2])) := same_new nT
      have tt0 : upd Hc T0 (.tup [.ref qr, u2]) T0 = some (.tup [.ref qr, u2]) := upd_same
      have smT := sm.trans sT
      have hlT := sT _ _ hlc
      have hbT := sT _ _ hbc
      have hagT := hag.imp (R' := fun v r => ∃ q, v = .ref q ∧ q ≠ ll ∧ q ≠ bl ∧ upd Hc T0 (.tup [.ref qr, u2]) q = some (.lst (r.map V.int))) fun _ _ ⟨q, e, n1, n2, t⟩ => ⟨q, e, n1, n2, sT _ _ t⟩
      generalize upd Hc T0 _ = HA at *
      refine ⟨T0, _, rfl, SqT.of tt0, rfl, _, _, rfl, _, _, rfl, rfl, ?_⟩
      refine ⟨_, rfl, _, rfl, qr, xs, rfl, hqr.same smT, ?_⟩
      refine ⟨Nat.le_of_lt (small1000 (by have := fx.1; simp only [List.length_append, List.length_cons, List.length_nil]; omega)), fun tpp htp => ?_⟩
      have sP : Same HA (upd HA tpp (.tup (u2 :: (xs ++ [])))) := same_new htp
      have tp1 : upd HA tpp (.tup (u2 :: (xs ++ []))) tpp = some (.tup (u2 :: xs)) := by rw [upd_same, List.append_nil]
      have smP := smT.trans sP
      have hlP := sP _ _ hlT
      have hbP := sP _ _ hbT
      have fxP := fx.same smP
      have fvP := fv.same smP
      have hagP := hagT.imp (R' := fun v r => ∃ q, v = .ref q ∧ q ≠ ll ∧ q ≠ bl ∧ upd HA tpp (.tup (u2 :: (xs ++ []))) q = some (.lst (r.map V.int))) fun _ _ ⟨q, e, n1, n2, t⟩ => ⟨q, e, n1, n2, sP _ _ t⟩
      refine ⟨tpp, t :: ps, rfl, ⟨⟨_, tp1, A2.cons fvP fxP⟩, by rw [List.length_cons]; omega, lf1, shr1⟩, fun ca cb HB hca hcb sB fca => ?_⟩
      have cal : ca ≠ ll := fun z => by rw [z, hlP] at fca; cases fca
      have cab : ca ≠ bl := fun z => by rw [z, hbP] at fca; cases fca
      generalize upd HA tpp _ = HB0 at *
      have smB := smP.trans sB
      have hlB := sB _ _ hlP
      have hbB := sB _ _ hbP
      have hagB := hagP.imp (R' := fun v r => ∃ q, v = .ref q ∧ q ≠ ll ∧ q ≠ bl ∧ HB q = some (.lst (r.map V.int))) fun _ _ ⟨q, e, n1, n2, t⟩ => ⟨q, e, n1, n2, sB _ _ t⟩
      refine ⟨cb, _, rfl, SqT.of hcb, rfl, _, _, rfl, _, _, rfl, rfl, ?_⟩
      have ul2 : us2.length ≤ 80 := by rw [hag.1, List.length_take]; omega
      refine ⟨_, rfl, .inl ⟨rfl, _, SqL.of hlB⟩, _, rfl, ll, _, _, rfl, rfl, hlB, small1000 (by omega), ?_⟩
      have hbC : upd HB ll (.lst (us2 ++ [.ref ca])) bl = some (.lst (((botsF pss ts).take i).map V.int)) := by rw [upd_ne (Ne.symm lb)]; exact hbB
      refine ⟨_, rfl, .inl ⟨rfl, _, SqL.of hbC⟩, _, rfl, bl, _, _, rfl, rfl, hbC, small1000 (by rw [List.length_map, List.length_take]; omega), ?_⟩
      refine ⟨fun q o e => ?_, ⟨_, _, _, _, rfl⟩, ⟨us2 ++ [.ref ca], by rw [upd_ne lb, upd_same], ?_⟩, ?_⟩
      · have q1 : q ≠ ll := fun z => by rw [z, ll0] at e; cases e
        have q2 : q ≠ bl := fun z => by rw [z, hb0] at e; cases e
        rw [upd_ne q2, upd_ne q1]
        exact smB _ _ e
      · rw [take_snoc li]
        refine AG.snoc (hagB.imp fun _ _ ⟨q, e, n1, n2, t⟩ => ⟨q, e, n1, n2, by rw [upd_ne n2, upd_ne n1]; exact t⟩) ⟨ca, rfl, cal, cab, ?_⟩
        rw [upd_ne cab, upd_ne cal]
        exact hca
      · rw [take_snoc bi, List.map_append, upd_same]; rfl
    · rintro σ Hc ⟨sm, ⟨x4, x5, x6, x7, rfl⟩, ⟨us2, hlc, hag⟩, hbc⟩
      rw [List.take_of_length_le (by omega)] at hag hbc
      have tbc := tb.ext sm
      obtain ⟨u0, hu0⟩ : ∃ u0, us[0]? = some u0 := ⟨_, List.getElem?_eq_getElem (by have := ok.ne; omega)⟩
      obtain ⟨p0, hp0, q0, x0, rfl, hq0, fx0⟩ := hin.rows.2 0 u0 hu0
      have l0 : x0.length = n := by rw [fx0.1]; exact ok.row p0 (List.mem_of_getElem? hp0)
      have hq0' := hq0.same sm
      have ixr : rIx K (.ref a) (.int 0) Hc = fun Q => rIx K (.ref a) (.int 0) Hc Q := rfl
      have lenr : ∀ Q : VK, Q (.ref q0) Hc → rIx K (.ref a) (.int 0) Hc Q := fun Q h => by
        rcases hin.both with ⟨z, _⟩ | ⟨z, _⟩
        · exact .inl ⟨a, us, 0, _, rfl, rfl, sm.seq z, atI_nat (j := 0) hu0, h⟩
        · exact .inr (.inl ⟨a, us, 0, _, rfl, rfl, Same.seqT sm z, atI_nat (j := 0) hu0, h⟩)
      refine ⟨_, rfl, _, rfl, lenr _ ⟨q0, x0, rfl, hq0'.symm, ?_⟩⟩
      rw [l0]
      have lm : LM Hc ll (linesF pss ts) := ⟨us2, hlc, hag.imp fun _ _ ⟨q, e, n1, n2, t⟩ => ⟨q, e, t⟩⟩
      refine ⟨ll, n, m, N, linesF pss ts, res, rfl, lm, ok.wid, tbc, run, fun tq H3 ex tb3 cb => ?_⟩
      have ex03 := (ExtN.of sm).trans ex
      have lm3 : H3 ll = some (.lst us2) := ex _ _ hlc (fun _ z => by cases z)
      have hag3 : AG (fun v r => ∃ q, v = .ref q ∧ H3 q = some (.lst (r.map V.int))) us2 (linesF pss ts) := hag.imp fun _ _ ⟨q, e, n1, n2, t⟩ => ⟨q, e, ex _ _ t (fun _ z => by cases z)⟩
      have hb3 := ex _ _ hbc (fun _ z => by cases z)
      have m9 := ok.wid.m9
      have m0 := ok.wid.m0
      have rok := run_ok ok.wid.len N (startC n) res (CI.start _ _) run
      cases res with
      | fit st =>
        obtain ⟨x, g, htq, hco⟩ := cb
        obtain ⟨I, _⟩ := rok
        refine ⟨tq, _, rfl, SqT.of htq, rfl, _, _, rfl, _, _, rfl, rfl, ?_⟩
        refine ⟨_, rfl, rfl, _, rfl, iteT ?_⟩
        obtain ⟨dx, fs, la, ra, hx, cf, _, hg, ⟨rag, wr, hra, hwr⟩⟩ := id hco
        refine ⟨_, rfl, x, D, dx, _, _, rfl, hx, T.cl, T.nR, cf.r, ra, rfl, ⟨_, SqL.of hra⟩, fun R hR => ?_⟩
        refine ll_g (cs := st.rows.map fun r => ent r 0) gr_int (by rw [hwr.1, I.rl]; have := ok.wid.w12; omega) (by rw [List.length_map, hwr.1]) hR (SqL.of hra) (fun _ => rfl) ?_ ?_
        · intro i v cc H4 Q4 hv hcc s4 _ q4
          obtain ⟨r, hr1, p, rfl, np, hp⟩ := hwr.2 i v hv
          rw [List.getElem?_map, hr1] at hcc
          cases hcc
          exact ⟨_, rfl, p, _, 0, _, rfl, rfl, SqL.of (s4 _ _ hp), atI_ent (q := 0) (by rw [I.rw_ r (List.mem_of_getElem? hr1)]; omega), q4 _ _ (Same.refl _) rfl⟩
        · intro H4 us4 s4 hR4 hag4
          have e4 := ag_ints hag4
          subst e4
          refine ⟨_, rfl, x, D, dx, _, _, rfl, s4 _ _ hx, T.cl, T.nD, cf.d, ?_⟩
          refine ⟨R, _, st.d, rfl, hR4, by rw [List.length_map, I.rl]; have := ok.wid.w12; omega, by have := I.dp; omega, pow_up (ok.wid.dt st I).1 (by omega), fun tb_ H5 htf s5 => ?_⟩
          refine ⟨(by show 2 ≤ sizeLine; decide), fun t2 ht2 => ?_⟩
          have s6 : Same H5 (upd H5 t2 (.tup [.str wF, .ref tb_])) := same_new ht2
          exact q t2 _ (ex03.trans (ExtN.of ((s4.trans s5).trans s6))) (((tb3.ext s4).ext s5).ext s6) ⟨tb_, upd_same, htf.same s6⟩
      | bar fs =>
        obtain ⟨p, htq, hp⟩ := cb
        refine ⟨tq, _, rfl, SqT.of htq, rfl, _, _, rfl, _, _, rfl, rfl, ?_⟩
        refine ⟨_, rfl, rfl, _, rfl, iteF ?_⟩
        have rok : BarOk (linesF pss ts) n fs := rok
        have fsz := run_sz ok.wid N (startC n) fs (CI.start _ _) run
        have flen : fs.length = pss.length := by rw [rok.len, len1]
        have e2 : us2.length = pss.length := by rw [hag3.1, len1]
        refine ⟨_, rfl, _, rfl, p, ll, _, _, rfl, SqL.of hp, SqL.of lm3, fun R hR => ?_⟩
        refine lz_g (cs := List.zipWith (fun f l => f * ent l 0) fs (linesF pss ts)) gr_int (by rw [List.length_map, flen, e2]) (by rw [List.length_map]; omega) (by rw [List.length_zipWith, List.length_map, len1]; omega) hR (SqL.of hp) (SqL.of lm3) (fun _ _ => rfl) ?_ ?_
        · intro i b1 b2 cc H4 Q4 h1 h2 hcc s4 _ q4
          obtain ⟨e, he, rfl⟩ := il_at h1
          obtain ⟨l, hl1, p2, rfl, hp2⟩ := hag3.2 i b2 h2
          have ec := zw_get he hl1 hcc
          subst ec
          have ml := List.mem_of_getElem? hl1
          have fe := fsz i
          rw [ent_some he] at fe
          exact ⟨_, rfl, _, rfl, p2, _, 0, _, rfl, rfl, SqL.of (s4 _ _ hp2), atI_ent (q := 0) (by rw [ok.wid.len l ml]; omega), _, _, rfl, rfl, wide_mul fe (ok.wid.sz l ml 0) (by omega) (by omega) (by omega), q4 _ _ (Same.refl _) rfl⟩
        · intro H4 us4 s4 hR4 hag4
          have e4 := ag_ints hag4
          subst e4
          refine ⟨R, _, rfl, SqL.of hR4, ?_⟩
          have hp4 := s4 _ _ hp
          have hb4 := s4 _ _ hb3
          refine ⟨_, rfl, _, rfl, p, bl, _, _, rfl, SqL.of hp4, SqL.of hb4, fun R2 hR2 => ?_⟩
          refine lz_ints (xs := fs) (ys := botsF pss ts) (by rw [flen, len2]) (by omega) (fun f b => f * b) hR2 hp4 hb4 (fun _ _ => rfl) ?_ ?_
          · intro i x y H5 Q5 hx hy s5 q5
            have fe := fsz i
            rw [ent_some hx] at fe
            have hi : i < pss.length := by rw [← flen]; exact (List.getElem?_eq_some_iff.mp hx).1
            obtain ⟨ps, hps⟩ : ∃ ps, pss[i]? = some ps := ⟨_, List.getElem?_eq_getElem hi⟩
            obtain ⟨t, ht⟩ : ∃ t, ts[i]? = some t := ⟨_, List.getElem?_eq_getElem (by rw [ok.len]; exact hi)⟩
            have ye := (ok.line hps ht).2
            rw [hy] at ye
            have ye := Option.some.inj ye
            have ysz : y.natAbs < 2 ^ 2401 := by rw [ye]; exact (ok.lf i ps t hps ht).2.1
            exact ⟨_, rfl, _, rfl, _, _, rfl, rfl, wide_mul fe ysz (by omega) (by decide) (by omega), q5⟩
          · intro H5 s5 hR5
            have sm5 : (List.zipWith (fun f l => f * ent l 0) fs (linesF pss ts)).sum = Z (linesF pss ts).length fun k => ent fs k * ent ((linesF pss ts).getD k []) 0 := sum_zw _ _ rok.len
            have neg := rok.tot
            rw [← sm5] at neg
            have bnd : (List.zipWith (fun f l => f * ent l 0) fs (linesF pss ts)).sum.natAbs ≤ 80 * 2 ^ (m + m) := by
              rw [sm5]
              refine Nat.le_trans (Z_abs (B := 2 ^ (m + m)) fun k hk => ?_) (Nat.mul_le_mul_right _ (by omega))
              refine Nat.le_of_lt (mul_lt (fsz k) ?_)
              exact ok.wid.sz _ (getD_mem' hk) 0
            have bnd2 : (-(List.zipWith (fun f l => f * ent l 0) fs (linesF pss ts)).sum).natAbs < 2 ^ 8000 := by
              rw [Int.natAbs_neg]
              refine Nat.lt_of_le_of_lt bnd ?_
              refine Nat.lt_of_lt_of_le (Nat.mul_lt_mul_of_pos_right (by decide : 80 < 2 ^ 7) (Nat.pow_pos (by decide))) ?_
              rw [← Nat.pow_add]
              exact Nat.pow_le_pow_right (by decide) (by omega)
            refine ⟨_, rfl, _, rfl, _, rfl, ?_⟩
            refine ⟨R2, _, _, rfl, hR5, by rw [List.length_zipWith, flen]; omega, by omega, bnd2, fun tb_ H6 htf s6 => ?_⟩
            refine ⟨(by show 2 ≤ sizeLine; decide), fun t2 ht2 => ?_⟩
            have s7 : Same H6 (upd H6 t2 (.tup [.str wB, .ref tb_])) := same_new ht2
            exact q t2 _ (ex03.trans (ExtN.of (((s4.trans s5).trans s6).trans s7))) ((((tb3.ext s4).ext s5).ext s6).ext s7) ⟨tb_, upd_same, htf.same s7⟩
end
end FR
set_option Elab.async false
set_option linter.all false
set_option maxRecDepth 100000
set_option maxHeartbeats 4000000
/-! is_less, _is_below_somewhere, _is_everywhere_at_most, fit, is_fit -/
namespace FR
open PySem PySem.Spec PyProof.Rows L2 RF RZ
/-- .. of tuples -/
theorem lzT_g {α : Type} {K : PySem.W.Frag} {a b D : Addr} {xs ys : List V} {cs : List α} {R : Hp → V → α → Prop} (g : Gr D R) (hl : xs.length = ys.length) (hk : xs.length ≤ 900) (hc : cs.length = xs.length) {vs : List Nat} {σ : L2.St} {H1 : Hp} {Qd : Hp → Prop} {i1 i2 : Nat} {te : TE} (hD : H1 D = none)
    (ha : SqT K H1 a xs) (hb : SqT K H1 b ys) (wp : ∀ v w : V, wipe (((wipe σ vs).set i1 (some v)).set i2 (some w)) vs = wipe σ vs)
    (he : ∀ (i : Nat) (x y : V) (c : α) (H : Hp) (Q : VK), xs[i]? = some x → ys[i]? = some y → cs[i]? = some c → Same H1 H → (∃ gs, H D = some (.lst gs)) → (∀ v H', Same H H' → R H' v c → Q v H') → te (((wipe σ vs).set i1 (some x)).set i2 (some y)) H Q)
    (hd : ∀ H us, Same H1 H → H D = some (.lst us) → AG (R H) us cs → Qd H) :
    ∃ Wk : Nat → Nat → Hp → Prop, (∃ m0, Wk 0 m0 (upd H1 D (.lst []))) ∧ ∀ (i0 m0 : Nat) (h0 : Hp), Wk i0 m0 h0 →
      ((ItzT K a b).stop i0 h0 ∧ Qd h0) ∨ ((ItzT K a b).go i0 h0 ∧ ∃ Nk : Hp → Prop, (∀ h1, Nk h1 → ∃ m1, m1 < m0 ∧ Wk (i0 + 1) m1 h1) ∧ ∀ x h2, (ItzT K a b).yld i0 h0 x h2 → gTup K 2 (gCons (gName i1) (gCons (gName i2) gNil)) x (wipe σ vs) h2 fun σ2 H2 => wipe σ2 vs = wipe σ vs ∧ tYes σ2 H2 fun b H3 =>
        if b = true then te σ2 H3 fun y H4 => ∃ got, H4 D = some (.lst got) ∧ got.length < sizeLine ∧ Nk (upd H4 D (.lst (got ++ [y]))) else Nk H3) := by
  refine lc_it (walk_zipT (xs := xs) (ys := ys) (n := xs.length) (by omega)) (fun i H => Same H1 H ∧ ∃ us, H D = some (.lst us) ∧ AG (R H) us (cs.take i))
    (gr_start hD) (fun i H _ p => ⟨Same.seqT p.1 ha, Same.seqT p.1 hb⟩) ?_ fun H p => ?_
  · rintro i v H H' hi ⟨sm, us, hDc, hu⟩ ⟨T, x, y, rfl, nT, rfl, hx, hy⟩
    obtain ⟨c, hci⟩ : ∃ c, cs[i]? = some c := ⟨_, List.getElem?_eq_getElem (by omega)⟩
    have sT : Same H (upd H T (.tup [x, y])) := same_new nT
    refine ⟨T, _, rfl, SqT.of upd_same, rfl, _, _, rfl, _, _, rfl, rfl, wp _ _, ?_⟩
    exact he i x y c _ _ hx hy hci (sm.trans sT) ⟨us, sT _ _ hDc⟩ fun v H4 s4 r4 => gr_turn g hD sm hDc hu hci (by omega) (sT.trans s4) r4 fun _ z => z
  · obtain ⟨sm, us, hDc, hu⟩ := p
    rw [List.take_of_length_le (by omega)] at hu
    exact hd H us sm hDc hu
end FR
namespace FR
open PySem PySem.Spec PyProof.Rows L2 RF CN LK LamX NdefX RZ
section
variable {P : Program} {w : World} {K : PySem.W.Frag} {mg : Str → Option Value} {base : Heap} {C fI pT gT pB gB : Addr} {fdI fdT fdB : FuncData}
def spLess (C : Addr) : Sp := fun vs H Q _ => ∃ (p : Addr) (v : V) (t b t' b' : Int), vs = [.ref p, v] ∧ FrAt C H p t b ∧ FV C H v t' b' ∧ Sz t b ∧ Sz t' b' ∧
  ∀ H', Same H H' → Q (.bl (decide (t * b' < t' * b))) H'
abbrev sLess : Stmt := inClass sFrac 14
theorem scLess : FnScope ["self", "other", "compared"] ["self", "other"] (defScope sLess) := ⟨rfl, rfl, rfl, by decide +kernel, rfl, by decide +kernel, by decide +kernel⟩
theorem ok_less {f : Addr} {fd : FuncData} (F : Fun K "is_less" "Fraction.is_less" sLess f fd) (k : FrK P w K mg base C fI pT gT pB gB fdI fdT fdB) (gA : Glo P w K mg base "as_fraction" 4 ["value"] (spAs C)) : FnOk P w K mg base CX0 5 f fd ["self", "other"] (spLess C) := by
  refine F.ok scLess (fun vs H Q E h => ?_) (fun cdv A outer s H vs Q E hr h => ?_)
  · obtain ⟨p, v, t, b, t', b', rfl, _⟩ := h
    rfl
  · obtain ⟨p, v, t, b, t', b', rfl, ⟨dp, hp⟩, hv, z1, z2, q⟩ := h
    obtain ⟨m1, m2, m3, m4, m5, m6⟩ := z1.mul z2
    refine ⟨_, pss_cons (ps_set (i := 2) scLess.nd rfl (Or.inl rfl) (pe_call gA.G hr (by rfl) gA.m gA.k gA.b .nil pass0 (pa_cons (pv 1) pa_nil)))
      (pss_one (ps_ret (pe_cmpR op_lt (pe_op op_mulW (pe_prop (pv 0) k.T.cl k.oT k.GT (hr.mono (by decide)) k.bT .nil pass0 rfl) (pe_prop (pv 2) k.T.cl k.oB k.GB (hr.mono (by decide)) k.bB .nil pass0 rfl)) (pe_op op_mulW (pe_prop (pv 2) k.T.cl k.oT k.GT (hr.mono (by decide)) k.bT .nil pass0 rfl) (pe_prop (pv 0) k.T.cl k.oB k.GB (hr.mono (by decide)) k.bB .nil pass0 rfl)) (nomark _)))), ?_⟩
    refine ⟨_, rfl, v, t', b', rfl, hv, fun m H1 ⟨dm, hm⟩ sm => ?_⟩
    have hp := sm _ _ hp
    exact ⟨_, rfl, p, dp, _, rfl, hp, p, dp, _, _, rfl, hp, fl_top _ _, _, rfl, m, dm, _, rfl, hm, m, dm, _, _, rfl, hm, fl_bot _ _, _, _, rfl, rfl, m2, _, rfl, m, dm, _, rfl, hm, m, dm, _, _, rfl, hm, fl_top _ _, _, rfl, p, dp, _, rfl, hp, p, dp, _, _, rfl, hp, fl_bot _ _, _, _, rfl, rfl, m3, _, _, rfl, rfl, q H1 sm⟩
end
theorem cr_anyK {X : Cx} {K : PySem.W.Frag} (hK : X.K = K) (hc : X.calm = true) : CallR X (.builtin "any") (rAny K) := by
  subst hK
  exact cr_any hc
theorem gr_bl {D : Addr} : Gr D (fun (_ : Hp) (v : V) (c : Bool) => v = .bl c) := ⟨fun _ _ _ _ _ z => z, fun _ _ _ _ _ _ z => z⟩
theorem ag_bls : ∀ {us : List V} {cs : List Bool}, AG (fun (v : V) (c : Bool) => v = .bl c) us cs → us = cs.map V.bl
  | [], [], _ => rfl
  | u :: us, c :: cs, h => by
    obtain ⟨c0, e, r⟩ := h.2 0 u rfl
    cases e
    rw [r, ag_bls (us := us) (cs := cs) ⟨Nat.succ.inj h.1, fun i v hv => h.2 (i + 1) v hv⟩]; rfl
  | [], _ :: _, h => by have := h.1; cases this
  | _ :: _, [], h => by have := h.1; cases this
abbrev sBl : Stmt := top 44
abbrev NBl : List Str := ["fractions", "one"]
theorem scBl : FnScope NBl ["fractions"] (defScope sBl) := ⟨rfl, rfl, rfl, by decide +kernel, rfl, by decide +kernel, by decide +kernel⟩
abbrev sEm : Stmt := top 45
abbrev NEm : List Str := ["fractions", "others", "one", "other"]
theorem scEm : FnScope NEm ["fractions", "others"] (defScope sEm) := ⟨rfl, rfl, rfl, by decide +kernel, rfl, by decide +kernel, by decide +kernel⟩

def negB (ps : List PI) : Bool := ps.any fun p => decide (p.1 < 0)
section
variable {P : Program} {w : World} {K : PySem.W.Frag} {mg : Str → Option Value} {base : Heap} {C fI pT gT pB gB : Addr} {fdI fdT fdB : FuncData}
def spBl (C : Addr) : Sp := fun vs H Q _ => ∃ (tp : Addr) (ps : List PI), vs = [.ref tp] ∧ TV C H tp ps ∧ ps.length ≤ 90 ∧ ∀ H', Same H H' → Q (.bl (negB ps)) H'
theorem ok_bl {f : Addr} {fd : FuncData} (F : Fun K "_is_below_somewhere" "_is_below_somewhere" sBl f fd) (k : FrK P w K mg base C fI pT gT pB gB fdI fdT fdB) (gA : Glo P w K mg base "as_fraction" 4 ["value"] (spAs C)) (mAny : mg "any" = none) : FnOk P w K mg base CX0 5 f fd ["fractions"] (spBl C) := by
  refine F.ok scBl (fun vs H Q E h => ?_) (fun cdv A outer s H vs Q E hr h => ?_)
  · obtain ⟨tp, ps, rfl, _⟩ := h
    rfl
  · obtain ⟨tp, ps, rfl, ⟨xs, hx, fx⟩, l9, q⟩ := h
    refine ⟨_, (pss_one (ps_ret (pe_callB (cr_any rfl) (by rfl) mAny (by decide +kernel) (pa_cons (pe_lc (own := [("one", 1)]) (g := (gName 1)) (tt := tYes) rfl scBl.nd (pi_tup (pv 0)) (blkOk_by (N := NBl) (sc := (defScope sBl)) (by decide +kernel)) (fun _ _ _ _ _ => (pg_name (i := 1) scBl.nd rfl (.inl rfl))) (fun _ _ _ _ _ => pts_nil) (fun _ _ _ _ _ => (pe_cmpR op_lt (pe_prop (pe_call gA.G (hr.mono (by decide)) (by rfl) gA.m gA.k gA.b .nil pass0 (pa_cons (pv 1) pa_nil)) k.T.cl k.oT k.GT (hr.mono (by decide)) k.bT .nil pass0 rfl) pe_int (nomark _)))) pa_nil)))), ?_⟩
    refine ⟨_, rfl, tp, rfl, ⟨_, SqT.of hx⟩, fun R hR => ?_⟩
    refine lt_g (cs := ps.map fun p => decide (p.1 < 0)) gr_bl (by rw [fx.1]; omega) (by rw [List.length_map, fx.1]) hR (SqT.of hx) (fun _ => rfl) ?_ ?_
    · intro i v c H1 Q1 hv hc s1 _ q1
      obtain ⟨p, hp, fv⟩ := fx.2 i v hv
      rw [List.getElem?_map, hp] at hc
      cases hc
      refine ⟨_, rfl, v, p.1, p.2, rfl, fv.same s1, fun y H2 ⟨dy, hy⟩ s2 => ?_⟩
      exact ⟨y, dy, _, rfl, hy, y, dy, _, _, rfl, hy, fl_top _ _, _, _, rfl, rfl, q1 _ _ s2 rfl⟩
    · intro H1 us s1 hR1 hag
      have e := ag_bls hag
      subst e
      refine ⟨R, _, rfl, SqL.of hR1, ?_⟩
      have : ((ps.map fun p => decide (p.1 < 0)).any id) = negB ps := by
        unfold negB
        rw [List.any_map]; rfl
      rw [this]
      exact q H1 s1
def mostB (ps qs : List PI) : Bool := !(List.zipWith (fun p q => lessP q p) ps qs).any id
def spEm (C : Addr) : Sp := fun vs H Q _ => ∃ (a b : Addr) (ps qs : List PI), vs = [.ref a, .ref b] ∧ TV C H a ps ∧ TV C H b qs ∧ ps.length = qs.length ∧ ps.length ≤ 90 ∧ (∀ p ∈ ps, Sz p.1 p.2) ∧ (∀ p ∈ qs, Sz p.1 p.2) ∧ ∀ H', Same H H' → Q (.bl (mostB ps qs)) H'
theorem ok_em {f : Addr} {fd : FuncData} (F : Fun K "_is_everywhere_at_most" "_is_everywhere_at_most" sEm f fd) (k : FrK P w K mg base C fI pT gT pB gB fdI fdT fdB) (gA : Glo P w K mg base "as_fraction" 4 ["value"] (spAs C)) (mLe : Met P w K mg base C "is_less" 5 ["self", "other"] (spLess C)) (mAny : mg "any" = none) (mZ : mg "zip" = none) : FnOk P w K mg base CX0 6 f fd ["fractions", "others"] (spEm C) := by
  refine F.ok scEm (fun vs H Q E h => ?_) (fun cdv A outer s H vs Q E hr h => ?_)
  · obtain ⟨a, b, ps, qs, rfl, _⟩ := h
    rfl
  · obtain ⟨a, b, ps, qs, rfl, ⟨xs, hx, fx⟩, ⟨ys, hy, fy⟩, el, l9, zp, zq, q⟩ := h
    refine ⟨_, (pss_one (ps_ret (pe_not (pe_callB (cr_any rfl) (by rfl) mAny (by decide +kernel) (pa_cons (pe_lc (own := [("one", 2), ("other", 3)]) (g := (gTup K 2 (gCons (gName 2) (gCons (gName 3) gNil)))) (tt := tYes) rfl scEm.nd (pi_zipA (by rfl) mZ (pa_cons (pv 0) (pa_cons (pv 1) pa_nil))) (blkOk_by (N := NEm) (sc := (defScope sEm)) (by decide +kernel)) (fun _ _ _ _ _ => (pg_tupK (K := K) rfl rfl (pgs_cons (pg_name (i := 2) scEm.nd rfl (.inl rfl)) (pgs_cons (pg_name (i := 3) scEm.nd rfl (.inl rfl)) pgs_nil)))) (fun _ _ _ _ _ => pts_nil) (fun _ _ _ _ _ => (pe_meth (pe_call gA.G (hr.mono (by decide)) (by rfl) gA.m gA.k gA.b .nil pass0 (pa_cons (pv 3) pa_nil)) k.T.cl ⟨mLe.D.at_, mLe.D.fn, mLe.kp⟩ mLe.G (hr.mono (by decide)) mLe.b .nil pass0 (pa_cons (pv 2) pa_nil)))) pa_nil))))), ?_⟩
    refine ⟨_, rfl, _, rfl, a, b, xs, ys, rfl, .inr ⟨SqT.of hx, SqT.of hy, fun R hR => ?_⟩⟩
    refine lzT_g (cs := List.zipWith (fun p q => lessP q p) ps qs) gr_bl (by rw [fx.1, fy.1, el]) (by rw [fx.1]; omega) (by rw [List.length_zipWith, fx.1, el, Nat.min_self]) hR (SqT.of hx) (SqT.of hy) (fun _ _ => rfl) ?_ ?_
    · intro i x y c H1 Q1 gx gy hc s1 _ q1
      obtain ⟨p, hp, fv⟩ := fx.2 i x gx
      obtain ⟨r, hr1, fw⟩ := fy.2 i y gy
      rw [zw_get hp hr1 hc] at q1
      refine ⟨_, rfl, y, r.1, r.2, rfl, fw.same s1, fun m H2 fm s2 => ?_⟩
      obtain ⟨dm, hm⟩ := fm
      exact ⟨m, dm, _, rfl, hm, rfl, _, rfl, m, x, r.1, r.2, p.1, p.2, rfl, ⟨dm, hm⟩, (fv.same s1).same s2, zq r (List.mem_of_getElem? hr1), zp p (List.mem_of_getElem? hp), fun H3 s3 => q1 _ _ (s2.trans s3) rfl⟩
    · intro H1 us s1 hR1 hag
      have e := ag_bls hag
      subst e
      exact ⟨R, _, rfl, SqL.of hR1, _, rfl, q H1 s1⟩
end
end FR
set_option Elab.async false
set_option linter.all false
set_option maxRecDepth 100000
set_option maxHeartbeats 4000000
/-! _is_everywhere_less, _check_square -/
namespace FR
open PySem PySem.Spec PyProof.Rows L2 RF CN LK LamX NdefX RZ
abbrev sEl : Stmt := top 46
abbrev NEl : List Str := ["fractions", "others", "one", "other"]
theorem scEl : FnScope NEl ["fractions", "others"] (defScope sEl) := ⟨rfl, rfl, rfl, by decide +kernel, rfl, by decide +kernel, by decide +kernel⟩
abbrev sSq : Stmt := top 42
abbrev NSq : List Str := ["rows", "row"]
theorem scSq : FnScope NSq ["rows"] (defScope sSq) := ⟨rfl, rfl, rfl, by decide +kernel, rfl, by decide +kernel, by decide +kernel⟩

def lessB (ps qs : List PI) : Bool := (List.zipWith (fun p q => lessP p q) ps qs).all id
/-- no row has an entry below 0 -/
def negR (pss : List (List PI)) : Bool := pss.any negB
section
variable {P : Program} {w : World} {K : PySem.W.Frag} {mg : Str → Option Value} {base : Heap} {C fI pT gT pB gB : Addr} {fdI fdT fdB : FuncData}
def spEl (C : Addr) : Sp := fun vs H Q _ => ∃ (a b : Addr) (ps qs : List PI), vs = [.ref a, .ref b] ∧ TV C H a ps ∧ TV C H b qs ∧ ps.length = qs.length ∧ ps.length ≤ 90 ∧ (∀ p ∈ ps, Sz p.1 p.2) ∧ (∀ p ∈ qs, Sz p.1 p.2) ∧ ∀ H', Same H H' → Q (.bl (lessB ps qs)) H'
theorem ok_el {f : Addr} {fd : FuncData} (F : Fun K "_is_everywhere_less" "_is_everywhere_less" sEl f fd) (k : FrK P w K mg base C fI pT gT pB gB fdI fdT fdB) (gA : Glo P w K mg base "as_fraction" 4 ["value"] (spAs C)) (mLe : Met P w K mg base C "is_less" 5 ["self", "other"] (spLess C)) (mAll : mg "all" = none) (mZ : mg "zip" = none) : FnOk P w K mg base CX0 6 f fd ["fractions", "others"] (spEl C) := by
  refine F.ok scEl (fun vs H Q E h => ?_) (fun cdv A outer s H vs Q E hr h => ?_)
  · obtain ⟨a, b, ps, qs, rfl, _⟩ := h
    rfl
  · obtain ⟨a, b, ps, qs, rfl, ⟨xs, hx, fx⟩, ⟨ys, hy, fy⟩, el, l9, zp, zq, q⟩ := h
    refine ⟨_, (pss_one (ps_ret (pe_callB (cr_all rfl) (by rfl) mAll (by decide +kernel) (pa_cons (pe_lc (own := [("one", 2), ("other", 3)]) (g := (gTup K 2 (gCons (gName 2) (gCons (gName 3) gNil)))) (tt := tYes) rfl scEl.nd (pi_zipA (by rfl) mZ (pa_cons (pv 0) (pa_cons (pv 1) pa_nil))) (blkOk_by (N := NEl) (sc := (defScope sEl)) (by decide +kernel)) (fun _ _ _ _ _ => (pg_tupK (K := K) rfl rfl (pgs_cons (pg_name (i := 2) scEl.nd rfl (.inl rfl)) (pgs_cons (pg_name (i := 3) scEl.nd rfl (.inl rfl)) pgs_nil)))) (fun _ _ _ _ _ => pts_nil) (fun _ _ _ _ _ => (pe_meth (pe_call gA.G (hr.mono (by decide)) (by rfl) gA.m gA.k gA.b .nil pass0 (pa_cons (pv 2) pa_nil)) k.T.cl ⟨mLe.D.at_, mLe.D.fn, mLe.kp⟩ mLe.G (hr.mono (by decide)) mLe.b .nil pass0 (pa_cons (pv 3) pa_nil)))) pa_nil)))), ?_⟩
    refine ⟨_, rfl, _, rfl, a, b, xs, ys, rfl, .inr ⟨SqT.of hx, SqT.of hy, fun R hR => ?_⟩⟩
    refine lzT_g (cs := List.zipWith (fun p q => lessP p q) ps qs) gr_bl (by rw [fx.1, fy.1, el]) (by rw [fx.1]; omega) (by rw [List.length_zipWith, fx.1, el, Nat.min_self]) hR (SqT.of hx) (SqT.of hy) (fun _ _ => rfl) ?_ ?_
    · intro i x y c H1 Q1 gx gy hc s1 _ q1
      obtain ⟨p, hp, fv⟩ := fx.2 i x gx
      obtain ⟨r, hr1, fw⟩ := fy.2 i y gy
      rw [zw_get hp hr1 hc] at q1
      refine ⟨_, rfl, x, p.1, p.2, rfl, fv.same s1, fun m H2 fm s2 => ?_⟩
      obtain ⟨dm, hm⟩ := fm
      exact ⟨m, dm, _, rfl, hm, rfl, _, rfl, m, y, p.1, p.2, r.1, r.2, rfl, ⟨dm, hm⟩, (fw.same s1).same s2, zp p (List.mem_of_getElem? hp), zq r (List.mem_of_getElem? hr1), fun H3 s3 => q1 _ _ (s2.trans s3) rfl⟩
    · intro H1 us s1 hR1 hag
      have e := ag_bls hag
      subst e
      exact ⟨R, _, rfl, SqL.of hR1, q H1 s1⟩
def spSq (C : Addr) : Sp := fun vs H Q _ => ∃ (a : Addr) (pss : List (List PI)), vs = [.ref a] ∧ TMx C H a pss ∧ Rs pss pss.length ∧ negR pss = false ∧ ∀ H', Same H H' → Q .non H'
theorem ok_sq {f : Addr} {fd : FuncData} (F : Fun K "_check_square" "_check_square" sSq f fd) (gCr : Glo P w K mg base "_check_rows" 5 ["rows"] (spCrs C)) (gBl : Glo P w K mg base "_is_below_somewhere" 5 ["fractions"] (spBl C)) (mAny : mg "any" = none) (mL : mg "len" = none) : FnOk P w K mg base CX0 6 f fd ["rows"] (spSq C) := by
  refine F.ok scSq (fun vs H Q E h => ?_) (fun cdv A outer s H vs Q E hr h => ?_)
  · obtain ⟨a, pss, rfl, _⟩ := h
    rfl
  · obtain ⟨a, pss, rfl, tm, R, neg, q⟩ := h
    refine ⟨_, (pss_cons (ps_expr (pe_call gCr.G (hr.mono (by decide)) (by rfl) gCr.m gCr.k gCr.b .nil pass0 (pa_cons (pv 0) pa_nil)))
      (pss_cons (ps_if (pt_cmpR op_ne (pe_callB call_len_seq (by rfl) mL PySem.boot_len (pa_cons (pv 0) pa_nil)) (pe_callB call_len_seq (by rfl) mL PySem.boot_len (pa_cons (pe_ix ix_tup (pv 0) pe_int (fun _ _ => rfl)) pa_nil)) (nomark _)) pss_never pss_nil)
      (pss_one (ps_if (pt_val (pe_callB (cr_any rfl) (by rfl) mAny (by decide +kernel) (pa_cons (pe_lc (own := [("row", 1)]) (g := (gName 1)) (tt := tYes) rfl scSq.nd (pi_tup (pv 0)) (blkOk_by (N := NSq) (sc := (defScope sSq)) (by decide +kernel)) (fun _ _ _ _ _ => (pg_name (i := 1) scSq.nd rfl (.inl rfl))) (fun _ _ _ _ _ => pts_nil) (fun _ _ _ _ _ => (pe_call gBl.G (hr.mono (by decide)) (by rfl) gBl.m gBl.k gBl.b .nil pass0 (pa_cons (pv 1) pa_nil)))) pa_nil))) pss_never pss_nil)))), ?_⟩
    refine ⟨_, rfl, a, pss, _, rfl, tm, R, fun H1 s1 => ?_⟩
    obtain ⟨vs, ha, hv⟩ := tm.same s1
    have vl : vs.length = pss.length := hv.1
    have few := R.few
    obtain ⟨v0, h0⟩ : ∃ v0, vs[0]? = some v0 := ⟨_, List.getElem?_eq_getElem (by have := R.ne; omega)⟩
    obtain ⟨p0, hp0, q0, rfl, tf0⟩ := hv.2 0 v0 h0
    obtain ⟨xs0, hx0, hf0⟩ := id tf0.at_
    have l0 : xs0.length = pss.length := by rw [hf0.1]; exact R.len p0 (List.mem_of_getElem? hp0)
    refine ⟨_, rfl, a, vs, rfl, .inr (SqT.of ha), _, rfl, a, _, 0, _, rfl, rfl, SqT.of ha, atI_nat (j := 0) h0, q0, xs0, rfl, .inr (SqT.of hx0), rfl, _, rfl, ?_⟩
    rw [vl, l0, decide_eq_true rfl]
    refine iteF ?_
    refine ⟨_, rfl, a, rfl, ⟨_, SqT.of ha⟩, fun D hD => ?_⟩
    refine lt_g (cs := pss.map negB) gr_bl (by omega) (by rw [List.length_map, vl]) hD (SqT.of ha) (fun _ => rfl) ?_ ?_
    · intro i v c H2 Q2 hvi hc s2 _ q2
      obtain ⟨ps, hps, q1, rfl, tf⟩ := hv.2 i v hvi
      rw [List.getElem?_map, hps] at hc
      cases hc
      have tv : TV C H1 q1 ps := tf.at_
      exact ⟨_, rfl, q1, ps, rfl, tv.same s2, by have := tf.few; omega, fun H3 s3 => q2 _ _ s3 rfl⟩
    · intro H2 us s2 hD2 hag
      have e := ag_bls hag
      subst e
      refine ⟨D, _, rfl, SqL.of hD2, _, rfl, ?_⟩
      have e : (pss.map negB).any id = negR pss := by unfold negR; rw [List.any_map]; rfl
      rw [e, neg]
      exact iteF (q H2 (s1.trans s2))
end
end FR
set_option Elab.async false
set_option linter.all false
set_option maxRecDepth 100000
set_option maxHeartbeats 4000000
set_option pp.maxSteps 300
/-! sums and products of fractions -/
namespace L2
open PySem PySem.Spec PyProof.Rows
theorem opr_or {X : Cx} {op : Value → Value → Sem Value} {r1 r2 : R2} (h1 : OpR X op r1) (h2 : OpR X op r2) : OpR X op (fun x y H Q => r1 x y H Q ∨ r2 x y H Q) := by
  intro pins s σ H x y v u Q I rx ry h
  rcases h with h | h
  · exact h1 pins s σ H x y v u Q I rx ry h
  · exact h2 pins s σ H x y v u Q I rx ry h
end L2
namespace FR
open PySem PySem.Spec PyProof.Rows L2 LD RF
/-- what the text says of an operator's names in int -/
structure IntOp (K : PySem.W.Frag) (C : Addr) (nm : String) : Prop where
  r : ∃ rc, PySem.W.findIn K (.ref C) (dunderR nm) = some rc ∧ (rc = none ∨ ∃ g : Addr, rc = some (.ref g))
  i : ∃ fo, PySem.W.findIn K (.type "int") (PySem.dunder nm) = some fo
  j : ∃ ro, PySem.W.findIn K (.type "int") (dunderR nm) = some ro
  s : PySem.W.subIn K (.type "int") (.ref C) = some false
section
variable {P : Program} {w : World} {K : PySem.W.Frag} {mg : Str → Option Value} {base : Heap} {C fI pT gT pB gB : Addr} {fdI fdT fdB : FuncData}
def spOp (C : Addr) (f : Int → Int → Int → Int → Int) : Sp := fun vs H Q _ => ∃ (p : Addr) (v : V) (t b t' b' : Int), vs = [.ref p, v] ∧ FrAt C H p t b ∧ FV C H v t' b' ∧ Sz t b ∧ Sz t' b' ∧
  ∀ q H', FrAt C H' q (nT (f t b t' b') (b * b')) (nB (f t b t' b') (b * b')) → Same H H' → H q = none → Q (.ref q) H'
def fAdd (t b t' b' : Int) : Int := t * b' + t' * b
def fSub (t b t' b' : Int) : Int := t * b' - t' * b
def fMul (t _ t' _ : Int) : Int := t * t'
abbrev sAdd : Stmt := inClass sFrac 3
theorem scAdd : FnScope ["self", "other", "more"] ["self", "other"] (defScope sAdd) := ⟨rfl, rfl, rfl, by decide +kernel, rfl, by decide +kernel, by decide +kernel⟩
theorem ok_add {f fA : Addr} {fd fdA : FuncData} (F : Fun K "__add__" "Fraction.__add__" sAdd f fd) (k : FrK P w K mg base C fI pT gT pB gB fdI fdT fdB) (GA : FnOk P w K mg base CX0 4 fA fdA ["value"] (spAs C)) (mA : mg "as_fraction" = some (.ref fA))
    (kA : PySem.W.keepIn K (.ref fA) = true) (bA : Binds K fdA ["value"] []) : FnOk P w K mg base CX0 5 f fd ["self", "other"] (spOp C fAdd) := by
  refine F.ok scAdd (fun vs H Q E h => ?_) (fun cdv A outer s H vs Q E hr h => ?_)
  · obtain ⟨p, v, t, b, t', b', rfl, _⟩ := h
    rfl
  · obtain ⟨p, v, t, b, t', b', rfl, ⟨dp, hp⟩, hv, z1, z2, q⟩ := h
    obtain ⟨m1, m2, m3, m4, m5, m6⟩ := z1.mul z2
    refine ⟨_, pss_cons (ps_set (i := 2) scAdd.nd rfl (Or.inl rfl) (pe_call GA hr (by rfl) mA kA bA .nil pass0 (pa_cons (pv 1) pa_nil)))
      (pss_one (ps_ret (pe_make k.M k.GI (hr.mono (by decide)) (by rfl) k.T.mC k.b2 .nil pass0 (pa_cons (pe_op op_add (pe_op op_mulW (pe_prop (pv 0) k.T.cl k.oT k.GT (hr.mono (by decide)) k.bT .nil pass0 rfl) (pe_prop (pv 2) k.T.cl k.oB k.GB (hr.mono (by decide)) k.bB .nil pass0 rfl)) (pe_op op_mulW (pe_prop (pv 2) k.T.cl k.oT k.GT (hr.mono (by decide)) k.bT .nil pass0 rfl) (pe_prop (pv 0) k.T.cl k.oB k.GB (hr.mono (by decide)) k.bB .nil pass0 rfl))) (pa_cons (pe_op op_mulW (pe_prop (pv 0) k.T.cl k.oB k.GB (hr.mono (by decide)) k.bB .nil pass0 rfl) (pe_prop (pv 2) k.T.cl k.oB k.GB (hr.mono (by decide)) k.bB .nil pass0 rfl)) pa_nil))))), ?_⟩
    refine ⟨_, rfl, v, t', b', rfl, hv, fun m H1 ⟨dm, hm⟩ sm => ?_⟩
    have hp := sm _ _ hp
    refine ⟨_, rfl, p, dp, _, rfl, hp, p, dp, _, _, rfl, hp, fl_top _ _, _, rfl, m, dm, _, rfl, hm, m, dm, _, _, rfl, hm, fl_bot _ _, _, _, rfl, rfl, m2, _, rfl, m, dm, _, rfl, hm, m, dm, _, _, rfl, hm, fl_top _ _, _, rfl, p, dp, _, rfl, hp, p, dp, _, _, rfl, hp, fl_bot _ _, _, _, rfl, rfl, m3, _, _, rfl, rfl, _, rfl, p, dp, _, rfl, hp, p, dp, _, _, rfl, hp, fl_bot _ _, _, rfl, m, dm, _, rfl, hm, m, dm, _, _, rfl, hm, fl_bot _ _, _, _, rfl, rfl, m4, fun x dx nx nd ne => ?_⟩
    refine ⟨x, dx, _, _, rfl, upd_same, m6, dv8 m6 m5, fun H' hf hs => ⟨rfl, ?_⟩⟩
    exact q x H' hf (sm.trans (same_make (C := C) nx nd hs)) (Same.free sm nx)
abbrev sMul : Stmt := inClass sFrac 7
theorem scMul : FnScope ["self", "other", "factor"] ["self", "other"] (defScope sMul) := ⟨rfl, rfl, rfl, by decide +kernel, rfl, by decide +kernel, by decide +kernel⟩
theorem ok_mul {f fA : Addr} {fd fdA : FuncData} (F : Fun K "__mul__" "Fraction.__mul__" sMul f fd) (k : FrK P w K mg base C fI pT gT pB gB fdI fdT fdB) (GA : FnOk P w K mg base CX0 4 fA fdA ["value"] (spAs C)) (mA : mg "as_fraction" = some (.ref fA))
    (kA : PySem.W.keepIn K (.ref fA) = true) (bA : Binds K fdA ["value"] []) : FnOk P w K mg base CX0 5 f fd ["self", "other"] (spOp C fMul) := by
  refine F.ok scMul (fun vs H Q E h => ?_) (fun cdv A outer s H vs Q E hr h => ?_)
  · obtain ⟨p, v, t, b, t', b', rfl, _⟩ := h
    rfl
  · obtain ⟨p, v, t, b, t', b', rfl, ⟨dp, hp⟩, hv, z1, z2, q⟩ := h
    obtain ⟨m1, m2, m3, m4, m5, m6⟩ := z1.mul z2
    refine ⟨_, pss_cons (ps_set (i := 2) scMul.nd rfl (Or.inl rfl) (pe_call GA hr (by rfl) mA kA bA .nil pass0 (pa_cons (pv 1) pa_nil)))
      (pss_one (ps_ret (pe_make k.M k.GI (hr.mono (by decide)) (by rfl) k.T.mC k.b2 .nil pass0 (pa_cons (pe_op op_mulW (pe_prop (pv 0) k.T.cl k.oT k.GT (hr.mono (by decide)) k.bT .nil pass0 rfl) (pe_prop (pv 2) k.T.cl k.oT k.GT (hr.mono (by decide)) k.bT .nil pass0 rfl)) (pa_cons (pe_op op_mulW (pe_prop (pv 0) k.T.cl k.oB k.GB (hr.mono (by decide)) k.bB .nil pass0 rfl) (pe_prop (pv 2) k.T.cl k.oB k.GB (hr.mono (by decide)) k.bB .nil pass0 rfl)) pa_nil))))), ?_⟩
    refine ⟨_, rfl, v, t', b', rfl, hv, fun m H1 ⟨dm, hm⟩ sm => ?_⟩
    have hp := sm _ _ hp
    refine ⟨_, rfl, p, dp, _, rfl, hp, p, dp, _, _, rfl, hp, fl_top _ _, _, rfl, m, dm, _, rfl, hm, m, dm, _, _, rfl, hm, fl_top _ _, _, _, rfl, rfl, m1, _, rfl, p, dp, _, rfl, hp, p, dp, _, _, rfl, hp, fl_bot _ _, _, rfl, m, dm, _, rfl, hm, m, dm, _, _, rfl, hm, fl_bot _ _, _, _, rfl, rfl, m4, fun x dx nx nd ne => ?_⟩
    refine ⟨x, dx, _, _, rfl, upd_same, m6, dv8 m6 m5, fun H' hf hs => ⟨rfl, ?_⟩⟩
    exact q x H' hf (sm.trans (same_make (C := C) nx nd hs)) (Same.free sm nx)
/-- an instance with a fraction or an integer -/
def rFop (C : Addr) (f : Int → Int → Int → Int → Int) : R2 := fun x y H Q => ∃ (p : Addr) (t b t' b' : Int), x = .ref p ∧ FrAt C H p t b ∧ FV C H y t' b' ∧ Sz t b ∧ Sz t' b' ∧ ∀ q H', FrAt C H' q (nT (f t b t' b') (b * b')) (nB (f t b t' b') (b * b')) → Same H H' → Q (.ref q) H'
theorem op_fr {X : Cx} {K : PySem.W.Frag} {nm : String} {fn : Int → Int → Int → Int → Int} {op : Operator} {f : Addr} {fd : FuncData} {E : XK} (hK : X.K = K) (hn : op.info.2 = nm) (D : Dun K C (PySem.dunder nm) f) (F : FnOk X.prog X.w K X.mg X.base CX0 5 f fd ["self", "other"] (spOp C fn)) (hr : Room 5 X.A) (hb : Binds K fd ["self", "other"] []) (hx : Passes CX0 X E) (sf : PySem.W.selfFirst K C = true) (io : IntOp K C nm) : OpR X (binaryOp op) (rFop C fn) := by
  subst hK hn
  intro pins s σ H x y v u Q I rx ry ⟨p, t, b, t', b', ex, ⟨dx, hp⟩, hv, z1, z2, q⟩
  obtain ⟨rc, r1, r2⟩ := io.r
  obtain ⟨fo, i1⟩ := io.i
  obtain ⟨ro, j1⟩ := io.j
  rcases hv with ⟨p', e, d', h'⟩ | ⟨e, eb⟩
  · exact op_own2 D sf F hr hb hx pins s σ H x y v u Q I rx ry ⟨p, p', dx, d', _, _, ex, e, hp, h', p, .ref p', t, b, t', b', rfl, ⟨dx, hp⟩, .inl ⟨p', rfl, d', h'⟩, z1, z2, fun q' H' f' s' _ => q q' H' f' s'⟩
  · exact op_ownI D sf r1 r2 i1 j1 io.s F hr hb hx pins s σ H x y v u Q I rx ry ⟨p, t', dx, _, ex, e, hp, p, .int t', t, b, t', b', rfl, ⟨dx, hp⟩, .inr ⟨rfl, eb⟩, z1, z2, fun q' H' f' s' _ => q q' H' f' s'⟩
end
end FR
set_option Elab.async false
set_option linter.all false
set_option maxRecDepth 100000
set_option maxHeartbeats 4000000
/-! _less_one -/
namespace L2
open PySem PySem.Spec PyProof.Rows
theorem pi_enumTK {X : Cx} {K : PySem.W.Frag} {e : Expr} {ta : TA} {p pos tpos : Pos} {elts : List Expr} {kk : Nat} (hK : X.K = K) (hg : Gl X "enumerate") (hm : X.mg "enumerate" = none) (ha : PA X [e] ta) (hs : starEach [e] X.env = [(false, eval e X.env)] := by rfl) :
    PI X (.Tuple elts kk tpos) (.Call (.Name "enumerate" p) [e] [] pos) (iEnumT K ta) := by
  subst hK
  exact pi_enumT hg hm ha hs
end L2
namespace FR
open PySem PySem.Spec PyProof.Rows L2 RF CN LK LamX NdefX RZ
abbrev sLo : Stmt := top 48
abbrev NLo : List Str := ["rows", "at", "row", "place", "entry"]
theorem scLo : FnScope NLo ["rows"] (defScope sLo) := ⟨rfl, rfl, rfl, by decide +kernel, rfl, by decide +kernel, by decide +kernel⟩

abbrev lcLessOne0 : Scope := lcSc (retE ((defBody sLo).getD 0 (.Pass ⟨0, 0, 0, 0⟩)))
/-- less 1 -/
def minP (p : PI) : PI := (nT (p.1 - p.2) p.2, nB (p.1 - p.2) p.2)
def loRow (i : Nat) (ps : List PI) : List PI := ps.zipIdx.map fun z => if i = z.2 then minP z.1 else z.1
def loP (pss : List (List PI)) : List (List PI) := pss.zipIdx.map fun z => loRow z.2 z.1
theorem loRow_get {i j : Nat} {ps : List PI} {p : PI} (h : ps[j]? = some p) : (loRow i ps)[j]? = some (if i = j then minP p else p) := by
  unfold loRow
  rw [List.getElem?_map, List.getElem?_zipIdx, h]
  simp
theorem loP_get {i : Nat} {pss : List (List PI)} {ps : List PI} (h : pss[i]? = some ps) : (loP pss)[i]? = some (loRow i ps) := by
  unfold loP
  rw [List.getElem?_map, List.getElem?_zipIdx, h]
  simp
theorem loRow_len {i : Nat} {ps : List PI} : (loRow i ps).length = ps.length := by unfold loRow; rw [List.length_map, List.length_zipIdx]
theorem loP_len {pss : List (List PI)} : (loP pss).length = pss.length := by unfold loP; rw [List.length_map, List.length_zipIdx]
section
variable {P : Program} {w : World} {K : PySem.W.Frag} {mg : Str → Option Value} {base : Heap} {C fI pT gT pB gB : Addr} {fdI fdT fdB : FuncData}
def spLo (C : Addr) : Sp := fun vs H Q _ => ∃ (a : Addr) (pss : List (List PI)), vs = [.ref a] ∧ TMx C H a pss ∧ pss.length ≤ 80 ∧ (∀ ps ∈ pss, ∀ p ∈ ps, Sz p.1 p.2) ∧
  ∀ l us H', H' l = some (.lst us) → AG (fun v ps => ∃ q xs, v = .ref q ∧ H' q = some (.lst xs) ∧ FVs C H' xs ps) us (loP pss) → Same H H' → Q (.ref l) H'
theorem ok_lo {f : Addr} {fd : FuncData} (F : Fun K "_less_one" "_less_one" sLo f fd) (mS : Met P w K mg base C "__sub__" 5 ["self", "other"] (spOp C fSub)) (sf : PySem.W.selfFirst K C = true) (oS : IntOp K C "sub") (mEn : mg "enumerate" = none) : FnOk P w K mg base CX0 6 f fd ["rows"] (spLo C) := by
  refine F.ok scLo (fun vs H Q E h => ?_) (fun cdv A outer s H vs Q E hr h => ?_)
  · obtain ⟨a, pss, rfl, _⟩ := h
    rfl
  · obtain ⟨a, pss, rfl, ⟨vs, ha, hv⟩, few, zz, q⟩ := h
    refine ⟨_, (pss_one (ps_ret (pe_lc (X := (cxOf CX0 P w K mg base NLo "_less_one" (defScope sLo) f cdv A outer s H E).nox) (own := [("at", 1), ("row", 2)]) (g := (gTup K 2 (gCons (gName 1) (gCons (gName 2) gNil)))) (tt := tYes) rfl scLo.nd (pi_enumT (by rfl) mEn (pa_cons (pv 0) pa_nil)) (blkOk_by (N := NLo) (sc := (defScope sLo)) (by decide +kernel)) (fun _ _ _ _ _ => (pg_tupK (K := K) rfl rfl (pgs_cons (pg_name (i := 1) scLo.nd rfl (.inr rfl)) (pgs_cons (pg_name (i := 2) scLo.nd rfl (.inl rfl)) pgs_nil)))) (fun _ _ _ _ _ => pts_nil) (fun s0 H0 C0 cl0 fp0 => (pe_lc (X := (((cxOf CX0 P w K mg base NLo "_less_one" (defScope sLo) f cdv A outer s H E).nox).blk s0 H0 lcLessOne0 (compEnvC lcLessOne0 cl0 C0 ((cxOf CX0 P w K mg base NLo "_less_one" (defScope sLo) f cdv A outer s H E).nox).env) fp0)) (own := [("place", 3), ("entry", 4)]) (g := (gTup K 2 (gCons (gName 3) (gCons (gName 4) gNil)))) (tt := tYes) rfl scLo.nd (pi_enumTK (K := K) rfl (by rfl) mEn (pa_cons (pv 2) pa_nil)) (blkOk_by (N := NLo) (sc := (relS lcLessOne0 (defScope sLo))) (by decide +kernel)) (fun _ _ _ _ _ => (pg_tupK (K := K) rfl rfl (pgs_cons (pg_name (i := 3) scLo.nd rfl (.inl rfl)) (pgs_cons (pg_name (i := 4) scLo.nd rfl (.inl rfl)) pgs_nil)))) (fun _ _ _ _ _ => pts_nil) (fun _ _ _ _ _ => (pe_ifExp (pt_cmpR op_eq (pv 1) (pv 3) (nomark _)) (pe_op (opr_or op_sub (op_fr (op := .Sub) (K := K) rfl rfl mS.D mS.G (hr.mono (by decide)) mS.b pass0 sf oS)) (pv 4) pe_int) (pv 4)))))))), ?_⟩
    have vl : vs.length = pss.length := hv.1
    refine ⟨_, rfl, a, vs, rfl, SqT.of ha, fun D hD => ?_⟩
    refine lc_it (walk_enumT (xs := vs)) (fun i Hc => Same H Hc ∧ ∃ us, Hc D = some (.lst us) ∧ AG (fun v ps => ∃ q xs, v = .ref q ∧ q ≠ D ∧ Hc q = some (.lst xs) ∧ FVs C Hc xs ps) us ((loP pss).take i)) ⟨same_new hD, [], upd_same, AG.nil⟩ (fun i Hc _ p => SqT.of (p.1 _ _ ha)) ?_ ?_
    · rintro i v Hc H' hi ⟨sm, us, hDc, hu⟩ ⟨T0, u1, u2, rfl, nT0, rfl, y1, y2⟩
      have y1 : some (V.int (i : Nat)) = some u1 := y1
      have y2 : vs[i]? = some u2 := y2
      cases y1
      obtain ⟨ps, hps, q1, rfl, tf⟩ := hv.2 i u2 y2
      have mp := List.mem_of_getElem? hps
      have il := (List.getElem?_eq_some_iff.mp hps).1
      have fw := tf.few
      have sT : Same Hc (upd Hc T0 (.tup [.int (i : Nat), .ref q1])) := same_new nT0
      have tt1 : upd Hc T0 (.tup [.int (i : Nat), .ref q1]) T0 = some (.tup [.int (i : Nat), .ref q1]) := upd_same
      have hDT := sT _ _ hDc
      have smT := sm.trans sT
      have huT := hu.imp (R' := fun v ps => ∃ q xs, v = .ref q ∧ q ≠ D ∧ upd Hc T0 (.tup [.int (i : Nat), .ref q1]) q = some (.lst xs) ∧ FVs C (upd Hc T0 (.tup [.int (i : Nat), .ref q1])) xs ps) fun _ _ ⟨q, xs, e, n, h1, h2⟩ => ⟨q, xs, e, n, sT _ _ h1, h2.same sT⟩
      generalize upd Hc T0 _ = Hn at tt1 hDT smT huT ⊢
      refine ⟨T0, _, rfl, SqT.of tt1, rfl, _, _, rfl, _, _, rfl, rfl, rfl, ?_⟩
      obtain ⟨xs, hx, hf⟩ := (tf.same smT).at_
      have xl : xs.length = ps.length := hf.1
      refine ⟨_, rfl, q1, xs, rfl, SqT.of hx, fun D2 hD2 => ?_⟩
      refine lc_it (walk_enumT (xs := xs)) (fun j Hx => Same Hn Hx ∧ ∃ zs, Hx D2 = some (.lst zs) ∧ FVs C Hx zs ((loRow i ps).take j)) ⟨same_new hD2, [], upd_same, A2.nil⟩ (fun j Hx _ p => SqT.of (p.1 _ _ hx)) ?_ ?_
      · rintro j v Hx H2 hj ⟨s2, zs, hD3, hz⟩ ⟨T1, w1, w2, rfl, nT1, rfl, y3, y4⟩
        have y3 : some (V.int (j : Nat)) = some w1 := y3
        have y4 : xs[j]? = some w2 := y4
        cases y3
        obtain ⟨p, hp, fv⟩ := hf.2 j w2 y4
        have jl := (List.getElem?_eq_some_iff.mp hp).1
        have sz := zz ps mp p (List.mem_of_getElem? hp)
        have sT1 : Same Hx (upd Hx T1 (.tup [.int (j : Nat), w2])) := same_new nT1
        have tt2 : upd Hx T1 (.tup [.int (j : Nat), w2]) T1 = some (.tup [.int (j : Nat), w2]) := upd_same
        have hD4 := sT1 _ _ hD3
        have s3 := s2.trans sT1
        have hz := hz.same sT1
        generalize upd Hx T1 _ = Hm at tt2 hD4 s3 hz ⊢
        have fvm := fv.same s3
        have zl : zs.length = j := by rw [hz.1, List.length_take, loRow_len]; omega
        have gt := loRow_get (i := i) hp
        have fin : ∀ (u : V) (H4 : Hp) (r : PI), Same Hm H4 → FV C H4 u r.1 r.2 → (loRow i ps)[j]? = some r → ∃ acc, H4 D2 = some (.lst acc) ∧ acc.length < sizeLine ∧ Same Hn (upd H4 D2 (.lst (acc ++ [u]))) ∧ ∃ zs, upd H4 D2 (.lst (acc ++ [u])) D2 = some (.lst zs) ∧ FVs C (upd H4 D2 (.lst (acc ++ [u]))) zs ((loRow i ps).take (j + 1)) := fun u H4 r s4 fu gr => by
          have e := s4 _ _ hD4
          refine ⟨zs, e, small1000 (by omega), same_upd hD2 (s3.trans s4), zs ++ [u], upd_same, ?_⟩
          rw [take_snoc gr]
          exact A2.snoc ((hz.same s4).updl e) (fu.elim (fun ⟨q, e', f⟩ => .inl ⟨q, e', f.updl e⟩) .inr)
        refine ⟨T1, _, rfl, SqT.of tt2, rfl, _, _, rfl, _, _, rfl, rfl, rfl, ?_⟩
        refine ⟨_, rfl, _, rfl, rfl, _, rfl, ite2 (fun z => ?_) (fun z => ?_)⟩
        · have ij : i = j := by
            have := of_decide_eq_true z
            injection this with this
            omega
          rw [if_pos ij] at gt
          refine ⟨_, rfl, ?_⟩
          rcases fvm with ⟨r, e, fr⟩ | ⟨e, e1⟩
          · subst e
            refine .inr ⟨r, p.1, p.2, 1, 1, rfl, fr, .inr ⟨rfl, rfl⟩, sz, ⟨by decide +kernel, by decide +kernel, by decide⟩, fun g H4 fg s4 => fin (.ref g) H4 (minP p) s4 (.inl ⟨g, rfl, ?_⟩) gt⟩
            have e1 : fSub p.1 p.2 1 1 = p.1 - p.2 := by unfold fSub; omega
            rw [e1, Int.mul_one] at fg
            exact fg
          · subst e
            have m1 := (n_int (t := p.1 - 1) (b := 1) (n := p.1 - 1) (by decide)).mpr (by omega)
            have em : minP p = (p.1 - 1, 1) := by
              unfold minP
              rw [e1]
              exact Prod.ext m1.2 m1.1
            exact .inl ⟨_, _, rfl, rfl, fin (.int (p.1 - 1)) Hm (minP p) (Same.refl _) (.inr (by rw [em]; exact ⟨rfl, rfl⟩)) gt⟩
        · have ij : i ≠ j := fun e => z (by rw [e]; exact decide_eq_true rfl)
          rw [if_neg ij] at gt
          exact ⟨_, rfl, fin w2 Hm p (Same.refl _) fvm gt⟩
      · rintro Hx ⟨s2, zs, hD3, hz⟩
        rw [List.take_of_length_le (by rw [loRow_len, xl]; exact Nat.le_refl _)] at hz
        have e := s2 _ _ hDT
        have nD : D2 ≠ D := fun z => by rw [z, hDT] at hD2; cases hD2
        refine ⟨us, e, small1000 (by rw [hu.1, List.length_take]; omega), same_upd hD (smT.trans s2), us ++ [.ref D2], upd_same, ?_⟩
        rw [take_snoc (loP_get hps)]
        have up : ∀ {q xs' ps'}, q ≠ D → Hx q = some (.lst xs') → FVs C Hx xs' ps' → upd Hx D (.lst (us ++ [.ref D2])) q = some (.lst xs') ∧ FVs C (upd Hx D (.lst (us ++ [.ref D2]))) xs' ps' := fun n h1 h2 => ⟨(upd_ne n).trans h1, h2.updl e⟩
        exact AG.snoc (huT.imp fun _ _ ⟨q, xs', e', n, h1, h2⟩ => ⟨q, xs', e', n, (up n (s2 _ _ h1) (h2.same s2)).1, (up n (s2 _ _ h1) (h2.same s2)).2⟩) ⟨D2, zs, rfl, nD, (up nD hD3 hz).1, (up nD hD3 hz).2⟩
    · rintro Hc ⟨sm, us, hDc, hu⟩
      rw [List.take_of_length_le (by rw [loP_len, vl]; exact Nat.le_refl _)] at hu
      exact q D us Hc hDc (hu.imp fun _ _ ⟨q, xs, e, _, h1, h2⟩ => ⟨q, xs, e, h1, h2⟩) sm
end
end FR
set_option Elab.async false
set_option linter.all false
set_option maxRecDepth 100000
set_option maxHeartbeats 4000000
/-! falling -/
namespace FR
open PySem PySem.Spec PyProof.Rows L2 LD RF CN LK LamX NdefX RZ
/-! ### behind a call that may write tables -/
section
variable {H H' : Hp} {C d : Addr} (ex : ExtN H H')
include ex
theorem exn_lst {a : Addr} {us : List V} (h : H a = some (.lst us)) : H' a = some (.lst us) := ex _ _ h fun _ z => by cases z
theorem exn_tup {a : Addr} {us : List V} (h : H a = some (.tup us)) : H' a = some (.tup us) := ex _ _ h fun _ z => by cases z
theorem exn_dice (h : DiceAt H d) : DiceAt H' d := by
  obtain ⟨a, b, c, h⟩ := h
  exact ⟨a, b, c, exn_lst ex h⟩
theorem exn_pl {a : Addr} {ps : List PI} (h : PL H a ps) : PL H' a ps := by
  obtain ⟨us, e, f⟩ := h
  exact ⟨us, exn_lst ex e, A2.imp f fun _ _ ⟨q, e, t⟩ => ⟨q, e, exn_tup ex t⟩⟩
theorem exn_ll {a : Addr} {pss : List (List PI)} (h : LL H a pss) : LL H' a pss := by
  obtain ⟨us, e, f⟩ := h
  exact ⟨us, exn_lst ex e, f.imp fun _ _ ⟨q, e, t⟩ => ⟨q, e, exn_pl ex t⟩⟩
theorem exn_fr {p : Addr} {t b : Int} (h : FrAt C H p t b) : FrAt C H' p t b := by
  obtain ⟨dx, h⟩ := h
  exact ⟨dx, ex _ _ h fun _ z => by cases z⟩
theorem exn_fvs {vs : List V} {ps : List PI} (h : FVs C H vs ps) : FVs C H' vs ps := A2.imp h fun _ _ z => z.elim (fun ⟨q, e, f⟩ => .inl ⟨q, e, exn_fr ex f⟩) .inr
theorem exn_tf {a : Addr} {ps : List PI} (h : Tf C H a ps) : Tf C H' a ps := by
  obtain ⟨⟨xs, h1, h2⟩, few, lf, sz⟩ := h
  exact ⟨⟨xs, exn_tup ex h1, exn_fvs ex h2⟩, few, lf, sz⟩
theorem exn_mx {a : Addr} {pss : List (List PI)} (h : TMx C H a pss) : TMx C H' a pss := by
  obtain ⟨vs, e, f⟩ := h
  exact ⟨vs, exn_tup ex e, f.imp fun _ _ ⟨q, e, t⟩ => ⟨q, e, exn_tf ex t⟩⟩
end

abbrev sFl : Stmt := top 37
abbrev NFl : List Str := ["rows", "ones", "word", "found", "_", "kept"]
theorem scFl : FnScope NFl ["rows"] (defScope sFl) := ⟨rfl, rfl, rfl, by decide +kernel, rfl, by decide +kernel, by decide +kernel⟩

def onesP (n : Nat) : List PI := List.replicate n (-1, 1)
def falP (pss : List (List PI)) (res res2 : Res) : Str × List PI := match res with
  | .fit st => (wSol, (fitP (loP pss) (onesP pss.length) (.fit st)).2)
  | .bar _ => (wNone, (fitP (loP (turnP pss pss.length)) (onesP pss.length) res2).2)
section
variable {P : Program} {w : World} {K : PySem.W.Frag} {mg : Str → Option Value} {base : Heap} {C fI pT gT pB gB : Addr} {fdI fdT fdB : FuncData} {Tt : List (Addr × Str)}
def spFl (C : Addr) (Tt : List (Addr × Str)) : Sp := fun vs H Q _ => ∃ (a : Addr) (pss : List (List PI)) (m m2 N N2 : Nat) (res res2 : Res), vs = [.ref a] ∧ TMx C H a pss ∧ Rs pss pss.length ∧ Sm pss ∧ negR pss = false ∧
  FtOk (loP pss) (onesP pss.length) pss.length m ∧ runC (linesF (loP pss) (onesP pss.length)) pss.length N (startC pss.length) = some res ∧
  FtOk (loP (turnP pss pss.length)) (onesP pss.length) pss.length m2 ∧ runC (linesF (loP (turnP pss pss.length)) (onesP pss.length)) pss.length N2 (startC pss.length) = some res2 ∧ Tabs Tt H ∧
  ∀ t H', ExtN H H' → Tabs Tt H' → SolAt C H' t (falP pss res res2).1 (falP pss res res2).2 → Q (.ref t) H'
theorem ok_fl {f : Addr} {fd : FuncData} (F : Fun K "falling" "falling" sFl f fd) (gSq : Glo P w K mg base "_check_square" 6 ["rows"] (spSq C)) (gLo : Glo P w K mg base "_less_one" 6 ["rows"] (spLo C)) (gTu : Glo P w K mg base "_turned" 1 ["rows"] (spTrn C)) (gFt : Glo P w K mg base "_fit" 6 ["rows", "totals"] (spFt K C Tt)) (mL : mg "len" = none) : FnOk P w K mg base CX0 7 f fd ["rows"] (spFl C Tt) := by
  refine F.ok scFl (fun vs H Q E h => ?_) (fun cdv A outer s H vs Q E hr h => ?_)
  · obtain ⟨a, pss, m, m2, N, N2, res, res2, rfl, _⟩ := h
    rfl
  · obtain ⟨a, pss, m, m2, N, N2, res, res2, rfl, tm, R, Z, neg, ok1, run1, ok2, run2, tb, q⟩ := h
    refine ⟨_, (pss_cons (ps_expr (pe_call gSq.G (hr.mono (by decide)) (by rfl) gSq.m gSq.k gSq.b .nil pass0 (pa_cons (pv 0) pa_nil)))
      (pss_cons (ps_set (i := 1) scFl.nd rfl (Or.inl rfl) (pe_op op_rep (pe_lst (pa_cons (pe_un un_neg pe_int) pa_nil)) (pe_callB call_len_seq (by rfl) mL PySem.boot_len (pa_cons (pv 0) pa_nil))))
      (pss_cons (ps_asg (pe_call gFt.G (hr.mono (by decide)) (by rfl) gFt.m gFt.k gFt.b .nil pass0 (pa_cons (pe_call gLo.G (hr.mono (by decide)) (by rfl) gLo.m gLo.k gLo.b .nil pass0 (pa_cons (pv 0) pa_nil)) (pa_cons (pv 1) pa_nil))) (pg_tup (by rfl) (pgs_cons (pg_name (i := 2) scFl.nd rfl (.inl rfl)) (pgs_cons (pg_name (i := 3) scFl.nd rfl (.inl rfl)) pgs_nil))))
      (pss_cons (ps_if (pt_cmpR op_eq (pv 2) pe_str (nomark _)) (pss_one (ps_ret (pe_tup (pa_cons pe_str (pa_cons (pv 3) pa_nil))))) pss_nil)
      (pss_cons (ps_asg (pe_call gFt.G (hr.mono (by decide)) (by rfl) gFt.m gFt.k gFt.b .nil pass0 (pa_cons (pe_call gLo.G (hr.mono (by decide)) (by rfl) gLo.m gLo.k gLo.b .nil pass0 (pa_cons (pe_call gTu.G (hr.mono (by decide)) (by rfl) gTu.m gTu.k gTu.b .nil pass0 (pa_cons (pv 0) pa_nil)) pa_nil)) (pa_cons (pv 1) pa_nil))) (pg_tup (by rfl) (pgs_cons (pg_name (i := 4) scFl.nd rfl (.inl rfl)) (pgs_cons (pg_name (i := 5) scFl.nd rfl (.inl rfl)) pgs_nil))))
      (pss_one (ps_ret (pe_tup (pa_cons pe_str (pa_cons (pv 5) pa_nil)))))))))), ?_⟩
    have few := R.few
    have one := R.ne
    refine ⟨_, rfl, a, pss, rfl, tm, R, neg, fun H1 s1 => ?_⟩
    obtain ⟨vs, ha, hv⟩ := tm.same s1
    have vl : vs.length = pss.length := hv.1
    -- ones
    refine ⟨1, rfl, Nat.le_of_lt (small1000 (by decide)), fun l0 hl0 => ?_⟩
    have s2 : Same H1 (upd H1 l0 (.lst [.int (-1)])) := same_new hl0
    have e0 : upd H1 l0 (.lst [.int (-1)]) l0 = some (.lst [.int (-1)]) := upd_same
    generalize upd H1 l0 _ = H2 at s2 e0 ⊢
    refine ⟨_, rfl, a, vs, rfl, .inr (SqT.of (s2 _ _ ha)), l0, _, _, rfl, rfl, e0, by omega, by omega, Nat.le_of_lt (small1000 (by show 1 * _ ≤ 1000; omega)), fun lo hlo => ?_⟩
    have nt : ((vs.length : Nat) : Int).toNat = pss.length := by omega
    have s3 := s2.trans (same_new (o := .lst (List.replicate ((vs.length : Nat) : Int).toNat [V.int (-1)]).flatten) hlo)
    have eo : upd H2 lo (.lst (List.replicate ((vs.length : Nat) : Int).toNat [V.int (-1)]).flatten) lo = some (.lst (List.replicate pss.length (V.int (-1)))) := by rw [upd_same, nt, flat_rep]
    generalize upd H2 lo _ = H3 at s3 eo ⊢
    have fo : ∀ {Hx : Hp}, FVs C Hx (List.replicate pss.length (V.int (-1))) (onesP pss.length) := fun {Hx} => by
      unfold onesP
      refine ⟨by rw [List.length_replicate, List.length_replicate], fun i v hv => ?_⟩
      rw [List.getElem?_replicate] at hv ⊢
      split at hv
      · next z =>
        rw [if_pos z]
        cases hv
        exact ⟨_, rfl, .inr ⟨rfl, rfl⟩⟩
      · cases hv
    have s13 := s1.trans s3
    have tm3 := tm.same s13
    have szp : ∀ {qss : List (List PI)}, Sm qss → (∀ ps ∈ qss, AllLf ps) → ∀ ps ∈ qss, ∀ p ∈ ps, Sz p.1 p.2 := fun z l ps mp p hp => ⟨pow_up (z ps mp p hp).1 (by decide), pow_up (z ps mp p hp).2 (by decide), (l ps mp p hp).ne⟩
    refine ⟨_, rfl, a, pss, rfl, tm3, few, szp Z R.lf, fun l1 us1 H4 h41 h42 s4 => ?_⟩
    have fin : ∀ {Hx : Hp} {l : Addr} {us : List V} {qss : List (List PI)}, Hx l = some (.lst us) → AG (fun v ps => ∃ q xs, v = .ref q ∧ Hx q = some (.lst xs) ∧ FVs C Hx xs ps) us qss → Hx lo = some (.lst (List.replicate pss.length (V.int (-1)))) → FtIn K C Hx l lo qss (onesP pss.length) us (List.replicate pss.length (V.int (-1))) := fun h1 h2 h3 =>
      ⟨.inl ⟨SqL.of h1, SqL.of h3⟩, h2.imp fun _ _ ⟨q, xs, e, h, f⟩ => ⟨q, xs, e, .inr (SqL.of h), f⟩, fo⟩
    have s14 := s13.trans s4
    refine ⟨_, rfl, l1, lo, loP pss, onesP pss.length, pss.length, m, N, res, us1, _, rfl, fin h41 h42 (s4 _ _ eo), ok1, tb.ext s14, run1, fun t1 H5 ex tb5 so => ?_⟩
    have ex05 := (ExtN.of s14).trans ex
    have eo5 := exn_lst ex (s4 _ _ eo)
    have tm5 := exn_mx ex (tm3.same s4)
    obtain ⟨b1, ht1, hb1⟩ := so
    refine ⟨t1, _, rfl, SqT.of ht1, rfl, _, _, rfl, _, _, rfl, rfl, ?_⟩
    cases res with
    | fit st =>
      refine ⟨_, rfl, rfl, _, rfl, iteT ?_⟩
      refine ⟨_, rfl, small1000 (Nat.le_of_ble_eq_true rfl), fun t2 ht2 => ?_⟩
      have s6 := same_new (o := .tup [.str (Str.ofString "falling"), .ref b1]) ht2
      exact q t2 _ (ex05.trans (ExtN.of s6)) (tb5.ext s6) ⟨b1, upd_same, hb1.imp fun _ h => ⟨s6 _ _ h.1, h.2.same s6⟩⟩
    | bar fs =>
      refine ⟨_, rfl, rfl, _, rfl, iteF ?_⟩
      refine ⟨_, rfl, a, pss, pss.length, rfl, tm5, R, Z, fun tu H6 tmu s6 => ?_⟩
      have len2 : (turnP pss pss.length).length = pss.length := by unfold turnP; rw [List.length_map, List.length_range]
      have szt : ∀ ps ∈ turnP pss pss.length, ∀ p ∈ ps, Sz p.1 p.2 := fun ps mp p hp => by
        unfold turnP at mp
        obtain ⟨j, hj, rfl⟩ := List.mem_map.mp mp
        have hj := List.mem_range.mp hj
        obtain ⟨qs, mq, rfl⟩ := List.mem_map.mp hp
        exact szp Z R.lf qs mq _ (getD_mem' (by rw [R.len qs mq]; exact hj))
      refine ⟨tu, turnP pss pss.length, rfl, tmu, by omega, szt, fun l2 us2 H7 h71 h72 s7 => ?_⟩
      have s67 := s6.trans s7
      refine ⟨_, rfl, l2, lo, loP (turnP pss pss.length), onesP pss.length, pss.length, m2, N2, res2, us2, _, rfl, fin h71 h72 (s67 _ _ eo5), ok2, tb5.ext s67, run2, fun t2 H8 ex2 tb8 so2 => ?_⟩
      obtain ⟨b2, ht2, hb2⟩ := so2
      refine ⟨t2, _, rfl, SqT.of ht2, rfl, _, _, rfl, _, _, rfl, rfl, ?_⟩
      refine ⟨_, rfl, small1000 (Nat.le_of_ble_eq_true rfl), fun t3 ht3 => ?_⟩
      have s9 := same_new (o := .tup [.str (Str.ofString "kept"), .ref b2]) ht3
      exact q t3 _ ((ex05.trans (ExtN.of s67)).trans (ex2.trans (ExtN.of s9))) (tb8.ext s9) ⟨b2, upd_same, hb2.imp fun _ h => ⟨s9 _ _ h.1, h.2.same s9⟩⟩
end
end FR
set_option Elab.async false
set_option linter.all false
set_option maxRecDepth 100000
set_option maxHeartbeats 4000000
/-! _law_word: what a call comes to, told by a word; promises that may raise -/
namespace FR
open PySem PySem.Spec PyProof.Rows L2 LamX
def wRet : Str := "returned"
def wRows : Str := "rows"
def wOp : Str := "operation"
/-- what the call of the lambda comes to -/
def TTword (IR IO : Addr) : (XK → Hp → VK → Prop) → Hp → VK → Prop := fun tl H Q =>
  tl (fun cls _ H' => (cls = .ref IR ∧ Q (.str wRows) H') ∨ (cls = .ref IO ∧ Q (.str wOp) H')) H (fun _ H' => Q (.str wRet) H')
/-- the classes, under except -/
structure ExT (K : PySem.W.Frag) (mg : Str → Option Value) (IR IO EE : Addr) : Prop where
  mR : mg "InvalidRows" = some (.ref IR)
  mO : mg "InvalidOperation" = some (.ref IO)
  mE : mg "EndError" = some (.ref EE)
  xRR : PySem.W.exmOne K (.ref IR) (.ref IR) = some true
  xOR : PySem.W.exmOne K (.ref IO) (.ref IR) = some false
  xOO : PySem.W.exmOne K (.ref IO) (.ref IO) = some true
section
variable {X : Cx} {IR IO EE : Addr}
theorem word_gives {sg : Scope} {g : Addr} {cdg : Value} {q : Str} {j1 j2 j3 j4 : Nat} {p1 p2 p3 p4 p5 p6 p7 p8 p9 p10 p11 p12 p13 p14 p15 p16 p17 p18 : Pos} (T : ExT X.K X.mg IR IO EE) (g1 : sg.names.lookup ("InvalidRows" : Str) = some .globalImplicit) (g2 : sg.names.lookup ("InvalidOperation" : Str) = some .globalImplicit) (g3 : sg.names.lookup ("EndError" : Str) = some .globalImplicit) :
    GivesTo X ["_law_call"] "_law_word" sg g cdg [.Try [.Expr (.Call (.Name "_law_call" p1) [] [] p2) p3, .Return (some (.Constant (.str "returned") j1 p4)) p5]
      [.ExceptHandler (some (.Name "InvalidRows" p6)) none [.Return (some (.Constant (.str "rows") j2 p7)) p8] p9, .ExceptHandler (some (.Name "InvalidOperation" p10)) none [.Return (some (.Constant (.str "operation") j3 p11)) p12] p13, .ExceptHandler (some (.Name "EndError" p14)) none [.Return (some (.Constant (.str "other") j4 p15)) p16] p17] [] [] p18] "_law_call" q (TTword IR IO) := by
  intro f c' s H Q tl act hc h
  have n1 : Names (cxOf C8.CX0 X.prog X.w X.K X.mg X.base ["_law_call"] "_law_word" sg g cdg X.A X.stack s H C8.E0).nox "InvalidRows" (.ref IR) := ⟨g1, by decide, .inl T.mR⟩
  have n2 : Names (cxOf C8.CX0 X.prog X.w X.K X.mg X.base ["_law_call"] "_law_word" sg g cdg X.A X.stack s H C8.E0).nox "InvalidOperation" (.ref IO) := ⟨g2, by decide, .inl T.mO⟩
  have n3 : Names (cxOf C8.CX0 X.prog X.w X.K X.mg X.base ["_law_call"] "_law_word" sg g cdg X.A X.stack s H C8.E0).nox "EndError" (.ref EE) := ⟨g3, by decide, .inl T.mE⟩
  refine ⟨_, pss_one (ps_try_many (X := (cxOf C8.CX0 X.prog X.w X.K X.mg X.base ["_law_call"] "_law_word" sg g cdg X.A X.stack s H C8.E0).nox)
      (tb := fun W D σ H => ∃ Ech : XK, (∀ cls d σ' H', Ech cls d H' → W cls d σ' H') ∧ σ[0]? = some (some (.ref f)) ∧ H c' = some (CodeO c' q) ∧ tl Ech H (fun _ H' => D.rt (.str wRet) H'))
      rfl rfl L2.takes0 (fun W pn xe tk _ => ?_)
      (.cons n1 (fun a oe cls d pn _ _ => pss_one (ps_ret pe_str)) (.cons n2 (fun a oe cls d pn _ _ => pss_one (ps_ret pe_str)) (.cons n3 (fun a oe cls d pn _ _ => pss_one (ps_ret pe_str)) .nil)))), ?_⟩
  · refine ⟨fun pins s' σ H' D I h' => ?_⟩
    obtain ⟨Ech, hW, h1, h2, h3⟩ := h'
    have hp := act W pn xe Ech p1 p2 tk hW
    exact (pss_cons (ps_expr (pos := p3) hp) (pss_one (ps_ret (pos := p5) pe_str))).run pins s' σ H' D I ⟨h1, h2, h3⟩
  · refine ⟨fun cls _ H' => (cls = .ref IR ∧ Q (.str wRows) H') ∨ (cls = .ref IO ∧ Q (.str wOp) H'), fun cls d σ' H' e => ?_, rfl, hc, h⟩
    rcases e with ⟨ec, q1⟩ | ⟨ec, q1⟩
    · subst ec
      exact ⟨true, T.xRR, fun _ a _ => q1, fun hb => by cases hb⟩
    · subst ec
      exact ⟨false, T.xOR, fun hb => (by cases hb), fun _ => ⟨true, T.xOO, fun _ a _ => q1, fun hb => by cases hb⟩⟩
end
abbrev sWord : Stmt := top 65
/-- _law_word stands at g -/
structure WordT (K : PySem.W.Frag) (mg : Str → Option Value) (g IR IO EE : Addr) : Prop where
  x : ExT K mg IR IO EE
  m : mg "_law_word" = some (.ref g)
  k : PySem.W.keepIn K (.ref g) = true
  ex : ∃ (oc : Value) (od : Option Addr) (kV doc pm : Value) (an : Option Addr) (cdv ct : Value) (osl : Array (Option Value)), K.lookup g = some ⟨oc, od, .func (PySem.W.fnOf "_law_word" "_law_word" (defArgs sWord) (defBody sWord) (defScope sWord) .none kV doc pm an cdv ct), osl⟩ ∧ PySem.W.codeIn K cdv "_law_word" = true ∧
    L2.Binds K (PySem.W.fnOf "_law_word" "_law_word" (defArgs sWord) (defBody sWord) (defScope sWord) .none kV doc pm an cdv ct) ["_law_call"] []
theorem scWord : FnScope ["_law_call"] ["_law_call"] (defScope sWord) := ⟨rfl, rfl, rfl, by decide +kernel, rfl, by decide +kernel, by decide +kernel⟩
/-- _law_word(lambda: body) -/
theorem pe_word {X : Cx} {T : List (Addr × Str)} {g IR IO EE c P : Addr} {k : Nat} {params : Arguments} {body : Expr} {scope : Scope} {t : XK → TE} {p lpos pos : Pos} (Wt : WordT X.K X.mg g IR IO EE) (hg : Gl X "_law_word")
    (TB : TabB X.base X.mg c P) (hcode : X.env.code = .ref c) (hmT : (P, X.env.qual ++ "<lambda>") ∈ T) (hu : ∀ p ∈ T, p.1 = P → p.2 = X.env.qual ++ "<lambda>") (hr : Room (k + 2) X.A) (L : LamS X.env.scope scope) (hdef : defaultsOf params X.env = ([], []))
    (hbind : ∀ (q : Str) (cl : List (Str × Addr)) (pm cv ctv : Value), bindArgs (PySem.W.kla_fn "<lambda>" q params body scope cl pm cv ctv) ⟨[], []⟩ = pure [])
    (hbody : ∀ (A : Around) (outer : List Env) (s : Shared) (H : Hp) (E : XK) (f c' : Addr), Room k (A.deeper (lamEnv X scope s.heap.objs.size f c')) → PE (lamCx X A outer s H E scope f c') body (t E)) :
    PE X (.Call (.Name "_law_word" p) [.Lambda params body scope lpos] [] pos) (tLam T (TTword IR IO) t) := by
  obtain ⟨oc, od, kV, doc, pm, an, cdv, ct, osl, lk, hcg, hb⟩ := Wt.ex
  exact pe_lamcall hg Wt.m Wt.k lk hcg hb scWord rfl (.inl rfl) (word_gives Wt.x rfl rfl rfl) TB hcode hmT hu hr L hdef hbind hbody
/-! ### promises that may raise -/
section
variable {P : Program} {w : World} {K : PySem.W.Frag} {mg : Str → Option Value} {base : Heap} {k : Nat} {f : Addr} {fd : FuncData} {ps : List Str} {sp sp' : Sp}
theorem fn_lift (F : FnOk P w K mg base CX0 k f fd ps sp) : FnOk P w K mg base (L2.CX P w) k f fd ps sp :=
  ⟨F.len, fun A o s H ar us vs Q E hr e0 b r h => codeAny_mono (F.run A o s H ar us vs Q E hr e0 b r h) fun res s' hq => by
    cases res with
    | error e => exact (show False from hq).elim
    | ok fl => cases fl <;> exact hq⟩
theorem fn_or {CX : CXT} (F : FnOk P w K mg base CX k f fd ps sp) (G : FnOk P w K mg base CX k f fd ps sp') : FnOk P w K mg base CX k f fd ps (fun vs H Q E => sp vs H Q E ∨ sp' vs H Q E) :=
  ⟨fun vs H Q E h => h.elim (F.len vs H Q E) (G.len vs H Q E), fun A o s H ar us vs Q E hr e0 b r h => h.elim (F.run A o s H ar us vs Q E hr e0 b r) (G.run A o s H ar us vs Q E hr e0 b r)⟩
end
/-- a def of the top that may raise, with its promise -/
structure GloX (P : Program) (w : World) (K : PySem.W.Frag) (mg : Str → Option Value) (base : Heap) (nm : Str) (n : Nat) (ps : List Str) (sp : Sp) where
  f : Addr
  fd : FuncData
  G : FnOk P w K mg base (L2.CX P w) n f fd ps sp
  m : mg nm = some (.ref f)
  k : PySem.W.keepIn K (.ref f) = true
  b : Binds K fd ps []
/-- what a call comes to: w is the word -/
def Comes (Tt : List (Addr × Str)) (IR IO : Addr) (sp : Sp) (vs : List V) (w : Str) (H : Hp) : Prop := ∀ H1 Q E, ExtN H H1 → Tabs Tt H1 → (∀ H', ExtN H1 H' → Tabs Tt H' → (w = wRet → ∀ v, Q v H') ∧ (w = wRows → E (.ref IR) none H') ∧ (w = wOp → E (.ref IO) none H')) → sp vs H1 Q E
theorem Comes.ext {Tt : List (Addr × Str)} {IR IO : Addr} {sp : Sp} {vs : List V} {w : Str} {H H' : Hp} (h : Comes Tt IR IO sp vs w H) (e : ExtN H H') : Comes Tt IR IO sp vs w H' := fun H1 Q E e1 t q => h H1 Q E (e.trans e1) t q
/-- the reading of a lambda's call -/
theorem comes_word {Tt : List (Addr × Str)} {IR IO : Addr} {sp : Sp} {vs : List V} {w : Str} {H : Hp} {Q : VK} (hw : w = wRet ∨ w = wRows ∨ w = wOp) (h : Comes Tt IR IO sp vs w H) (H1 : Hp) (e : ExtN H H1) (tb : Tabs Tt H1) (q : ∀ H', ExtN H1 H' → Tabs Tt H' → Q (.str w) H') :
    sp vs H1 (fun _ H' => Q (.str wRet) H') (fun cls _ H' => (cls = .ref IR ∧ Q (.str wRows) H') ∨ (cls = .ref IO ∧ Q (.str wOp) H')) := by
  refine h H1 _ _ e tb fun H' e' t' => ⟨fun ew v => ?_, fun ew => .inl ⟨rfl, ?_⟩, fun ew => .inr ⟨rfl, ?_⟩⟩
  · rw [← ew]; exact q H' e' t'
  · rw [← ew]; exact q H' e' t'
  · rw [← ew]; exact q H' e' t'
end FR
set_option Elab.async false
set_option linter.all false
set_option maxRecDepth 100000
set_option maxHeartbeats 4000000
/-! is_rows of what is no rows -/
namespace FR
open PySem PySem.Spec PyProof.Rows L2 LD RF CN LK LamX NdefX RZ
def widB : List (Bool × Nat) → Bool
  | [] => false
  | z :: r => (decide ((1 : Int) ≤ (z.2 : Nat)) && decide (((z.2 : Nat) : Int) ≤ 12)) && (z :: r).all fun y => decide (y.2 = z.2)
def rowsB (zs : List (Bool × Nat)) : Bool := (decide ((1 : Int) ≤ (zs.length : Nat)) && decide (((zs.length : Nat) : Int) ≤ 80)) && ((zs.all fun z => z.1) && widB zs)
/-- whether a value is a tuple of fractions, and of how many -/
def RwX (K : PySem.W.Frag) (C : Addr) (H : Hp) (v : V) (z : Bool × Nat) : Prop := NumsR K C H v z.1 ∧ (z.1 = true → ∃ a ys, v = .ref a ∧ H a = some (.tup ys) ∧ ys.length = z.2)
/-- a value that is no rows -/
def RsX (K : PySem.W.Frag) (C : Addr) (H : Hp) (v : V) : Prop := NotTup K C H v ∨ ∃ a xs zs, v = .ref a ∧ H a = some (.tup xs) ∧ AG (RwX K C H) xs zs ∧ rowsB zs = false
section
variable {K : PySem.W.Frag} {C : Addr} {H H' : Hp}
theorem RwX.same {v : V} {z : Bool × Nat} (h : RwX K C H v z) (s : Same H H') : RwX K C H' v z := ⟨h.1.same s, fun e => by
  obtain ⟨a, ys, ev, ha, l⟩ := h.2 e
  exact ⟨a, ys, ev, s _ _ ha, l⟩⟩
theorem RsX.same {v : V} (h : RsX K C H v) (s : Same H H') : RsX K C H' v := by
  rcases h with h | ⟨a, xs, zs, e, ha, hz, b⟩
  · exact .inl (h.same s)
  · exact .inr ⟨a, xs, zs, e, s _ _ ha, hz.imp fun _ _ z => z.same s, b⟩
variable (ex : ExtN H H')
include ex
theorem exn_odd {v : V} {T : String} (o : Odd K H v T) : Odd K H' v T := by
  cases o with
  | non => exact .non
  | bl b => exact .bl b
  | int i => exact .int i
  | str x => exact .str x
  | lst e => exact .lst (exn_lst ex e)
  | tup e => exact .tup (exn_tup ex e)
  | dK e => exact .dK (ex _ _ e fun _ z => by cases z)
theorem exn_notTup {v : V} (h : NotTup K C H v) : NotTup K C H' v := by
  rcases h with ⟨T, o, hT⟩ | ⟨q, t, b, e, f⟩
  · exact .inl ⟨T, exn_odd ex o, hT⟩
  · exact .inr ⟨q, t, b, e, exn_fr ex f⟩
theorem exn_isFr {v : V} {r : Bool} (h : IsFr K C H v r) : IsFr K C H' v r := by
  rcases h with ⟨q, t, b, e, f, er⟩ | h | ⟨T, o, hT, er⟩
  · exact .inl ⟨q, t, b, e, exn_fr ex f, er⟩
  · exact .inr (.inl h)
  · exact .inr (.inr ⟨T, exn_odd ex o, hT, er⟩)
theorem exn_numsR {v : V} {r : Bool} (h : NumsR K C H v r) : NumsR K C H' v r := by
  rcases h with ⟨nt, er⟩ | ⟨b, ys, rs, e, hb, l9, l, z, er⟩
  · exact .inl ⟨exn_notTup ex nt, er⟩
  · exact .inr ⟨b, ys, rs, e, exn_tup ex hb, l9, l, fun i z' hz => (z i z' hz).imp fun q ⟨a, b⟩ => ⟨a, exn_isFr ex b⟩, er⟩
theorem exn_rwX {v : V} {z : Bool × Nat} (h : RwX K C H v z) : RwX K C H' v z := ⟨exn_numsR ex h.1, fun e => by
  obtain ⟨a, ys, ev, ha, l⟩ := h.2 e
  exact ⟨a, ys, ev, exn_tup ex ha, l⟩⟩
theorem exn_rsX {v : V} (h : RsX K C H v) : RsX K C H' v := by
  rcases h with h | ⟨a, xs, zs, e, ha, hz, b⟩
  · exact .inl (exn_notTup ex h)
  · exact .inr ⟨a, xs, zs, e, exn_tup ex ha, hz.imp fun _ _ z => exn_rwX ex z, b⟩
theorem exn_toldR {v : V} {z : Str} {m : Nat} {r : Bool} (h : ToldR K C H v z m r) : ToldR K C H' v z m r := by
  rcases h with ⟨nt, er⟩ | ⟨a, xs, e, ha, l2, er⟩ | ⟨a, x, y, T, e, ha, o, hT, er⟩ | ⟨a, z', y, e, ha, nz, er⟩ | ⟨a, y, e, ha, ny, er⟩ | ⟨a, b, ys, e, ha, hb, ny, er⟩
  · exact .inl ⟨exn_notTup ex nt, er⟩
  · exact .inr (.inl ⟨a, xs, e, exn_tup ex ha, l2, er⟩)
  · exact .inr (.inr (.inl ⟨a, x, y, T, e, exn_tup ex ha, exn_odd ex o, hT, er⟩))
  · exact .inr (.inr (.inr (.inl ⟨a, z', y, e, exn_tup ex ha, nz, er⟩)))
  · exact .inr (.inr (.inr (.inr (.inl ⟨a, y, e, exn_tup ex ha, exn_numsR ex ny, er⟩))))
  · exact .inr (.inr (.inr (.inr (.inr ⟨a, b, ys, e, exn_tup ex ha, exn_tup ex hb, exn_numsR ex ny, er⟩))))
end
section
variable {P : Program} {w : World} {K : PySem.W.Frag} {mg : Str → Option Value} {base : Heap} {C : Addr}
def spBetX : Sp := fun vs H Q _ => ∃ i lo hi : Int, vs = [.int i, .int lo, .int hi] ∧ Q (.bl (decide (lo ≤ i) && decide (i ≤ hi))) H
theorem ok_betX {f fP : Addr} {fd fdP : FuncData} (F : Fun K "is_between" "is_between" sBet f fd) (GP : FnOk P w K mg base CX0 1 fP fdP ["value"] (spPlain K)) (mP : mg "is_plain_integer" = some (.ref fP))
    (kP : PySem.W.keepIn K (.ref fP) = true) (bP : Binds K fdP ["value"] []) : FnOk P w K mg base CX0 2 f fd ["value", "least", "greatest"] spBetX := by
  refine F.ok scBet (fun vs H Q E h => ?_) (fun cdv A outer s H vs Q E hr h => ?_)
  · obtain ⟨i, lo, hi, rfl, _⟩ := h
    rfl
  · obtain ⟨i, lo, hi, rfl, q⟩ := h
    refine ⟨_, pss_one (ps_ret (pe_and (pe_call GP hr (by rfl) mP kP bP .nil pass0 (pa_cons (pv 0) pa_nil)) (pe_one (pe_chain op_le op_le (pv 1) (pv 0) (pv 2))))), ?_⟩
    refine ⟨_, rfl, _, _, true, false, rfl, .base (.int i), kI1, kI2, _, rfl, ?_⟩
    refine ⟨_, rfl, _, rfl, _, _, rfl, rfl, _, rfl, ?_⟩
    by_cases h1 : lo ≤ i
    · rw [if_pos (decide_eq_true h1)]
      refine ⟨_, rfl, _, _, rfl, rfl, ?_⟩
      rw [decide_eq_true h1, Bool.true_and] at q
      exact q
    · rw [if_neg (by rw [decide_eq_false h1]; decide)]
      rw [decide_eq_false h1, Bool.false_and] at q
      first
      | exact q
      | (rw [decide_eq_false h1]; exact q)
def spIrsX (K : PySem.W.Frag) (C : Addr) : Sp := fun vs H Q _ => ∃ v, vs = [v] ∧ RsX K C H v ∧ ∀ H', Same H H' → Q (.bl false) H'
theorem ok_irsX {f : Addr} {fd : FuncData} (F : Fun K "is_rows" "is_rows" sIrs f fd) (T : TxtR mg) (N : NoT K C) (gB : Glo P w K mg base "is_between" 2 ["value", "least", "greatest"] spBetX) (gF : Glo P w K mg base "is_fractions" 3 ["value"] (spFsB K C)) : FnOk P w K mg base CX0 4 f fd ["value"] (spIrsX K C) := by
  refine F.ok scIr (fun vs H Q E h => ?_) (fun cdv A outer s H vs Q E hr h => ?_)
  · obtain ⟨v, rfl, _⟩ := h
    rfl
  · obtain ⟨v, rfl, hv, q⟩ := h
    obtain ⟨t1, m1⟩ := T.mr
    obtain ⟨t2, m2⟩ := T.mw
    refine ⟨_, (pss_cons (ps_if (PW.pt (pw_or (pt_not (pt_val (pe_callB call_isi (by rfl) T.isi PyProof.Rows.boot_isinstance (pa_cons (pv 0) (pa_cons (pe_bltn (v := .ty "tuple") (by rfl) T.tup (by decide +kernel) rfl) pa_nil))))) (pw_or1 (pt_not (pt_val (pe_call gB.G (hr.mono (by decide)) (by rfl) gB.m gB.k gB.b .nil pass0 (pa_cons (pe_callB call_len_seq (by rfl) T.len PySem.boot_len (pa_cons (pv 0) pa_nil)) (pa_cons pe_int (pa_cons (pe_glob (v := .int 80) (by rfl) m1 ⟨t1, rfl⟩) pa_nil))))))))) (pss_one (ps_ret pe_bl)) pss_nil)
      (pss_cons (ps_if (pt_not (pt_val (pe_callB (cr_all rfl) (by rfl) T.all (by decide +kernel) (pa_cons (pe_lc (X := (cxOf CX0 P w K mg base NIr "is_rows" (defScope sIrs) f cdv A outer s H E).nox) (own := [("row", 2)]) (g := (gName 2)) (tt := tYes) rfl scIr.nd (pi_tup (pv 0)) (blkOk_by (N := NIr) (sc := defScope sIrs) (by decide +kernel)) (fun _ _ _ _ _ => (pg_name (i := 2) scIr.nd rfl (.inl rfl))) (fun _ _ _ _ _ => pts_nil) (fun _ _ _ _ _ => (pe_call gF.G hr (by rfl) gF.m gF.k gF.b .nil pass0 (pa_cons (pv 2) pa_nil)))) pa_nil)))) (pss_one (ps_ret pe_bl)) pss_nil)
      (pss_cons (ps_set (i := 1) scIr.nd rfl (Or.inr rfl) (pe_callB call_len_seq (by rfl) T.len PySem.boot_len (pa_cons (pe_ix ix_tup (pv 0) pe_int (fun _ _ => rfl)) pa_nil)))
      (pss_one (ps_ret (pe_and (pe_call gB.G (hr.mono (by decide)) (by rfl) gB.m gB.k gB.b .nil pass0 (pa_cons (pv 1) (pa_cons pe_int (pa_cons (pe_glob (v := .int 12) (by rfl) m2 ⟨t2, rfl⟩) pa_nil)))) (pe_one (pe_callB (cr_all rfl) (by rfl) T.all (by decide +kernel) (pa_cons (pe_lc (X := (cxOf CX0 P w K mg base NIr "is_rows" (defScope sIrs) f cdv A outer s H E).nox) (own := [("row", 2)]) (g := (gName 2)) (tt := tYes) rfl scIr.nd (pi_tup (pv 0)) (blkOk_by (N := NIr) (sc := defScope sIrs) (by decide +kernel)) (fun _ _ _ _ _ => (pg_name (i := 2) scIr.nd rfl (.inl rfl))) (fun _ _ _ _ _ => pts_nil) (fun _ _ _ _ _ => (pe_cmpR op_eq (pe_callB (call_len_seqK (K := K) rfl) (by rfl) T.len PySem.boot_len (pa_cons (pv 2) pa_nil)) (pv 1) (nomark _)))) pa_nil))))))))), ?_⟩
    rcases hv with nt | ⟨a, xs, zs, rfl, ha, hz, bad⟩
    · obtain ⟨t, ty, kt⟩ := nt.ty N
      exact ⟨_, rfl, _, _, _, _, false, rfl, .ty _, ty, kt, _, rfl, iteT (q H (Same.refl H))⟩
    refine ⟨_, rfl, _, _, _, _, true, rfl, .ty _, .base (.tup ha), kit_ty (by decide +kernel), _, rfl, iteF ?_⟩
    refine ⟨_, rfl, a, _, rfl, .inr (SqT.of ha), _, 1, 80, rfl, _, rfl, ?_⟩
    have zl := hz.1
    unfold rowsB at bad
    rw [← zl] at bad
    cases c1 : (decide ((1 : Int) ≤ (xs.length : Nat)) && decide (((xs.length : Nat) : Int) ≤ 80)) with
    | false => exact iteT (q H (Same.refl H))
    | true =>
    rw [c1, Bool.true_and] at bad
    have c1' := Bool.and_eq_true_iff.mp c1
    have l1 : 1 ≤ (xs.length : Nat) := by have := of_decide_eq_true c1'.1; omega
    have l80 : xs.length ≤ 80 := by have := of_decide_eq_true c1'.2; omega
    refine iteF ?_
    refine ⟨_, rfl, a, rfl, ⟨_, SqT.of ha⟩, fun D hD => ?_⟩
    refine lc_tup (xs := xs) (fun i Hc => Same H Hc ∧ Hc D = some (.lst (((zs.take i).map fun z => z.1).map V.bl))) ⟨same_new hD, upd_same⟩ (fun i Hc _ p => SqT.of (p.1 _ _ ha)) ?_ ?_
    · rintro i v Hc hvi ⟨sm, hDc⟩
      obtain ⟨z, hzi, rw_⟩ := hz.2 i v hvi
      have il := (List.getElem?_eq_some_iff.mp hvi).1
      refine ⟨rfl, _, rfl, v, z.1, rfl, rw_.1.same sm, fun H2 s2 => ?_⟩
      refine ⟨_, s2 _ _ hDc, small1000 (by rw [List.length_map, List.length_map, List.length_take]; omega), same_upd hD (sm.trans s2), ?_⟩
      rw [take_snoc hzi, List.map_append, List.map_append]
      exact upd_same
    rintro H1 ⟨s1, hD1⟩
    rw [List.take_of_length_le (by omega)] at hD1
    refine ⟨D, _, rfl, SqL.of hD1, ?_⟩
    have ea : (zs.map fun z => z.1).all id = zs.all fun z => z.1 := by rw [List.all_map]; rfl
    rw [ea]
    refine ⟨_, rfl, ?_⟩
    cases c2 : (zs.all fun z => z.1) with
    | false => exact iteT (q H1 s1)
    | true =>
    rw [c2, Bool.true_and] at bad
    refine iteF ?_
    have ha1 := s1 _ _ ha
    match zs, xs, hz, ha, ha1, bad, c2, l1, l80, zl with
    | _, [], _, _, _, _, _, l1, _, _ => exact absurd l1 (by decide)
    | [], v0 :: vr, hz, _, _, _, _, _, _, _ => exact absurd hz.1 (by simp)
    | z0 :: zr, v0 :: vr, hz, ha, ha1, bad, c2, l1, l80, zl =>
    obtain ⟨z0', hz0, rw0⟩ := hz.2 0 v0 rfl
    cases hz0
    have allt : ∀ y ∈ z0 :: zr, y.1 = true := fun y my => List.all_eq_true.mp c2 y my
    obtain ⟨q0, ys0, rfl, hx0, l0⟩ := rw0.2 (allt z0 List.mem_cons_self)
    refine ⟨_, rfl, a, _, 0, _, rfl, rfl, SqT.of ha1, atI_nat (j := 0) rfl, ?_⟩
    refine ⟨q0, ys0, rfl, .inr (SqT.of (s1 _ _ hx0)), ?_⟩
    rw [l0]
    generalize hzs : z0 :: zr = zs at *
    generalize hvs : V.ref q0 :: vr = xs at *
    have bad' : ((decide ((1 : Int) ≤ (z0.2 : Nat)) && decide (((z0.2 : Nat) : Int) ≤ 12)) && zs.all fun y => decide (y.2 = z0.2)) = false := by rw [← hzs] at bad ⊢; exact bad
    refine ⟨_, rfl, _, 1, 12, rfl, _, rfl, ?_⟩
    cases c3 : (decide ((1 : Int) ≤ (z0.2 : Nat)) && decide (((z0.2 : Nat) : Int) ≤ 12)) with
    | false => exact iteF (q H1 s1)
    | true =>
    rw [c3, Bool.true_and] at bad'
    refine iteT ?_
    refine ⟨_, rfl, a, rfl, ⟨_, SqT.of ha1⟩, fun D2 hD2 => ?_⟩
    refine lc_tup (xs := xs) (fun i Hc => Same H1 Hc ∧ Hc D2 = some (.lst (((zs.take i).map fun y => decide (y.2 = z0.2)).map V.bl))) ⟨same_new hD2, upd_same⟩ (fun i Hc _ p => SqT.of (p.1 _ _ ha1)) ?_ ?_
    · rintro i v Hc hvi ⟨sm, hDc⟩
      obtain ⟨z, hzi, rw_⟩ := hz.2 i v hvi
      have il := (List.getElem?_eq_some_iff.mp hvi).1
      obtain ⟨q1, ys, rfl, hx, ly⟩ := rw_.2 (allt z (List.mem_of_getElem? hzi))
      have hx := sm _ _ (s1 _ _ hx)
      refine ⟨rfl, _, rfl, q1, ys, rfl, .inr (SqT.of hx), _, rfl, rfl, ?_⟩
      rw [ly, int_dec]
      refine ⟨_, hDc, small1000 (by rw [List.length_map, List.length_map, List.length_take]; omega), same_upd hD2 sm, ?_⟩
      rw [take_snoc hzi, List.map_append, List.map_append]
      exact upd_same
    · rintro H2 ⟨s2, hD3⟩
      rw [List.take_of_length_le (by omega)] at hD3
      refine ⟨D2, _, rfl, SqL.of hD3, ?_⟩
      have eb : (zs.map fun y => decide (y.2 = z0.2)).all id = zs.all fun y => decide (y.2 = z0.2) := by rw [List.all_map]; rfl
      rw [eb, bad']
      exact q H2 (s1.trans s2)
end
end FR
set_option Elab.async false
set_option linter.all false
set_option maxRecDepth 100000
set_option maxHeartbeats 4000000
/-! the model of solution; an Echelon beside another list -/
namespace FR
open PySem PySem.Spec PyProof.Rows L2 LD RF
structure SE where
  rows : List (List Int)
  places : List Nat
  d : Int
  tk : TK
def exL (w : Nat) (ps : List PI) (k : Nat) : List Int := lineP ps ++ markL k (w + 1)
def restE (w : Nat) (ps : List PI) (st : SE) : List Int := restL st.d (st.rows.zip st.places) (exL w ps st.tk.length)
def placeE (w : Nat) (rest : List Int) : Option Nat := (List.range w).find? fun j => decide (ent rest j ≠ 0)
abbrev RE : Type := SE ⊕ (TK × List Int)
def stepE (w i : Nat) (ps : List PI) (st : SE) : RE :=
  match placeE w (restE w ps st) with
  | some q => .inl ⟨clearedBy st.rows (restE w ps st) q st.d ++ [restE w ps st], st.places ++ [q], ent (restE w ps st) q, st.tk ++ [(i, lcmP ps)]⟩
  | none => if ent (restE w ps st) w ≠ 0 then .inr (st.tk ++ [(i, lcmP ps)], (restE w ps st).drop w) else .inl st
def runE (w : Nat) (pss : List (List PI)) : Nat → RE
  | 0 => .inl ⟨[], [], 1, []⟩
  | i + 1 => match runE w pss i with
    | .inr x => .inr x
    | .inl st => stepE w i (pss.getD i []) st
def foundE (w : Nat) (st : SE) : List PI := (st.places.zip st.rows).foldl (fun fs z => fs.set z.1 (nT (ent z.2 w) st.d, nB (ent z.2 w) st.d)) (List.replicate w (0, 1))
/-- what must stand at each turn -/
structure FitS (w i : Nat) (st : SE) : Prop where
  rws : ∃ m, 0 < m ∧ m ≤ 8000 ∧ Rws st.rows st.places st.d (2 * w + 2) m
  d0 : st.d ≠ 0
  pl : ∀ p ∈ st.places, p < w
  ln : st.tk.length = st.rows.length
  tk : ∀ p ∈ st.tk, p.1 < i ∧ p.2.natAbs < 2 ^ 2401
  sm : st.rows.length ≤ 80
structure FitE (w : Nat) (pss : List (List PI)) : Prop where
  st : ∀ i, i ≤ pss.length → ∀ s, runE w pss i = .inl s → FitS w i s
  li : ∀ i, i < pss.length → ∀ s, runE w pss i = .inl s → ∃ t, 0 < t ∧ t ≤ 8000 ∧ Sh (exL w (pss.getD i []) s.tk.length) t ∧ Sh (restE w (pss.getD i []) s) 8000
theorem markL_len (k m : Nat) : (markL k m).length = m := by unfold markL; rw [List.length_map, List.length_range]
theorem exL_len {w : Nat} {ps : List PI} {k : Nat} (h : ps.length = w + 1) : (exL w ps k).length = 2 * w + 2 := by
  unfold exL lineP topsP
  rw [List.length_append, List.length_map, markL_len, h]; omega
theorem restE_len {w : Nat} {ps : List PI} {st : SE} {m : Nat} (h : ps.length = w + 1) (r : Rws st.rows st.places st.d (2 * w + 2) m) : (restE w ps st).length = 2 * w + 2 :=
  rest_len (exL_len h) fun p hp => (r.row _ (List.of_mem_zip (show (p.1, p.2) ∈ _ from hp)).1).1
theorem runE_inl {w : Nat} {pss : List (List PI)} {i : Nat} {s : SE} (h : runE w pss i = .inl s) : runE w pss (i + 1) = stepE w i (pss.getD i []) s := by
  show (match runE w pss i with | .inr x => Sum.inr x | .inl st => stepE w i (pss.getD i []) st) = _
  rw [h]
theorem runE_inr {w : Nat} {pss : List (List PI)} {i : Nat} {x : TK × List Int} (h : runE w pss i = .inr x) : ∀ j, runE w pss (i + j) = .inr x
  | 0 => h
  | j + 1 => by
    show (match runE w pss (i + j) with | .inr x => Sum.inr x | .inl st => stepE w (i + j) (pss.getD (i + j) []) st) = _
    rw [runE_inr h j]
/-! an Echelon whose lists are not the list at tl -/
def Ecx (D tl : Addr) (H : Hp) (x : Addr) (n : Nat) (rows : List (List Int)) (places : List Nat) (d : Int) : Prop :=
  ∃ dx fs a b, H x = some (.ins D dx fs) ∧ EcF fs n a b d ∧ LM H a rows ∧ H b = some (.lst (places.map fun i => V.int (i : Nat))) ∧ a ≠ tl ∧ b ≠ tl
theorem Ecx.ec {D tl : Addr} {H : Hp} {x : Addr} {n : Nat} {rows : List (List Int)} {places : List Nat} {d : Int} (h : Ecx D tl H x n rows places d) : Ec D H x n rows places d := by
  obtain ⟨dx, fs, a, b, h1, h2, h3, h4, _, _⟩ := h
  exact ⟨dx, fs, a, b, h1, h2, h3, h4⟩
theorem Ecx.same {D tl : Addr} {H H' : Hp} {x : Addr} {n : Nat} {rows : List (List Int)} {places : List Nat} {d : Int} (h : Ecx D tl H x n rows places d) (s : Same H H') : Ecx D tl H' x n rows places d := by
  obtain ⟨dx, fs, a, b, h1, h2, h3, h4, h5, h6⟩ := h
  exact ⟨dx, fs, a, b, s _ _ h1, h2, h3.same s, s _ _ h4, h5, h6⟩
theorem Ec.new {D tl : Addr} {H : Hp} {x : Addr} {n : Nat} {rows : List (List Int)} {places : List Nat} {d : Int} (h : Ec D H x n rows places d) (f : H tl = none) : Ecx D tl H x n rows places d := by
  obtain ⟨dx, fs, a, b, h1, h2, ⟨vs, h3, h4⟩, h5⟩ := h
  exact ⟨dx, fs, a, b, h1, h2, ⟨vs, h3, h4⟩, h5, fun z => (by rw [z, f] at h3; cases h3), fun z => (by rw [z, f] at h5; cases h5)⟩
def NoInts (us : List V) : Prop := ∀ r : List Int, 0 < r.length → us ≠ r.map V.int
theorem noInts_nil : NoInts [] := fun r h e => by
  cases r with
  | nil => simp at h
  | cons _ _ => cases e
theorem noInts_ref {a : Addr} {us : List V} : NoInts (.ref a :: us) := fun r h e => by
  cases r with
  | nil => simp at h
  | cons _ _ => cases e
theorem TkL.ni {H : Hp} {vs : List V} {tk : TK} (z : AG (fun v (p : Nat × Int) => ∃ q, v = .ref q ∧ H q = some (.tup [.int (p.1 : Nat), .int p.2])) vs tk) : NoInts vs := by
  cases vs with
  | nil => exact noInts_nil
  | cons v vr =>
    obtain ⟨p, _, q, e, _⟩ := z.2 0 v rfl
    rw [e]
    exact noInts_ref
theorem Ecx.upd {D tl : Addr} {H : Hp} {x : Addr} {n : Nat} {rows : List (List Int)} {places : List Nat} {d : Int} {us : List V} {o : HO} (h : Ecx D tl H x n rows places d) (ht : H tl = some (.lst us)) (ni : NoInts us) (hr : ∀ r ∈ rows, 0 < r.length) : Ecx D tl (L2.upd H tl o) x n rows places d := by
  obtain ⟨dx, fs, a, b, h1, h2, ⟨vs, h3, h4⟩, h5, h6, h7⟩ := h
  refine ⟨dx, fs, a, b, by rw [upd_ne fun z => by rw [z, ht] at h1; cases h1]; exact h1, h2, ⟨vs, by rw [upd_ne h6]; exact h3, ⟨h4.1, fun i v hv => ?_⟩⟩, by rw [upd_ne h7]; exact h5, h6, h7⟩
  obtain ⟨r, hr', q, e, hq⟩ := h4.2 i v hv
  exact ⟨r, hr', q, e, by rw [upd_ne fun z => by rw [z, ht] at hq; injection hq with hq; injection hq with hq; exact ni r (hr r (List.mem_of_getElem? hr')) hq]; exact hq⟩
/-- behind a take the lists hold something, so they are told from a list of pairs -/
theorem Ec.x {D tl : Addr} {H : Hp} {x : Addr} {n : Nat} {rows : List (List Int)} {places : List Nat} {d : Int} {tk : TK} (h : Ec D H x n rows places d) (ht : TkL H tl tk) (hk : tk ≠ []) (hr : rows ≠ []) (hp : places ≠ []) : Ecx D tl H x n rows places d := by
  obtain ⟨dx, fs, a, b, h1, h2, ⟨vs, h3, h4⟩, h5⟩ := h
  obtain ⟨us, hu, hz⟩ := ht
  obtain ⟨u0, ur, eu⟩ : ∃ u0 ur, us = u0 :: ur := by
    cases us with
    | nil => exact absurd (List.length_eq_zero_iff.mp (by rw [← hz.1]; rfl)) hk
    | cons a b => exact ⟨a, b, rfl⟩
  subst eu
  obtain ⟨p0, _, q0, e0, t0⟩ := hz.2 0 u0 rfl
  subst e0
  refine ⟨dx, fs, a, b, h1, h2, ⟨vs, h3, h4⟩, h5, fun z => ?_, fun z => ?_⟩
  · rw [z, hu] at h3
    injection h3 with h3
    injection h3 with h3
    subst h3
    obtain ⟨r, _, q, e, hq⟩ := h4.2 0 (.ref q0) rfl
    cases e
    rw [t0] at hq
    cases hq
  · rw [z, hu] at h5
    injection h5 with h5
    injection h5 with h5
    cases places with
    | nil => exact hp rfl
    | cons y yr => cases h5
end FR
set_option Elab.async false
set_option linter.all false
set_option maxRecDepth 100000
set_option maxHeartbeats 4000000
/-! solution -/
namespace FR
open PySem PySem.Spec PyProof.Rows L2 LD RF
def augP (pss : List (List PI)) (ts : List PI) : List (List PI) := List.zipWith (fun ps t => ps ++ [t]) pss ts
/-- the pair that is returned -/
def resE (w m : Nat) : RE → Str × List PI
  | .inl st => ("solution", foundE w st)
  | .inr x => ("none", factP x.1 x.2 m)
theorem place_some {w q : Nat} {rest : List Int} (hq : q < w) (h0 : ∀ j, j < q → ent rest j = 0) (h1 : ent rest q ≠ 0) : placeE w rest = some q := by
  unfold placeE
  rw [List.find?_range_eq_some]
  exact ⟨decide_eq_true h1, List.mem_range.mpr hq, fun j hj => by rw [h0 j hj]; rfl⟩
theorem place_none {w : Nat} {rest : List Int} (h0 : ∀ j, j < w → ent rest j = 0) : placeE w rest = none := by
  unfold placeE
  rw [List.find?_eq_none]
  intro j hj
  rw [h0 j (List.mem_range.mp hj)]
  decide
theorem cut_drop {xs : List V} {n : Nat} (h : n ≤ xs.length) : cutV xs (some (n : Int)) none = xs.drop n := by
  unfold cutV
  rw [HT.sIx_nat, HT.sIx_none, Nat.min_eq_left h]
  exact List.take_of_length_le (by rw [List.length_drop]; exact Nat.le_refl _)
section
variable {P : Program} {w : World} {K : PySem.W.Frag} {mg : Str → Option Value} {base : Heap} {C fI pT gT0 pB gB0 D : Addr} {fdI fdT fdB : FuncData}
abbrev sSo : Stmt := top 30
abbrev NSo : List Str := ["rows", "totals", "width", "echelon", "taken", "number", "row", "tops", "bottom", "rest", "place", "found"]
theorem scSo : FnScope NSo ["rows", "totals"] (defScope sSo) := ⟨rfl, rfl, rfl, by decide +kernel, rfl, by decide +kernel, by decide +kernel⟩
def spSo (C : Addr) : Sp := fun vs H Q _ => ∃ (a c : Addr) (pss : List (List PI)) (n : Nat) (ts : List PI), vs = [.ref a, .ref c] ∧ TMx C H a pss ∧ Rs pss n ∧ Tf C H c ts ∧ ts.length = pss.length ∧ (∀ ps ∈ augP pss ts, AllLf ps ∧ Shr ps) ∧ FitE n (augP pss ts) ∧
  ∀ t H', SolAt C H' t (resE n pss.length (runE n (augP pss ts) pss.length)).1 (resE n pss.length (runE n (augP pss ts) pss.length)).2 → Same H H' → Q (.ref t) H'
theorem ok_so {f fI' : Addr} {fd fdI' : FuncData} (F : Fun K "solution" "solution" sSo f fd) (k : FrK P w K mg base C fI pT gT0 pB gB0 fdI fdT fdB) (ek : EcK P w K mg base D fI' fdI') (mR : Met P w K mg base D "rest_of" 1 ["self", "line"] (spEr D)) (mP : Met P w K mg base D "place_in" 1 ["self", "rest"] (spEp D)) (mT : Met P w K mg base D "take" 2 ["self", "rest", "place"] (spEt D))
    (gC : Glo P w K mg base "_check_rows_and_totals" 6 ["rows", "totals"] (spCt C)) (gO : Glo P w K mg base "over_one_bottom" 5 ["fractions"] (spOver C)) (gM : Glo P w K mg base "_mark" 1 ["at", "many"] spMk) (gA : Glo P w K mg base "_factors_of" 4 ["taken", "rest", "many"] (spFa C))
    (mL : mg "len" = none) (mZ : mg "zip" = none) (mEn : mg "enumerate" = none) (mTu : mg "tuple" = none) : FnOk P w K mg base CX0 7 f fd ["rows", "totals"] (spSo C) := by
  obtain ⟨ds, vds, bds⟩ := k.b1
  refine F.ok scSo (fun vs H Q E h => ?_) (fun cdv A outer s H vs Q E hr h => ?_)
  · obtain ⟨a, c, pss, n, ts, rfl, _⟩ := h
    rfl
  · obtain ⟨a, c, pss, n, ts, rfl, tm, R, tt, tl_, alf, fit, q⟩ := h
    refine ⟨_, (pss_cons (ps_expr (pe_call gC.G hr (by rfl) gC.m gC.k gC.b .nil pass0 (pa_cons (pv 0) (pa_cons (pv 1) pa_nil))))
      (pss_cons (ps_set (i := 2) scSo.nd rfl (Or.inl rfl) (pe_callB call_len_seq (by rfl) mL PySem.boot_len (pa_cons (pe_ix ix_tup (pv 0) pe_int (fun _ _ => rfl)) pa_nil)))
      (pss_cons (ps_set (i := 3) scSo.nd rfl (Or.inl rfl) (pe_make ek.M ek.G (hr.mono (by decide)) (by rfl) ek.m ek.b .nil pass0 (pa_cons (pv 2) pa_nil)))
      (pss_cons (ps_set (i := 4) scSo.nd rfl (Or.inl rfl) (pe_lst pa_nil))
      (pss_cons (ps_for PassesOwn.never rfl (pi_enumT (by rfl) mEn (pa_cons (pv 0) pa_nil)) (pg_tup (by rfl) (pgs_cons (pg_name (i := 5) scSo.nd rfl (.inl rfl)) (pgs_cons (pg_name (i := 6) scSo.nd rfl (.inl rfl)) pgs_nil)))
        (pss_cons (ps_asg (pe_call gO.G (hr.mono (by decide)) (by rfl) gO.m gO.k gO.b .nil pass0 (pa_cons (pe_tup (StX.pa_star (pv 6) (pa_cons (pe_ix ix_tup (pv 1) (pv 5) (fun _ _ => rfl)) pa_nil))) pa_nil)) (pg_tup (by rfl) (pgs_cons (pg_name (i := 7) scSo.nd rfl (.inl rfl)) (pgs_cons (pg_name (i := 8) scSo.nd rfl (.inl rfl)) pgs_nil))))
      (pss_cons (ps_set (i := 9) scSo.nd rfl (Or.inl rfl) (pe_meth (pv 3) ek.T.cl ⟨mR.D.at_, mR.D.fn, mR.kp⟩ mR.G (hr.mono (by decide)) mR.b .nil pass0 (pa_cons (pe_op op_cat (pv 7) (pe_call gM.G (hr.mono (by decide)) (by rfl) gM.m gM.k gM.b .nil pass0 (pa_cons (pe_callB call_len_seq (by rfl) mL PySem.boot_len (pa_cons (pv 4) pa_nil)) (pa_cons (pe_op op_add (pv 2) pe_int) pa_nil)))) pa_nil)))
      (pss_cons (ps_set (i := 10) scSo.nd rfl (Or.inl rfl) (pe_meth (pv 3) ek.T.cl ⟨mP.D.at_, mP.D.fn, mP.kp⟩ mP.G (hr.mono (by decide)) mP.b .nil pass0 (pa_cons (pv 9) pa_nil)))
      (pss_cons (ps_expr (pe_bm PySem.F.plainAttrs_list PySem.F.slot_list_append PySem.F.type_list_append mt_append (pv 4) (pa_cons (pe_tup (pa_cons (pv 5) (pa_cons (pv 8) pa_nil))) pa_nil)))
      (pss_one (ps_if (pt_cmpR op_notN (pv 10) pe_non (nomark _)) (pss_one (ps_expr (pe_meth (pv 3) ek.T.cl ⟨mT.D.at_, mT.D.fn, mT.kp⟩ mT.G (hr.mono (by decide)) mT.b .nil pass0 (pa_cons (pv 9) (pa_cons (pv 10) pa_nil))))) (pss_one (ps_if (pt_cmpR op_ne (pe_ix ix_list (pv 9) (pv 2) (fun _ _ => rfl)) pe_int (nomark _)) (pss_one (ps_ret (pe_tup (pa_cons pe_str (pa_cons (pe_call gA.G (hr.mono (by decide)) (by rfl) gA.m gA.k gA.b .nil pass0 (pa_cons (pv 4) (pa_cons (pe_slice sl_list (pv 9) (po_some (pv 2)) po_none) (pa_cons (pe_callB call_len_seq (by rfl) mL PySem.boot_len (pa_cons (pv 0) pa_nil)) pa_nil)))) pa_nil))))) (pss_one (ps_expr (pe_bm0 PySem.F.plainAttrs_list PySem.F.slot_list_pop PySem.F.type_list_pop mt_pop (pv 4)))))))))))))
      (pss_cons (ps_set (i := 11) scSo.nd rfl (Or.inl rfl) (pe_op op_rep (pe_lst (pa_cons (pe_make k.M k.GI (hr.mono (by decide)) (by rfl) k.T.mC bds vds pass0 (pa_cons pe_int pa_nil)) pa_nil)) (pv 2)))
      (pss_cons (ps_for PassesOwn.never rfl (pi_zip (by rfl) mZ (pa_cons (pe_fld (pv 3) rfl) (pa_cons (pe_fld (pv 3) rfl) pa_nil))) (pg_tup (by rfl) (pgs_cons (pg_name (i := 10) scSo.nd rfl (.inl rfl)) (pgs_cons (pg_name (i := 6) scSo.nd rfl (.inl rfl)) pgs_nil)))
        (pss_one (ps_asg (pe_make k.M k.GI (hr.mono (by decide)) (by rfl) k.T.mC k.b2 .nil pass0 (pa_cons (pe_ix ix_list (pv 6) (pv 2) (fun _ _ => rfl)) (pa_cons (pe_fld (pv 3) rfl) pa_nil))) (pg_sub (pv 11) (pv 10) set_list))))
      (pss_one (ps_ret (pe_tup (pa_cons pe_str (pa_cons (pe_callTy call_tuple_of (by rfl) mTu (by decide +kernel) (pa_cons (pv 11) pa_nil)) pa_nil)))))))))))), ?_⟩
    refine ⟨_, rfl, _, rfl, a, c, pss, n, ts, rfl, tm, R, tt, tl_, fun H1 s1 => ?_⟩
    obtain ⟨vs, haH, hvH⟩ := id tm
    have ha := s1 _ _ haH
    obtain ⟨q0, xs0, hq0, hx0, l0⟩ : ∃ q0 xs0, vs[0]? = some (.ref q0) ∧ H1 q0 = some (.tup xs0) ∧ xs0.length = n := by
      obtain ⟨v0, h0⟩ : ∃ v0, vs[0]? = some v0 := ⟨_, List.getElem?_eq_getElem (by rw [hvH.1]; exact R.ne)⟩
      obtain ⟨p0, hp0, q0, rfl, tf0⟩ := hvH.2 0 v0 h0
      obtain ⟨xs0, hx0, hf0⟩ := (tf0.same s1).at_
      exact ⟨q0, xs0, h0, hx0, by rw [hf0.1]; exact R.len p0 (List.mem_of_getElem? hp0)⟩
    refine ⟨_, rfl, a, _, 0, _, rfl, rfl, SqT.of ha, atI_nat (j := 0) hq0, ?_⟩
    refine ⟨q0, xs0, rfl, .inr (SqT.of hx0), ?_⟩
    rw [l0]
    refine ⟨_, rfl, fun e dx ne_ nd_ nn_ => ⟨e, dx, n, rfl, upd_same, fun H2 he hs => ⟨rfl, ?_⟩⟩⟩
    have s2 : Same H1 H2 := same_make (C := D) ne_ nd_ hs
    have s12 := s1.trans s2
    have e0 : H e = none := Same.free s1 ne_
    refine ⟨Nat.zero_le _, fun tl htl => ?_⟩
    have s3 : Same H2 (upd H2 tl (.lst [])) := same_new htl
    have tl0 : H tl = none := Same.free s12 htl
    have ex3 : Ecx D tl (upd H2 tl (.lst [])) e n [] [] 1 := (he.new htl).same s3
    have tk3 : TkL (upd H2 tl (.lst [])) tl [] := ⟨[], upd_same, AG.nil⟩
    have s13 := s12.trans s3
    generalize upd H2 tl _ = H3 at *
    refine ⟨_, rfl, a, vs, rfl, SqT.of (s13 _ _ haH), ?_⟩
    have alen : (augP pss ts).length = pss.length := by unfold augP; rw [List.length_zipWith, tl_]; omega
    have vlen : vs.length = pss.length := hvH.1
    have f80 := R.few
    have n12 := R.n12
    have n1 := R.n1
    obtain ⟨cxs, hcx, hcf⟩ := tt.at_
    refine for_it (walk_enumT (xs := vs)) (fun i σ Hc => Same H Hc ∧ ∃ (st : SE) (x5 x6 x7 x8 x9 x10 : Option V), σ = [some (.ref a), some (.ref c), some (.int (n : Nat)), some (.ref e), some (.ref tl), x5, x6, x7, x8, x9, x10, none] ∧ runE n (augP pss ts) i = .inl st ∧ Ecx D tl Hc e n st.rows st.places st.d ∧ TkL Hc tl st.tk)
      ⟨s13, ⟨[], [], 1, []⟩, _, _, _, _, _, _, rfl, rfl, ex3, tk3⟩ (fun i σ Hc _ p => SqT.of (p.1 _ _ haH)) ?_ ?_
    · rintro i v σ Hc H' hi ⟨sm, st, x5, x6, x7, x8, x9, x10, rfl, hrun, ec, tk⟩ ⟨T0, u1, u2, rfl, nT, rfl, h1, h2⟩
      have h1 : some (V.int (i : Nat)) = some u1 := h1
      cases h1
      have h2 : vs[i]? = some u2 := h2
      obtain ⟨ps, hps, qr, rfl, tfr⟩ := hvH.2 i u2 h2
      have ip : i < pss.length := by omega
      obtain ⟨t0, ht0⟩ : ∃ t0, ts[i]? = some t0 := ⟨_, List.getElem?_eq_getElem (by omega)⟩
      have haug : (augP pss ts)[i]? = some (ps ++ [t0]) := by unfold augP; rw [List.getElem?_zipWith, hps, ht0]
      have gaug : (augP pss ts).getD i [] = ps ++ [t0] := by rw [List.getD_eq_getElem?_getD, haug]; rfl
      have pn : ps.length = n := R.len ps (List.mem_of_getElem? hps)
      have al1 : (ps ++ [t0]).length = n + 1 := by rw [List.length_append, pn]; rfl
      obtain ⟨lf1, shr1⟩ := alf _ (List.mem_of_getElem? haug)
      obtain ⟨⟨m, m0, m8, rw_⟩, d0, hpl, hln, htk, hsm⟩ := fit.st i (by omega) st hrun
      obtain ⟨t, tp, t8, sh1, sh2⟩ := fit.li i (by omega) st hrun
      rw [gaug] at sh1 sh2
      have sT : Same Hc (upd Hc T0 (.tup [.int (i : Nat), .ref qr])) := same_new nT
      have tt0 : upd Hc T0 (.tup [.int (i : Nat), .ref qr]) T0 = some (.tup [.int (i : Nat), .ref qr]) := upd_same
      have smT := sm.trans sT
      have ecT := ec.same sT
      have tkT := tk.same sT
      generalize upd Hc T0 _ = HA at *
      refine ⟨T0, _, rfl, SqT.of tt0, rfl, _, _, rfl, _, _, rfl, rfl, ?_⟩
      -- over_one_bottom
      obtain ⟨xs, hxs, hfx⟩ := (tfr.same smT).at_
      obtain ⟨wt, hwt⟩ : ∃ wt, cxs[i]? = some wt := ⟨_, List.getElem?_eq_getElem (by rw [hcf.1]; omega)⟩
      obtain ⟨t0', ht0', fvt⟩ := hcf.2 i wt hwt
      rw [ht0] at ht0'
      cases ht0'
      refine ⟨_, rfl, qr, xs, rfl, .inl (SqT.of hxs), _, rfl, _, rfl, c, _, (i : Nat), wt, rfl, rfl, SqT.of (smT _ _ hcx), atI_nat hwt, ?_⟩
      refine ⟨Nat.le_of_lt (small1000 (by simp only [List.length_append, List.length_cons, List.length_nil, hfx.1, pn]; omega)), fun tpp htp => ?_⟩
      have sP : Same HA (upd HA tpp (.tup (xs ++ [wt]))) := same_new htp
      have tp1 : upd HA tpp (.tup (xs ++ [wt])) tpp = some (.tup (xs ++ [wt])) := upd_same
      have smP := smT.trans sP
      have ecP := ecT.same sP
      have tkP := tkT.same sP
      have hfxP := hfx.same sP
      have fvP := fvt.same smP
      generalize upd HA tpp _ = HB0 at *
      refine ⟨tpp, ps ++ [t0], rfl, ⟨⟨_, tp1, A2.snoc hfxP fvP⟩, by rw [al1]; omega, lf1, shr1⟩, fun ca cb HB hca hcb sB _ => ?_⟩
      refine ⟨cb, _, rfl, SqT.of hcb, rfl, _, _, rfl, _, _, rfl, rfl, ?_⟩
      have smB := smP.trans sB
      have ecB := ecP.same sB
      have tkB := tkP.same sB
      -- rest_of
      obtain ⟨dxB, fsB, aB, bB, gB1, gB2, gB3, gB4, gB5, gB6⟩ := id ecB
      obtain ⟨usB, husB, hzB⟩ := id tkB
      have uln : usB.length = st.tk.length := hzB.1
      have tkf : st.tk.length ≤ 90 := by rw [hln]; exact rw_.few
      refine ⟨_, rfl, e, dxB, _, rfl, gB1, gB2.no _ (by decide) (by decide) (by decide) (by decide), _, rfl, _, rfl, tl, usB, rfl, .inl (SqL.of husB), _, rfl, _, _, rfl, rfl, st.tk.length, n + 1, by rw [uln]; rfl, by omega, fun ml HC hml sC _ => ?_⟩
      refine ⟨ca, ml, _, _, rfl, rfl, sC _ _ hca, hml, Nat.le_of_lt (small1000 (by rw [List.length_map, List.length_map, markL_len]; unfold topsP; rw [List.length_map, al1]; omega)), fun lx hlx => ?_⟩
      have sX : Same HC (upd HC lx (.lst ((topsP (ps ++ [t0]) (lcmP (ps ++ [t0]))).map V.int ++ (markL st.tk.length (n + 1)).map V.int))) := same_new hlx
      have lx1 : upd HC lx (.lst ((topsP (ps ++ [t0]) (lcmP (ps ++ [t0]))).map V.int ++ (markL st.tk.length (n + 1)).map V.int)) lx = some (.lst ((exL n (ps ++ [t0]) st.tk.length).map V.int)) := by
        unfold exL lineP
        rw [List.map_append]
        exact upd_same
      have sBX := sC.trans sX
      generalize upd HC lx _ = HX at *
      have ecX := ecB.same sBX
      refine ⟨e, lx, n, 2 * n + 2, m, t, st.rows, st.places, st.d, exL n (ps ++ [t0]) st.tk.length, rfl, ecX.ec, lx1, rw_, exL_len al1, sh1, by omega, m8, t8, m0, tp, fun y HD hy sD => ?_⟩
      have hy : HD y = some (.lst ((restE n (ps ++ [t0]) st).map V.int)) := hy
      have sBD := sBX.trans sD
      have smD := smB.trans sBD
      have ecD := ecB.same sBD
      have tkD := tkB.same sBD
      have rlen : (restE n (ps ++ [t0]) st).length = 2 * n + 2 := restE_len al1 rw_
      obtain ⟨dxD, fsD, aD, bD, gD1, gD2, gD3, gD4, gD5, gD6⟩ := id ecD
      refine ⟨_, rfl, e, dxD, _, rfl, gD1, gD2.no _ (by decide) (by decide) (by decide) (by decide), _, rfl, e, y, n, st.rows, st.places, st.d, restE n (ps ++ [t0]) st, rfl, ecD.ec, hy, by omega, by omega, fun qq hq h0 h1 => ?_, fun h0 => ?_⟩
      · -- a place
        obtain ⟨us, hus, hzz⟩ := id tkD
        refine ⟨_, rfl, .inl ⟨rfl, _, SqL.of hus⟩, _, rfl, _, rfl, small1000 (by show 1 ≤ 1000; decide), fun tq htq => ?_⟩
        have sQ : Same HD (upd HD tq (.tup [.int (i : Nat), .int (lcmP (ps ++ [t0]))])) := same_new htq
        have tq1 : upd HD tq (.tup [.int (i : Nat), .int (lcmP (ps ++ [t0]))]) tq = some (.tup [.int (i : Nat), .int (lcmP (ps ++ [t0]))]) := upd_same
        have husE := sQ _ _ hus
        have ecE := ecD.same sQ
        have hyE := sQ _ _ hy
        have smE := smD.trans sQ
        have hzE := hzz.imp fun _ _ ⟨q1, e1, t1⟩ => (⟨q1, e1, sQ _ _ t1⟩ : ∃ q, _ = V.ref q ∧ _ = some _)
        generalize upd HD tq _ = HE at *
        have ni := TkL.ni hzE
        refine ⟨tl, us, _, rfl, rfl, husE, small1000 (by rw [hzz.1]; have := rw_.few; omega), ?_⟩
        have ecF := ecE.upd (o := .lst (us ++ [.ref tq])) husE ni (fun r mr => by rw [(rw_.row r mr).1]; omega)
        have tup_ : ∀ z xs, HE z = some (.tup xs) → upd HE tl (.lst (us ++ [.ref tq])) z = some (.tup xs) := fun z xs hz => tup_updl hz husE
        have tkF : TkL (upd HE tl (.lst (us ++ [.ref tq]))) tl (st.tk ++ [(i, lcmP (ps ++ [t0]))]) := ⟨_, upd_same, AG.snoc (hzE.imp fun _ _ ⟨q1, e1, t1⟩ => ⟨q1, e1, tup_ _ _ t1⟩) ⟨tq, rfl, tup_ _ _ tq1⟩⟩
        have ytl : y ≠ tl := fun z => by
          rw [z, husE] at hyE
          injection hyE with hyE
          injection hyE with hyE
          exact ni _ (by rw [rlen]; omega) hyE
        have hyF : upd HE tl (.lst (us ++ [.ref tq])) y = some (.lst ((restE n (ps ++ [t0]) st).map V.int)) := by rw [upd_ne ytl]; exact hyE
        have smF : Same H (upd HE tl (.lst (us ++ [.ref tq]))) := same_upd tl0 smE
        have htlF : upd HE tl (.lst (us ++ [.ref tq])) tl = some (.lst (us ++ [.ref tq])) := upd_same
        refine ⟨_, rfl, rfl, _, rfl, iteT ?_⟩
        obtain ⟨dxF, fsF, aF, bF, gF1, gF2, gF3, gF4, gF5, gF6⟩ := id ecF
        refine ⟨_, rfl, e, dxF, _, rfl, gF1, gF2.no _ (by decide) (by decide) (by decide) (by decide), _, rfl, _, rfl, e, y, qq, n, 2 * n + 2, m, 8000, st.rows, st.places, st.d, restE n (ps ++ [t0]) st, rfl, ecF.ec, hyF, rw_, rlen, sh2, by omega, by omega, d0, m8, by omega, m0, by omega, fun HG he5 hs5 => ?_⟩
        have etl : tl ≠ e := fun z => by
          have g := gF1
          rw [← z, htlF] at g
          cases g
        have tkG : TkL HG tl (st.tk ++ [(i, lcmP (ps ++ [t0]))]) := by
          obtain ⟨vs1, h1', h2'⟩ := tkF
          exact ⟨vs1, hs5 _ _ etl h1', h2'.imp fun _ _ ⟨q1, e1, t1⟩ => ⟨q1, e1, hs5 _ _ (fun z => by
            have g := gF1
            rw [← z, t1] at g
            cases g) t1⟩⟩
        have step : runE n (augP pss ts) (i + 1) = .inl ⟨clearedBy st.rows (restE n (ps ++ [t0]) st) qq st.d ++ [restE n (ps ++ [t0]) st], st.places ++ [qq], ent (restE n (ps ++ [t0]) st) qq, st.tk ++ [(i, lcmP (ps ++ [t0]))]⟩ := by
          rw [runE_inl hrun, gaug]
          unfold stepE
          rw [place_some hq h0 h1]
        exact ⟨fun z o hz => hs5 z o (ne_of_none hz e0) (smF z o hz), _, _, _, _, _, _, _, rfl, step, Ec.x he5 tkG (by simp) (by simp) (by simp), tkG⟩
      · -- none
        obtain ⟨us, hus, hzz⟩ := id tkD
        refine ⟨_, rfl, .inl ⟨rfl, _, SqL.of hus⟩, _, rfl, _, rfl, small1000 (by show 1 ≤ 1000; decide), fun tq htq => ?_⟩
        have sQ : Same HD (upd HD tq (.tup [.int (i : Nat), .int (lcmP (ps ++ [t0]))])) := same_new htq
        have tq1 : upd HD tq (.tup [.int (i : Nat), .int (lcmP (ps ++ [t0]))]) tq = some (.tup [.int (i : Nat), .int (lcmP (ps ++ [t0]))]) := upd_same
        have husE := sQ _ _ hus
        have ecE := ecD.same sQ
        have hyE := sQ _ _ hy
        have smE := smD.trans sQ
        have hzE := hzz.imp fun _ _ ⟨q1, e1, t1⟩ => (⟨q1, e1, sQ _ _ t1⟩ : ∃ q, _ = V.ref q ∧ _ = some _)
        generalize upd HD tq _ = HE at *
        have ni := TkL.ni hzE
        refine ⟨tl, us, _, rfl, rfl, husE, small1000 (by rw [hzz.1]; have := rw_.few; omega), ?_⟩
        have ecF := ecE.upd (o := .lst (us ++ [.ref tq])) husE ni (fun r mr => by rw [(rw_.row r mr).1]; omega)
        have tup_ : ∀ z xs, HE z = some (.tup xs) → upd HE tl (.lst (us ++ [.ref tq])) z = some (.tup xs) := fun z xs hz => tup_updl hz husE
        have tkF : TkL (upd HE tl (.lst (us ++ [.ref tq]))) tl (st.tk ++ [(i, lcmP (ps ++ [t0]))]) := ⟨_, upd_same, AG.snoc (hzE.imp fun _ _ ⟨q1, e1, t1⟩ => ⟨q1, e1, tup_ _ _ t1⟩) ⟨tq, rfl, tup_ _ _ tq1⟩⟩
        have ytl : y ≠ tl := fun z => by
          rw [z, husE] at hyE
          injection hyE with hyE
          injection hyE with hyE
          exact ni _ (by rw [rlen]; omega) hyE
        have hyF : upd HE tl (.lst (us ++ [.ref tq])) y = some (.lst ((restE n (ps ++ [t0]) st).map V.int)) := by rw [upd_ne ytl]; exact hyE
        have smF : Same H (upd HE tl (.lst (us ++ [.ref tq]))) := same_upd tl0 smE
        have htlF : upd HE tl (.lst (us ++ [.ref tq])) tl = some (.lst (us ++ [.ref tq])) := upd_same
        have pn0 : placeE n (restE n (ps ++ [t0]) st) = none := place_none h0
        refine ⟨_, rfl, rfl, _, rfl, iteF ?_⟩
        refine ⟨_, rfl, _, rfl, y, _, _, _, rfl, rfl, SqL.of hyF, atI_ent (by omega), rfl, _, rfl, ite2 (fun z => ?_) (fun z => ?_)⟩
        · have z := neq_of z
          have hyl : ((restE n (ps ++ [t0]) st).map V.int).length = 2 * n + 2 := by rw [List.length_map, rlen]
          refine ⟨_, rfl, _, rfl, _, rfl, _, rfl, y, _, rfl, SqL.of hyF, fun sl hsl => ?_⟩
          have cd : cutV ((restE n (ps ++ [t0]) st).map V.int) (some (n : Int)) none = ((restE n (ps ++ [t0]) st).drop n).map V.int := by rw [cut_drop (by omega), List.map_drop]
          rw [cd]
          have sS : Same (upd HE tl (.lst (us ++ [.ref tq]))) (upd (upd HE tl (.lst (us ++ [.ref tq]))) sl (.lst (((restE n (ps ++ [t0]) st).drop n).map V.int))) := same_new hsl
          have sl1 : upd (upd HE tl (.lst (us ++ [.ref tq]))) sl (.lst (((restE n (ps ++ [t0]) st).drop n).map V.int)) sl = some (.lst (((restE n (ps ++ [t0]) st).drop n).map V.int)) := upd_same
          have smS := smF.trans sS
          have tkS := tkF.same sS
          generalize upd (upd HE tl _) sl _ = HS at *
          have e0' : ent ((restE n (ps ++ [t0]) st).drop n) 0 = ent (restE n (ps ++ [t0]) st) n := by unfold ent; rw [List.getD_eq_getElem?_getD, List.getD_eq_getElem?_getD, List.getElem?_drop]; rfl
          refine ⟨_, rfl, a, vs, rfl, .inr (SqT.of (smS _ _ haH)), ?_⟩
          refine ⟨tl, sl, st.tk ++ [(i, lcmP (ps ++ [t0]))], (restE n (ps ++ [t0]) st).drop n, pss.length, by rw [vlen]; rfl, tkS, sl1, by rw [List.length_drop]; omega, by rw [List.length_drop]; omega, by omega, by rw [e0']; exact z, fun x mx => ?_, fun p mp => ?_, by rw [List.length_append, hln]; simp only [List.length_cons, List.length_nil]; omega, fun tr HR htr sR => ?_⟩
          · obtain ⟨j, hj⟩ := List.mem_iff_getElem?.mp (List.mem_of_mem_drop mx)
            have := sh2 j
            rw [ent_some hj] at this
            exact this
          · rcases List.mem_append.mp mp with w1 | w1
            · obtain ⟨g1, g2⟩ := htk p w1
              exact ⟨by omega, g2⟩
            · rw [List.mem_singleton.mp w1]
              exact ⟨ip, shr1.1⟩
          · refine ⟨small1000 (by show 1 ≤ 1000; decide), fun tz htz => ?_⟩
            have sZ : Same HR (upd HR tz (.tup [.str "none", .ref tr])) := same_new htz
            have step : runE n (augP pss ts) (i + 1) = .inr (st.tk ++ [(i, lcmP (ps ++ [t0]))], (restE n (ps ++ [t0]) st).drop n) := by
              rw [runE_inl hrun, gaug]
              unfold stepE
              rw [pn0]
              show (if ent (restE n (ps ++ [t0]) st) n ≠ 0 then _ else _) = _
              rw [if_pos z]
            have all : runE n (augP pss ts) pss.length = .inr (st.tk ++ [(i, lcmP (ps ++ [t0]))], (restE n (ps ++ [t0]) st).drop n) := by
              have := runE_inr step (pss.length - (i + 1))
              rw [show i + 1 + (pss.length - (i + 1)) = pss.length by omega] at this
              exact this
            refine q tz _ ?_ ((smS.trans sR).trans sZ)
            rw [all]
            exact ⟨tr, upd_same, htr.same sZ⟩
        · have z0 : ¬ ent (restE n (ps ++ [t0]) st) n ≠ 0 := fun w => z (neq_to w)
          have lst : (us ++ [V.ref tq])[(us ++ [V.ref tq]).length - 1]? = some (.ref tq) := by rw [List.length_append]; simp
          refine ⟨_, rfl, .inl ⟨rfl, _, SqL.of htlF⟩, tl, us ++ [.ref tq], .ref tq, rfl, rfl, htlF, lst, ?_⟩
          rw [List.dropLast_concat]
          have ni2 : NoInts (us ++ [V.ref tq]) := by
            cases us with
            | nil => exact noInts_ref
            | cons v vr =>
              obtain ⟨p1, _, q1, e1, _⟩ := hzE.2 0 v rfl
              rw [e1]
              exact noInts_ref
          have ecG := ecF.upd (o := .lst us) htlF ni2 (fun r mr => by rw [(rw_.row r mr).1]; omega)
          have tkG : TkL (upd (upd HE tl (.lst (us ++ [.ref tq]))) tl (.lst us)) tl st.tk := ⟨us, upd_same, hzE.imp fun _ _ ⟨q1, e1, t1⟩ => ⟨q1, e1, tup_updl (tup_ _ _ t1) htlF⟩⟩
          have step : runE n (augP pss ts) (i + 1) = .inl st := by
            rw [runE_inl hrun, gaug]
            unfold stepE
            rw [pn0]
            show (if ent (restE n (ps ++ [t0]) st) n ≠ 0 then _ else _) = _
            rw [if_neg z0]
          exact ⟨same_upd tl0 smF, st, _, _, _, _, _, _, rfl, step, ecG, tkG⟩
    · rintro σ Hc ⟨sm, st, x5, x6, x7, x8, x9, x10, rfl, hrun, ec, tk⟩
      rw [vlen] at hrun
      obtain ⟨⟨m, m0, m8, rw_⟩, d0, hpl, hln, htk, hsm⟩ := fit.st pss.length (by omega) st hrun
      refine fun x dx nx nd ne => ⟨x, dx, 0, 1, rfl, upd_same, by decide, dv8 (by decide) (by decide), fun HA hf hs => ⟨rfl, small1000 (by show 0 ≤ 1000; decide), fun p hp => ?_⟩⟩
      have sA := same_make (C := C) nx nd hs
      have f0 : FrAt C HA x ((0, 1) : PI).1 ((0, 1) : PI).2 := by
        have e0 : ((nT 0 1, nB 0 1) : PI) = (0, 1) := by decide +kernel
        have a1 : nT 0 1 = 0 := congrArg Prod.fst e0
        have a2 : nB 0 1 = 1 := congrArg Prod.snd e0
        rw [a1, a2] at hf
        exact hf
      have sP : Same HA (upd HA p (.lst [.ref x])) := same_new hp
      have hp3 : upd HA p (.lst [.ref x]) p = some (.lst [.ref x]) := upd_same
      have f3 := f0.same sP
      have smP := (sm.trans sA).trans sP
      have ecP := (ec.ec.same sA).same sP
      generalize upd HA p _ = HP at *
      have nat : ((n : Int)).toNat = n := by omega
      refine ⟨_, rfl, p, (n : Int), [.ref x], rfl, rfl, hp3, by omega, by omega, Nat.le_of_lt (small1000 (by show 1 * (n : Int).toNat ≤ 1000; omega)), fun fl hfl => ?_⟩
      have sF : Same HP (upd HP fl (.lst (List.replicate ((n : Int).toNat) [V.ref x]).flatten)) := same_new hfl
      have hfl4 : upd HP fl (.lst (List.replicate ((n : Int).toNat) [V.ref x]).flatten) fl = some (.lst (List.replicate n (V.ref x))) := by rw [upd_same, nat, flat_rep]
      have f4 := f3.same sF
      have smF := smP.trans sF
      have ecF := ecP.same sF
      have fl0 : H fl = none := Same.free smP hfl
      obtain ⟨dx1, fs1, a1, b1, g1, ef1, ⟨us1, g2, hu1⟩, g3⟩ := id ecP
      have f1 : e ≠ fl := fun z => by rw [z, hfl] at g1; cases g1
      have f2 : a1 ≠ fl := fun z => by rw [z, hfl] at g2; cases g2
      have f3' : b1 ≠ fl := fun z => by rw [z, hfl] at g3; cases g3
      have fr : ∀ q1 o, HP q1 = some o → q1 ≠ fl := fun q1 o h z => by rw [z, hfl] at h; cases h
      have h1 := sF _ _ g1
      have h2 := sF _ _ g2
      have h3 := sF _ _ g3
      have hu2 : AG (fun v r => ∃ q, v = .ref q ∧ q ≠ fl ∧ upd HP fl (.lst (List.replicate ((n : Int).toNat) [V.ref x]).flatten) q = some (.lst (r.map V.int))) us1 st.rows := hu1.imp fun _ _ ⟨q1, e1, t1⟩ => ⟨q1, e1, fr _ _ t1, sF _ _ t1⟩
      generalize upd HP fl _ = HF at *
      refine ⟨_, rfl, e, D, dx1, _, _, rfl, h1, ek.T.cl, ek.T.nP, ef1.p, _, rfl, e, D, dx1, _, _, rfl, h1, ek.T.cl, ek.T.nR, ef1.r, b1, a1, _, _, rfl, SqL.of h3, SqL.of h2, ?_⟩
      have pul : st.places.length = us1.length := by rw [hu1.1, rw_.ln]
      refine for_it (walk_zip (xs := st.places.map fun i => V.int (i : Nat)) (ys := us1) (n := (st.places.zip st.rows).length) (by rw [List.length_map, List.length_zip, hu1.1]))
        (fun i σ Hc => Same H Hc ∧ Hc e = some (.ins D dx1 fs1) ∧ Hc a1 = some (.lst us1) ∧ Hc b1 = some (.lst (st.places.map fun i => V.int (i : Nat))) ∧ AG (fun v r => ∃ q, v = .ref q ∧ q ≠ fl ∧ Hc q = some (.lst (r.map V.int))) us1 st.rows ∧
          ∃ (us : List V) (x5 x6 x7 x8 x9 x10 : Option V), σ = [some (.ref a), some (.ref c), some (.int (n : Nat)), some (.ref e), some (.ref tl), x5, x6, x7, x8, x9, x10, some (.ref fl)] ∧ Hc fl = some (.lst us) ∧
          FRs C Hc us (((st.places.zip st.rows).take i).foldl (fun fs z => fs.set z.1 (nT (ent z.2 n) st.d, nB (ent z.2 n) st.d)) (List.replicate n (0, 1))) ∧ us.length = n)
        ⟨smF, h1, h2, h3, hu2, _, _, _, _, _, _, _, rfl, hfl4, frs_rep f4 n, List.length_replicate⟩ (fun i σ Hc _ p => ⟨SqL.of p.2.2.2.1, SqL.of p.2.2.1⟩) ?_ ?_
      · rintro i v σ Hc H' hi ⟨sm, k1, k2, k3, k4, us, x5, x6, x7, x8, x9, x10, rfl, hflc, hu, ul⟩ ⟨T0, u1, u2, rfl, nT0, rfl, y1, y2⟩
        have y1 : (st.places.map fun i => V.int (i : Nat))[i]? = some u1 := y1
        have y2 : us1[i]? = some u2 := y2
        obtain ⟨pc, gp⟩ : ∃ pc, st.places[i]? = some pc := ⟨_, List.getElem?_eq_getElem (by rw [List.length_zip] at hi; omega)⟩
        have e1 : u1 = .int (pc : Nat) := by
          rw [List.getElem?_map, gp] at y1
          exact (Option.some.inj y1).symm
        subst e1
        obtain ⟨r, hr1, ra, rfl, nra, hra⟩ := k4.2 i u2 y2
        have pcn := hpl pc (List.mem_of_getElem? gp)
        obtain ⟨rn, rs⟩ := rw_.row r (List.mem_of_getElem? hr1)
        have sT : Same Hc (upd Hc T0 (.tup [.int (pc : Nat), .ref ra])) := same_new nT0
        have tt1 : upd Hc T0 (.tup [.int (pc : Nat), .ref ra]) T0 = some (.tup [.int (pc : Nat), .ref ra]) := upd_same
        have k1' := sT _ _ k1
        have k2' := sT _ _ k2
        have k3' := sT _ _ k3
        have k4' := k4.imp fun _ _ ⟨q1, e1, n1, t1⟩ => (⟨q1, e1, n1, sT _ _ t1⟩ : ∃ q, _ = V.ref q ∧ q ≠ fl ∧ _ = some _)
        have hra' := sT _ _ hra
        have hfl' := sT _ _ hflc
        have hu' := hu.same sT
        have sm' := sm.trans sT
        generalize upd Hc T0 _ = Hn at *
        refine ⟨T0, _, rfl, SqT.of tt1, rfl, _, _, rfl, _, _, rfl, rfl, ?_⟩
        refine ⟨_, rfl, _, rfl, ra, _, _, _, rfl, rfl, SqL.of hra', atI_ent (by omega), _, rfl, e, D, dx1, _, _, rfl, k1', ek.T.cl, ek.T.nD, ef1.d, fun y dy ny ndy ney => ⟨y, dy, ent r n, st.d, rfl, upd_same, d0, dv8 d0 (pow_up rw_.dz (by omega)), fun H' hf hs => ⟨rfl, ?_⟩⟩⟩
        have s5 := same_make (C := C) ny ndy hs
        have e5 := s5 _ _ hfl'
        refine ⟨_, rfl, _, rfl, fl, us, (pc : Int), pc, rfl, rfl, e5, ?_, ?_⟩
        · unfold ixN
          rw [if_pos (by omega), if_pos (by omega)]
          exact congrArg some (by omega)
        · refine ⟨same_upd fl0 (sm'.trans s5), by rw [upd_ne f1]; exact s5 _ _ k1', by rw [upd_ne f2]; exact s5 _ _ k2', by rw [upd_ne f3']; exact s5 _ _ k3', k4'.imp fun _ _ ⟨q1, e1, n1, t1⟩ => ⟨q1, e1, n1, by rw [upd_ne n1]; exact s5 _ _ t1⟩, us.set pc (.ref y), _, _, _, _, _, _, rfl, upd_same, ?_, by rw [List.length_set]; exact ul⟩
          rw [take_snoc (x := (pc, r)) (by rw [List.getElem?_zip_eq_some]; exact ⟨gp, hr1⟩), List.foldl_append]
          exact A2.set ((hu'.same s5).updl e5) ⟨y, rfl, hf.updl e5⟩ pc
      · rintro σ Hc ⟨sm, k1, k2, k3, k4, us, x5, x6, x7, x8, x9, x10, rfl, hflc, hu, ul⟩
        rw [List.take_of_length_le (Nat.le_refl _)] at hu
        refine ⟨_, rfl, fl, _, rfl, .inl ⟨SqL.of hflc, fun t ht => ?_⟩⟩
        have sT : Same Hc (upd Hc t (.tup us)) := same_new ht
        have t1 : upd Hc t (.tup us) t = some (.tup us) := upd_same
        have hu' := hu.same sT
        have smT := sm.trans sT
        generalize upd Hc t _ = HT at *
        refine ⟨small1000 (by show 1 ≤ 1000; decide), fun tz htz => ?_⟩
        have sZ : Same HT (upd HT tz (.tup [.str "solution", .ref t])) := same_new htz
        refine q tz _ ?_ (smT.trans sZ)
        rw [hrun]
        exact ⟨t, upd_same, us, sZ _ _ t1, hu'.same sZ⟩
end
end FR
set_option Elab.async false
set_option linter.all false
set_option maxRecDepth 100000
set_option maxHeartbeats 4000000
/-! the checks that raise; what raises by them -/
namespace FR
open PySem PySem.Spec PyProof.Rows L2 LD RF CN LK LamX NdefX RZ
abbrev veB : List Value := [.type "ValueError", .type "Exception", .type "BaseException", .type "object"]
/-- an own class of errors -/
structure ExcC (K : PySem.W.Frag) (mg : Str → Option Value) (nm : Str) (I : Addr) : Prop where
  x : PySem.W.excIn K I veB "ValueError.__new__" = true
  g : mg nm = some (.ref I)
  k : PySem.W.keepIn K (.ref I) = true
  b : PySem.W.subIn K (.ref I) (.type "BaseException") = some true
  t : PySem.W.typeIn K (.ref I) = some (.type "type")
/-- rows that are none, or a column of another length or form -/
def CtX (K : PySem.W.Frag) (C : Addr) (H : Hp) (v u : V) (f : Nat → Nat → Nat) : Prop := RsX K C H v ∨ ∃ a pss n z, v = .ref a ∧ TMx C H a pss ∧ Rs pss n ∧ RwX K C H u z ∧ (z.1 = true → z.2 ≠ f pss.length n)
/-- rows that aren't square, or have an entry below 0 -/
def SqX (C : Addr) (H : Hp) (v : V) : Prop := ∃ a pss n, v = .ref a ∧ TMx C H a pss ∧ Rs pss n ∧ (pss.length ≠ n ∨ negR pss = true)
theorem CtX.ext {K : PySem.W.Frag} {C : Addr} {H H' : Hp} {v u : V} {f : Nat → Nat → Nat} (h : CtX K C H v u f) (ex : ExtN H H') : CtX K C H' v u f := by
  rcases h with h | ⟨a, pss, n, z, e, tm, R, rw_, ne⟩
  · exact .inl (exn_rsX ex h)
  · exact .inr ⟨a, pss, n, z, e, exn_mx ex tm, R, exn_rwX ex rw_, ne⟩
theorem SqX.ext {C : Addr} {H H' : Hp} {v : V} (h : SqX C H v) (ex : ExtN H H') : SqX C H' v := by
  obtain ⟨a, pss, n, e, tm, R, b⟩ := h
  exact ⟨a, pss, n, e, exn_mx ex tm, R, b⟩
/-- raises the error at I, whatever else -/
def Rse (I : Addr) (H : Hp) (E : XK) : Prop := ∀ H', Same H H' → E (.ref I) none H'
theorem Rse.to {I : Addr} {H H' : Hp} {E : XK} (h : Rse I H E) (s : Same H H') : Rse I H' E := fun H2 s2 => h H2 (s.trans s2)
section
variable {P : Program} {w : World} {K : PySem.W.Frag} {mg : Str → Option Value} {base : Heap} {C IR IO : Addr}
def spCrX (K : PySem.W.Frag) (C IR : Addr) : Sp := fun vs H Q E => ∃ v, vs = [v] ∧ RsX K C H v ∧ Rse IR H E
theorem ok_crX {f : Addr} {fd : FuncData} (F : Fun K "_check_rows" "_check_rows" sCrs f fd) (T : ExcC K mg "InvalidRows" IR) (gR : Glo P w K mg base "is_rows" 4 ["value"] (spIrsX K C)) : FnOk P w K mg base (L2.CX P w) 5 f fd ["rows"] (spCrX K C IR) := by
  refine F.okX scCrs (fun vs H Q E h => ?_) (fun cdv A outer s H vs Q E hr h => ?_)
  · obtain ⟨v, rfl, _⟩ := h
    rfl
  · obtain ⟨v, rfl, hv, q⟩ := h
    refine ⟨_, (pss_one (ps_if (pt_not (pt_val (pe_call gR.G hr (by rfl) gR.m gR.k gR.b .nil pass0 (pa_cons (pv 0) pa_nil)))) (pss_one (ps_raise rfl (takes_of rfl rfl rfl rfl) (pmk_own PySem.F.excBase_ValueError T.x T.g T.k (raises_own T.b T.t) (by exact rfl)))) pss_nil)), ?_⟩
    exact ⟨_, rfl, v, rfl, hv, fun H' s' => ⟨_, rfl, iteT (q H' s')⟩⟩
def spCfX (K : PySem.W.Frag) (C IR : Addr) : Sp := fun vs H Q E => ∃ v z m, vs = [v, .int (m : Nat)] ∧ RwX K C H v z ∧ (z.1 = true → z.2 ≠ m) ∧ Rse IR H E
theorem ok_cfX {f : Addr} {fd : FuncData} (F : Fun K "_check_fractions" "_check_fractions" sCfs f fd) (T : ExcC K mg "InvalidRows" IR) (gF : Glo P w K mg base "is_fractions" 3 ["value"] (spFsB K C)) (mL : mg "len" = none) : FnOk P w K mg base (L2.CX P w) 4 f fd ["value", "many"] (spCfX K C IR) := by
  refine F.okX scCfs (fun vs H Q E h => ?_) (fun cdv A outer s H vs Q E hr h => ?_)
  · obtain ⟨v, z, m, rfl, _⟩ := h
    rfl
  · obtain ⟨v, z, m, rfl, hv, ne, q⟩ := h
    refine ⟨_, (pss_one (ps_if (PW.pt (pw_or (pt_not (pt_val (pe_call gF.G hr (by rfl) gF.m gF.k gF.b .nil pass0 (pa_cons (pv 0) pa_nil)))) (pw_or1 (pt_cmpR op_ne (pe_callB call_len_seq (by rfl) mL PySem.boot_len (pa_cons (pv 0) pa_nil)) (pv 1) (nomark _))))) (pss_one (ps_raise rfl (takes_of rfl rfl rfl rfl) (pmk_own PySem.F.excBase_ValueError T.x T.g T.k (raises_own T.b T.t) (by exact rfl)))) pss_nil)), ?_⟩
    refine ⟨_, rfl, v, z.1, rfl, hv.1, fun H' s' => ⟨_, rfl, ?_⟩⟩
    cases hz : z.1 with
    | false => exact iteT (iteT (q H' s'))
    | true =>
      obtain ⟨a, ys, rfl, ha, l⟩ := hv.2 hz
      refine iteF ⟨_, rfl, a, ys, rfl, .inr (SqT.of (s' _ _ ha)), _, rfl, rfl, _, rfl, ?_⟩
      have e : (!decide (V.int (ys.length : Nat) = V.int (m : Nat))) = true := by rw [int_dec, decide_eq_false (by rw [l]; exact ne hz)]; rfl
      rw [e]
      exact iteT (q H' s')
def spCtX (K : PySem.W.Frag) (C IR : Addr) : Sp := fun vs H Q E => ∃ v u, vs = [v, u] ∧ CtX K C H v u (fun m _ => m) ∧ Rse IR H E
abbrev spCrB (K : PySem.W.Frag) (C IR : Addr) : Sp := fun vs H Q E => spCrs C vs H Q E ∨ spCrX K C IR vs H Q E
theorem ok_ctX {f : Addr} {fd : FuncData} (F : Fun K "_check_rows_and_totals" "_check_rows_and_totals" sCt f fd) (gR : GloX P w K mg base "_check_rows" 5 ["rows"] (spCrB K C IR)) (gF : GloX P w K mg base "_check_fractions" 4 ["value", "many"] (spCfX K C IR)) (mL : mg "len" = none) : FnOk P w K mg base (L2.CX P w) 6 f fd ["rows", "totals"] (spCtX K C IR) := by
  refine F.okX scCt (fun vs H Q E h => ?_) (fun cdv A outer s H vs Q E hr h => ?_)
  · obtain ⟨v, u, rfl, _⟩ := h
    rfl
  · obtain ⟨v, u, rfl, hv, q⟩ := h
    refine ⟨_, (pss_cons (ps_expr (pe_call gR.G hr (by rfl) gR.m gR.k gR.b .nil (passes_call (takes_of rfl rfl rfl rfl) fun _ _ _ _ h => h) (pa_cons (pv 0) pa_nil)))
      (pss_one (ps_expr (pe_call gF.G (hr.mono (by decide)) (by rfl) gF.m gF.k gF.b .nil (passes_call (takes_of rfl rfl rfl rfl) fun _ _ _ _ h => h) (pa_cons (pv 1) (pa_cons (pe_callB call_len_seq (by rfl) mL PySem.boot_len (pa_cons (pv 0) pa_nil)) pa_nil)))))), ?_⟩
    rcases hv with hv | ⟨a, pss, n, z, rfl, tm, R, rw_, ne⟩
    · exact ⟨_, rfl, .inr ⟨v, rfl, hv, q⟩⟩
    · refine ⟨_, rfl, .inl ⟨a, pss, n, rfl, tm, R, fun H1 s1 => ?_⟩⟩
      obtain ⟨vs, ha, hv⟩ := tm.same s1
      exact ⟨_, rfl, _, rfl, a, vs, rfl, .inr (SqT.of ha), u, z, pss.length, by rw [hv.1]; rfl, rw_.same s1, ne, q.to s1⟩
abbrev spSqX (K : PySem.W.Frag) (C IR IO : Addr) : Sp := fun vs H Q E => ∃ v, vs = [v] ∧ ((RsX K C H v ∧ Rse IR H E) ∨ (SqX C H v ∧ Rse IO H E))
theorem ok_sqX {f : Addr} {fd : FuncData} (F : Fun K "_check_square" "_check_square" sSq f fd) (T : ExcC K mg "InvalidOperation" IO) (gCr : GloX P w K mg base "_check_rows" 5 ["rows"] (spCrB K C IR)) (gBl : Glo P w K mg base "_is_below_somewhere" 5 ["fractions"] (spBl C)) (mAny : mg "any" = none) (mL : mg "len" = none) : FnOk P w K mg base (L2.CX P w) 6 f fd ["rows"] (spSqX K C IR IO) := by
  refine F.okX scSq (fun vs H Q E h => ?_) (fun cdv A outer s H vs Q E hr h => ?_)
  · obtain ⟨v, rfl, _⟩ := h
    rfl
  · obtain ⟨v, rfl, h⟩ := h
    refine ⟨_, (pss_cons (ps_expr (pe_call gCr.G (hr.mono (by decide)) (by rfl) gCr.m gCr.k gCr.b .nil (passes_call (takes_of rfl rfl rfl rfl) fun _ _ _ _ h => h) (pa_cons (pv 0) pa_nil)))
      (pss_cons (ps_if (pt_cmpR op_ne (pe_callB call_len_seq (by rfl) mL PySem.boot_len (pa_cons (pv 0) pa_nil)) (pe_callB call_len_seq (by rfl) mL PySem.boot_len (pa_cons (pe_ix ix_tup (pv 0) pe_int (fun _ _ => rfl)) pa_nil)) (nomark _)) (pss_one (ps_raise rfl (takes_of rfl rfl rfl rfl) (pmk_own PySem.F.excBase_ValueError T.x T.g T.k (raises_own T.b T.t) (by exact rfl)))) pss_nil)
      (pss_one (ps_if (pt_val (pe_callB (cr_any rfl) (by rfl) mAny (by decide +kernel) (pa_cons (pe_lc (own := [("row", 1)]) (g := (gName 1)) (tt := tYes) rfl scSq.nd (pi_tup (pv 0)) (blkOk_by (N := NSq) (sc := (defScope sSq)) (by decide +kernel)) (fun _ _ _ _ _ => (pg_name (i := 1) scSq.nd rfl (.inl rfl))) (fun _ _ _ _ _ => pts_nil) (fun _ _ _ _ _ => (pe_call gBl.G (hr.mono (by decide)) (by rfl) gBl.m gBl.k gBl.b .nil pass0 (pa_cons (pv 1) pa_nil)))) pa_nil))) (pss_one (ps_raise rfl (takes_of rfl rfl rfl rfl) (pmk_own PySem.F.excBase_ValueError T.x T.g T.k (raises_own T.b T.t) (by exact rfl)))) pss_nil)))), ?_⟩
    rcases h with ⟨hv, q⟩ | ⟨⟨a, pss, n, rfl, tm, R, bad⟩, q⟩
    · exact ⟨_, rfl, .inr ⟨v, rfl, hv, q⟩⟩
    refine ⟨_, rfl, .inl ⟨a, pss, n, rfl, tm, R, fun H1 s1 => ?_⟩⟩
    obtain ⟨vs, ha, hv⟩ := tm.same s1
    have vl : vs.length = pss.length := hv.1
    have few := R.few
    obtain ⟨v0, h0⟩ : ∃ v0, vs[0]? = some v0 := ⟨_, List.getElem?_eq_getElem (by have := R.ne; omega)⟩
    obtain ⟨p0, hp0, q0, rfl, tf0⟩ := hv.2 0 v0 h0
    obtain ⟨xs0, hx0, hf0⟩ := id tf0.at_
    have l0 : xs0.length = n := by rw [hf0.1]; exact R.len p0 (List.mem_of_getElem? hp0)
    refine ⟨_, rfl, a, vs, rfl, .inr (SqT.of ha), _, rfl, a, _, 0, _, rfl, rfl, SqT.of ha, atI_nat (j := 0) h0, q0, xs0, rfl, .inr (SqT.of hx0), rfl, _, rfl, ?_⟩
    rw [vl, l0, int_dec]
    by_cases hn : pss.length = n
    · rw [decide_eq_true hn]
      have neg := bad.resolve_left fun z => z hn
      refine iteF ?_
      refine ⟨_, rfl, a, rfl, ⟨_, SqT.of ha⟩, fun D hD => ?_⟩
      refine lt_g (cs := pss.map negB) gr_bl (by omega) (by rw [List.length_map, vl]) hD (SqT.of ha) (fun _ => rfl) ?_ ?_
      · intro i v c H2 Q2 hvi hc s2 _ q2
        obtain ⟨ps, hps, q1, rfl, tf⟩ := hv.2 i v hvi
        rw [List.getElem?_map, hps] at hc
        cases hc
        have tv : TV C H1 q1 ps := tf.at_
        exact ⟨_, rfl, q1, ps, rfl, tv.same s2, by have := tf.few; omega, fun H3 s3 => q2 _ _ s3 rfl⟩
      · intro H2 us s2 hD2 hag
        have e := ag_bls hag
        subst e
        refine ⟨D, _, rfl, SqL.of hD2, _, rfl, ?_⟩
        have e : (pss.map negB).any id = negR pss := by unfold negR; rw [List.any_map]; rfl
        rw [e, neg]
        exact iteT (q H2 (s1.trans s2))
    · rw [decide_eq_false hn]
      exact iteT (q H1 s1)
/-! ### what raises by them -/
abbrev sTof : Stmt := top 27
theorem scTof : FnScope ["rows", "column"] ["rows", "column"] (defScope sTof) := ⟨rfl, rfl, rfl, by decide +kernel, rfl, by decide +kernel, by decide +kernel⟩
abbrev sMof : Stmt := top 28
theorem scMof : FnScope ["rows", "factors"] ["rows", "factors"] (defScope sMof) := ⟨rfl, rfl, rfl, by decide +kernel, rfl, by decide +kernel, by decide +kernel⟩
abbrev sCle : Stmt := top 29
abbrev NCle : List Str := ["rows", "echelon", "row", "rest", "place", "by_place"]
theorem scCle : FnScope NCle ["rows"] (defScope sCle) := ⟨rfl, rfl, rfl, by decide +kernel, rfl, by decide +kernel, by decide +kernel⟩
abbrev sIs : Stmt := top 33
abbrev NIs : List Str := ["rows", "totals", "value", "mix", "one"]
theorem scIs : FnScope NIs ["rows", "totals", "value"] (defScope sIs) := ⟨rfl, rfl, rfl, by decide +kernel, rfl, by decide +kernel, by decide +kernel⟩
abbrev sFi : Stmt := top 34
abbrev NFi : List Str := ["rows", "totals"]
theorem scFi : FnScope NFi ["rows", "totals"] (defScope sFi) := ⟨rfl, rfl, rfl, by decide +kernel, rfl, by decide +kernel, by decide +kernel⟩
abbrev sIf : Stmt := top 36
abbrev NIf : List Str := ["rows", "totals", "value", "mix"]
theorem scIf : FnScope NIf ["rows", "totals", "value"] (defScope sIf) := ⟨rfl, rfl, rfl, by decide +kernel, rfl, by decide +kernel, by decide +kernel⟩
abbrev sIg : Stmt := top 38
abbrev NIg : List Str := ["rows", "value", "width", "column", "one"]
theorem scIg : FnScope NIg ["rows", "value"] (defScope sIg) := ⟨rfl, rfl, rfl, by decide +kernel, rfl, by decide +kernel, by decide +kernel⟩
abbrev spTofX (K : PySem.W.Frag) (C IR : Addr) : Sp := fun vs H Q E => ∃ v u, vs = [v, u] ∧ CtX K C H v u (fun _ n => n) ∧ Rse IR H E
theorem ok_tofX {f : Addr} {fd : FuncData} (F : Fun K "times_of" "times_of" sTof f fd) (gR : GloX P w K mg base "_check_rows" 5 ["rows"] (spCrB K C IR)) (gF : GloX P w K mg base "_check_fractions" 4 ["value", "many"] (spCfX K C IR)) (mL : mg "len" = none) : FnOk P w K mg base (L2.CX P w) 7 f fd ["rows", "column"] (spTofX K C IR) := by
  refine F.okX scTof (fun vs H Q E h => ?_) (fun cdv A outer s H vs Q E hr h => ?_)
  · obtain ⟨v, u, rfl, _⟩ := h
    rfl
  · obtain ⟨v, u, rfl, hv, q⟩ := h
    refine ⟨_, (pss_cons (ps_expr (pe_call gR.G (hr.mono (by decide)) (by rfl) gR.m gR.k gR.b .nil (passes_call (takes_of rfl rfl rfl rfl) fun _ _ _ _ h => h) (pa_cons (pv 0) pa_nil)))
      (pss_cons (ps_expr (pe_call gF.G (hr.mono (by decide)) (by rfl) gF.m gF.k gF.b .nil (passes_call (takes_of rfl rfl rfl rfl) fun _ _ _ _ h => h) (pa_cons (pv 1) (pa_cons (pe_callB call_len_seq (by rfl) mL PySem.boot_len (pa_cons (pe_ix ix_tup (pv 0) pe_int (fun _ _ => rfl)) pa_nil)) pa_nil)))) pss_never)), ?_⟩
    rcases hv with hv | ⟨a, pss, n, z, rfl, tm, R, rw_, ne⟩
    · exact ⟨_, rfl, .inr ⟨v, rfl, hv, q⟩⟩
    · refine ⟨_, rfl, .inl ⟨a, pss, n, rfl, tm, R, fun H1 s1 => ?_⟩⟩
      obtain ⟨vs, ha, hv⟩ := tm.same s1
      obtain ⟨v0, h0⟩ : ∃ v0, vs[0]? = some v0 := ⟨_, List.getElem?_eq_getElem (by rw [hv.1]; exact R.ne)⟩
      obtain ⟨p0, hp0, q0, rfl, tf0⟩ := hv.2 0 v0 h0
      obtain ⟨xs0, hx0, hf0⟩ := id tf0.at_
      have l0 : xs0.length = n := by rw [hf0.1]; exact R.len p0 (List.mem_of_getElem? hp0)
      exact ⟨_, rfl, _, rfl, a, _, 0, _, rfl, rfl, SqT.of ha, atI_nat (j := 0) h0, q0, xs0, rfl, .inr (SqT.of hx0), u, z, n, by rw [l0]; rfl, rw_.same s1, ne, q.to s1⟩
abbrev spMofX (K : PySem.W.Frag) (C IR : Addr) : Sp := fun vs H Q E => ∃ v u, vs = [v, u] ∧ CtX K C H v u (fun m _ => m) ∧ Rse IR H E
theorem ok_mofX {f : Addr} {fd : FuncData} (F : Fun K "mix_of" "mix_of" sMof f fd) (gR : GloX P w K mg base "_check_rows" 5 ["rows"] (spCrB K C IR)) (gF : GloX P w K mg base "_check_fractions" 4 ["value", "many"] (spCfX K C IR)) (mL : mg "len" = none) : FnOk P w K mg base (L2.CX P w) 7 f fd ["rows", "factors"] (spMofX K C IR) := by
  refine F.okX scMof (fun vs H Q E h => ?_) (fun cdv A outer s H vs Q E hr h => ?_)
  · obtain ⟨v, u, rfl, _⟩ := h
    rfl
  · obtain ⟨v, u, rfl, hv, q⟩ := h
    refine ⟨_, (pss_cons (ps_expr (pe_call gR.G (hr.mono (by decide)) (by rfl) gR.m gR.k gR.b .nil (passes_call (takes_of rfl rfl rfl rfl) fun _ _ _ _ h => h) (pa_cons (pv 0) pa_nil)))
      (pss_cons (ps_expr (pe_call gF.G (hr.mono (by decide)) (by rfl) gF.m gF.k gF.b .nil (passes_call (takes_of rfl rfl rfl rfl) fun _ _ _ _ h => h) (pa_cons (pv 1) (pa_cons (pe_callB call_len_seq (by rfl) mL PySem.boot_len (pa_cons (pv 0) pa_nil)) pa_nil)))) pss_never)), ?_⟩
    rcases hv with hv | ⟨a, pss, n, z, rfl, tm, R, rw_, ne⟩
    · exact ⟨_, rfl, .inr ⟨v, rfl, hv, q⟩⟩
    · refine ⟨_, rfl, .inl ⟨a, pss, n, rfl, tm, R, fun H1 s1 => ?_⟩⟩
      obtain ⟨vs, ha, hv⟩ := tm.same s1
      exact ⟨_, rfl, _, rfl, a, vs, rfl, .inr (SqT.of ha), u, z, pss.length, by rw [hv.1]; rfl, rw_.same s1, ne, q.to s1⟩
theorem ok_cleX {f : Addr} {fd : FuncData} (F : Fun K "cleared" "cleared" sCle f fd) (gR : GloX P w K mg base "_check_rows" 5 ["rows"] (spCrB K C IR)) : FnOk P w K mg base (L2.CX P w) 7 f fd ["rows"] (spCrX K C IR) := by
  refine F.okX scCle (fun vs H Q E h => ?_) (fun cdv A outer s H vs Q E hr h => ?_)
  · obtain ⟨v, rfl, _⟩ := h
    rfl
  · refine ⟨_, (pss_cons (ps_expr (pe_call gR.G (hr.mono (by decide)) (by rfl) gR.m gR.k gR.b .nil (passes_call (takes_of rfl rfl rfl rfl) fun _ _ _ _ h => h) (pa_cons (pv 0) pa_nil))) pss_never), ?_⟩
    obtain ⟨v, rfl, hv, q⟩ := h
    exact ⟨_, rfl, .inr ⟨v, rfl, hv, q⟩⟩
abbrev spCt3 (K : PySem.W.Frag) (C IR : Addr) : Sp := fun vs H Q E => ∃ v u z, vs = [v, u, z] ∧ CtX K C H v u (fun m _ => m) ∧ Rse IR H E
abbrev spSq2 (K : PySem.W.Frag) (C IR IO : Addr) : Sp := fun vs H Q E => ∃ v z, vs = [v, z] ∧ ((RsX K C H v ∧ Rse IR H E) ∨ (SqX C H v ∧ Rse IO H E))
theorem ok_soX {f : Addr} {fd : FuncData} (F : Fun K "solution" "solution" sSo f fd) (gC : GloX P w K mg base "_check_rows_and_totals" 6 ["rows", "totals"] (spCtX K C IR)) : FnOk P w K mg base (L2.CX P w) 7 f fd ["rows", "totals"] (spCtX K C IR) := by
  refine F.okX scSo (fun vs H Q E h => ?_) (fun cdv A outer s H vs Q E hr h => ?_)
  · obtain ⟨v, u, rfl, _⟩ := h
    rfl
  · obtain ⟨v, u, rfl, hv⟩ := h
    refine ⟨_, (pss_cons (ps_expr (pe_call gC.G (hr.mono (by decide)) (by rfl) gC.m gC.k gC.b .nil (passes_call (takes_of rfl rfl rfl rfl) fun _ _ _ _ h => h) (pa_cons (pv 0) (pa_cons (pv 1) pa_nil)))) pss_never), ?_⟩
    exact ⟨_, rfl, _, rfl, v, u, rfl, hv⟩
theorem ok_fiX {f : Addr} {fd : FuncData} (F : Fun K "fit" "fit" sFi f fd) (gC : GloX P w K mg base "_check_rows_and_totals" 6 ["rows", "totals"] (spCtX K C IR)) : FnOk P w K mg base (L2.CX P w) 7 f fd ["rows", "totals"] (spCtX K C IR) := by
  refine F.okX scFi (fun vs H Q E h => ?_) (fun cdv A outer s H vs Q E hr h => ?_)
  · obtain ⟨v, u, rfl, _⟩ := h
    rfl
  · obtain ⟨v, u, rfl, hv⟩ := h
    refine ⟨_, (pss_cons (ps_expr (pe_call gC.G (hr.mono (by decide)) (by rfl) gC.m gC.k gC.b .nil (passes_call (takes_of rfl rfl rfl rfl) fun _ _ _ _ h => h) (pa_cons (pv 0) (pa_cons (pv 1) pa_nil)))) pss_never), ?_⟩
    exact ⟨_, rfl, _, rfl, v, u, rfl, hv⟩
theorem ok_isX {f : Addr} {fd : FuncData} (F : Fun K "is_solution" "is_solution" sIs f fd) (gC : GloX P w K mg base "_check_rows_and_totals" 6 ["rows", "totals"] (spCtX K C IR)) : FnOk P w K mg base (L2.CX P w) 8 f fd ["rows", "totals", "value"] (spCt3 K C IR) := by
  refine F.okX scIs (fun vs H Q E h => ?_) (fun cdv A outer s H vs Q E hr h => ?_)
  · obtain ⟨v, u, z, rfl, _⟩ := h
    rfl
  · obtain ⟨v, u, z, rfl, hv⟩ := h
    refine ⟨_, (pss_cons (ps_expr (pe_call gC.G (hr.mono (by decide)) (by rfl) gC.m gC.k gC.b .nil (passes_call (takes_of rfl rfl rfl rfl) fun _ _ _ _ h => h) (pa_cons (pv 0) (pa_cons (pv 1) pa_nil)))) pss_never), ?_⟩
    exact ⟨_, rfl, _, rfl, v, u, rfl, hv⟩
theorem ok_ifX {f : Addr} {fd : FuncData} (F : Fun K "is_fit" "is_fit" sIf f fd) (gC : GloX P w K mg base "_check_rows_and_totals" 6 ["rows", "totals"] (spCtX K C IR)) : FnOk P w K mg base (L2.CX P w) 8 f fd ["rows", "totals", "value"] (spCt3 K C IR) := by
  refine F.okX scIf (fun vs H Q E h => ?_) (fun cdv A outer s H vs Q E hr h => ?_)
  · obtain ⟨v, u, z, rfl, _⟩ := h
    rfl
  · obtain ⟨v, u, z, rfl, hv⟩ := h
    refine ⟨_, (pss_cons (ps_expr (pe_call gC.G (hr.mono (by decide)) (by rfl) gC.m gC.k gC.b .nil (passes_call (takes_of rfl rfl rfl rfl) fun _ _ _ _ h => h) (pa_cons (pv 0) (pa_cons (pv 1) pa_nil)))) pss_never), ?_⟩
    exact ⟨_, rfl, _, rfl, v, u, rfl, hv⟩
theorem ok_flX {f : Addr} {fd : FuncData} (F : Fun K "falling" "falling" sFl f fd) (gC : GloX P w K mg base "_check_square" 6 ["rows"] (spSqX K C IR IO)) : FnOk P w K mg base (L2.CX P w) 7 f fd ["rows"] (spSqX K C IR IO) := by
  refine F.okX scFl (fun vs H Q E h => ?_) (fun cdv A outer s H vs Q E hr h => ?_)
  · obtain ⟨v, rfl, _⟩ := h
    rfl
  · obtain ⟨v, rfl, hv⟩ := h
    refine ⟨_, (pss_cons (ps_expr (pe_call gC.G (hr.mono (by decide)) (by rfl) gC.m gC.k gC.b .nil (passes_call (takes_of rfl rfl rfl rfl) fun _ _ _ _ h => h) (pa_cons (pv 0) pa_nil))) pss_never), ?_⟩
    exact ⟨_, rfl, v, rfl, hv⟩
theorem ok_igX {f : Addr} {fd : FuncData} (F : Fun K "is_falling" "is_falling" sIg f fd) (gC : GloX P w K mg base "_check_square" 6 ["rows"] (spSqX K C IR IO)) : FnOk P w K mg base (L2.CX P w) 8 f fd ["rows", "value"] (spSq2 K C IR IO) := by
  refine F.okX scIg (fun vs H Q E h => ?_) (fun cdv A outer s H vs Q E hr h => ?_)
  · obtain ⟨v, z, rfl, _⟩ := h
    rfl
  · obtain ⟨v, z, rfl, hv⟩ := h
    refine ⟨_, (pss_cons (ps_expr (pe_call gC.G (hr.mono (by decide)) (by rfl) gC.m gC.k gC.b .nil (passes_call (takes_of rfl rfl rfl rfl) fun _ _ _ _ h => h) (pa_cons (pv 0) pa_nil))) pss_never), ?_⟩
    exact ⟨_, rfl, v, rfl, hv⟩
end
end FR
set_option Elab.async false
set_option linter.all false
set_option maxRecDepth 100000
set_option maxHeartbeats 4000000
/-! what returns -/
namespace FR
open PySem PySem.Spec PyProof.Rows L2 LD RF CN LK LamX NdefX RZ
def wdS : Str := "solution"
def wdN : Str := "none"
theorem prsB_of {C : Addr} {H : Hp} {xs ys : List V} {ps qs : List PI} (h : FRs C H xs ps) (g : FVs C H ys qs) (l : ps.length = qs.length) : PrsB (DFrB C) xs ys (List.zipWith (fun p q => decide (p = q)) ps qs) H := by
  refine ⟨by rw [h.1, g.1, l], by rw [List.length_zipWith, h.1, l, Nat.min_self], fun i x y b hx hy hb => ?_⟩
  obtain ⟨p, hp, fx⟩ := h.2 i x hx
  obtain ⟨q, hq, fy⟩ := g.2 i y hy
  rw [List.getElem?_zipWith, hp, hq] at hb
  exact ⟨p, q, fx, fy, (Option.some.inj hb).symm⟩
theorem ftIn {K : PySem.W.Frag} {C : Addr} {H : Hp} {a c : Addr} {pss : List (List PI)} {ts : List PI} (tm : TMx C H a pss) (tt : Tf C H c ts) : ∃ us ws, FtIn K C H a c pss ts us ws := by
  obtain ⟨vs, ha, hv⟩ := tm
  obtain ⟨ws, hc, hw⟩ := tt.at_
  refine ⟨vs, ws, .inr ⟨SqT.of ha, SqT.of hc⟩, hv.imp fun _ _ ⟨q, e, t⟩ => ?_, hw⟩
  obtain ⟨xs, h, f⟩ := t.at_
  exact ⟨q, xs, e, .inl (SqT.of h), f⟩
/-- the program's own judgement -/
theorem frs_fvs {C : Addr} {H : Hp} {xs : List V} {ps : List PI} (h : FRs C H xs ps) : FVs C H xs ps := h.imp fun _ _ ⟨q, e, f⟩ => .inl ⟨q, e, f⟩
theorem turn_mem {pss : List (List PI)} {n : Nat} (R : Rs pss n) {ps : List PI} (h : ps ∈ turnP pss n) : ps.length = pss.length := by
  unfold turnP at h
  obtain ⟨j, hj, rfl⟩ := List.mem_map.mp h
  rw [List.length_map]
theorem ToldR.same {K : PySem.W.Frag} {C : Addr} {H H' : Hp} {v : V} {z : Str} {m : Nat} {r : Bool} (h : ToldR K C H v z m r) (s : Same H H') : ToldR K C H' v z m r := exn_toldR (ExtN.of s) h
theorem told_yes {K : PySem.W.Frag} {C : Addr} {H : Hp} {va b : Addr} {z : Str} {ps : List PI} (h : H va = some (.tup [.str z, .ref b])) (t : Tf C H b ps) : ToldR K C H (.ref va) z ps.length true := by
  obtain ⟨⟨ys, hb, hf⟩, few, _, _⟩ := t
  exact .inr (.inr (.inr (.inr (.inr ⟨va, b, ys, rfl, h, hb, nums_fv hb hf (by rw [hf.1]; omega), by rw [hf.1, decide_eq_true rfl]⟩))))
section
variable {P : Program} {w : World} {K : PySem.W.Frag} {mg : Str → Option Value} {base : Heap} {C fI pT gT pB gB : Addr} {fdI fdT fdB : FuncData}
def spTof (C : Addr) : Sp := fun vs H Q _ => ∃ (a c : Addr) (pss : List (List PI)) (cs : List PI), vs = [.ref a, .ref c] ∧ TMx C H a pss ∧ Rs pss cs.length ∧ Tf C H c cs ∧ ∀ t H', TFr C H' t (timesP pss cs) → Same H H' → Q (.ref t) H'
theorem ok_tof {f : Addr} {fd : FuncData} (F : Fun K "times_of" "times_of" sTof f fd) (gR : Glo P w K mg base "_check_rows" 5 ["rows"] (spCrs C)) (gF : Glo P w K mg base "_check_fractions" 4 ["value", "many"] (spCfs C)) (gT' : Glo P w K mg base "_times" 6 ["rows", "column"] (spTms C)) (mL : mg "len" = none) : FnOk P w K mg base CX0 7 f fd ["rows", "column"] (spTof C) := by
  refine F.ok scTof (fun vs H Q E h => ?_) (fun cdv A outer s H vs Q E hr h => ?_)
  · obtain ⟨a, c, pss, cs, rfl, _⟩ := h
    rfl
  · obtain ⟨a, c, pss, cs, rfl, tm, R, tc, q⟩ := h
    refine ⟨_, (pss_cons (ps_expr (pe_call gR.G (hr.mono (by decide)) (by rfl) gR.m gR.k gR.b .nil pass0 (pa_cons (pv 0) pa_nil)))
      (pss_cons (ps_expr (pe_call gF.G (hr.mono (by decide)) (by rfl) gF.m gF.k gF.b .nil pass0 (pa_cons (pv 1) (pa_cons (pe_callB call_len_seq (by rfl) mL PySem.boot_len (pa_cons (pe_ix ix_tup (pv 0) pe_int (fun _ _ => rfl)) pa_nil)) pa_nil))))
      (pss_one (ps_ret (pe_call gT'.G hr (by rfl) gT'.m gT'.k gT'.b .nil pass0 (pa_cons (pv 0) (pa_cons (pv 1) pa_nil))))))), ?_⟩
    refine ⟨_, rfl, a, pss, _, rfl, tm, R, fun H1 s1 => ?_⟩
    obtain ⟨vs, ha, hv⟩ := tm.same s1
    match pss, vs, hv, R, ha, tm, q with
    | [], _, _, R, _, _, _ => exact absurd R.ne (by decide)
    | p0 :: pr, [], hv, _, _, _, _ => exact absurd hv.1 (by simp)
    | p0 :: pr, v0 :: vr, hv, R, ha, tm, q =>
    obtain ⟨z0, hz0, q0, rfl, tf0⟩ := hv.2 0 v0 rfl
    cases hz0
    obtain ⟨xs0, hx0, hf0⟩ := tf0.at_
    have l0 : xs0.length = cs.length := by rw [hf0.1]; exact R.len p0 List.mem_cons_self
    refine ⟨_, rfl, _, rfl, a, _, 0, _, rfl, rfl, SqT.of ha, atI_nat (j := 0) rfl, ?_⟩
    refine ⟨q0, xs0, rfl, .inr (SqT.of hx0), c, cs, by rw [l0]; rfl, tc.same s1, fun H2 s2 => ?_⟩
    have s12 := s1.trans s2
    refine ⟨_, rfl, _, rfl, a, c, _, cs, rfl, tm.same s12, tc.same s12, R.few, R.len, fun t H' ht s3 => q t H' ht (s12.trans s3)⟩
def spMof (C : Addr) : Sp := fun vs H Q _ => ∃ (a c : Addr) (pss : List (List PI)) (n : Nat) (cs : List PI), vs = [.ref a, .ref c] ∧ TMx C H a pss ∧ Rs pss n ∧ Sm pss ∧ Tf C H c cs ∧ cs.length = pss.length ∧ ∀ t H', TFr C H' t (timesP (turnP pss n) cs) → Same H H' → Q (.ref t) H'
theorem ok_mof {f : Addr} {fd : FuncData} (F : Fun K "mix_of" "mix_of" sMof f fd) (gR : Glo P w K mg base "_check_rows" 5 ["rows"] (spCrs C)) (gF : Glo P w K mg base "_check_fractions" 4 ["value", "many"] (spCfs C)) (gT' : Glo P w K mg base "_times" 6 ["rows", "column"] (spTms C)) (gU : Glo P w K mg base "_turned" 1 ["rows"] (spTrn C)) (mL : mg "len" = none) :
    FnOk P w K mg base CX0 7 f fd ["rows", "factors"] (spMof C) := by
  refine F.ok scMof (fun vs H Q E h => ?_) (fun cdv A outer s H vs Q E hr h => ?_)
  · obtain ⟨a, c, pss, n, cs, rfl, _⟩ := h
    rfl
  · obtain ⟨a, c, pss, n, cs, rfl, tm, R, Z, tc, ln, q⟩ := h
    refine ⟨_, (pss_cons (ps_expr (pe_call gR.G (hr.mono (by decide)) (by rfl) gR.m gR.k gR.b .nil pass0 (pa_cons (pv 0) pa_nil)))
      (pss_cons (ps_expr (pe_call gF.G (hr.mono (by decide)) (by rfl) gF.m gF.k gF.b .nil pass0 (pa_cons (pv 1) (pa_cons (pe_callB call_len_seq (by rfl) mL PySem.boot_len (pa_cons (pv 0) pa_nil)) pa_nil))))
      (pss_one (ps_ret (pe_call gT'.G hr (by rfl) gT'.m gT'.k gT'.b .nil pass0 (pa_cons (pe_call gU.G (hr.mono (by decide)) (by rfl) gU.m gU.k gU.b .nil pass0 (pa_cons (pv 0) pa_nil)) (pa_cons (pv 1) pa_nil))))))), ?_⟩
    refine ⟨_, rfl, a, pss, _, rfl, tm, R, fun H1 s1 => ?_⟩
    obtain ⟨vs, ha, hv⟩ := tm.same s1
    refine ⟨_, rfl, _, rfl, a, vs, rfl, .inr (SqT.of ha), c, cs, by rw [hv.1, ← ln]; rfl, tc.same s1, fun H2 s2 => ?_⟩
    have s12 := s1.trans s2
    refine ⟨_, rfl, a, pss, n, rfl, tm.same s12, R, Z, fun u H3 hu s3 => ?_⟩
    have n12 := R.n12
    refine ⟨_, rfl, u, c, _, cs, rfl, hu, tc.same (s12.trans s3), by unfold turnP; rw [List.length_map, List.length_range]; omega, fun ps h => by rw [turn_mem R h, ln], fun t H' ht s4 => q t H' ht ((s12.trans s3).trans s4)⟩
def spFi (C : Addr) (Tt : List (Addr × Str)) : Sp := fun vs H Q _ => ∃ (a c : Addr) (pss : List (List PI)) (ts : List PI) (n m N : Nat) (res : Res), vs = [.ref a, .ref c] ∧ TMx C H a pss ∧ Rs pss n ∧ Tf C H c ts ∧ FtOk pss ts n m ∧ Tabs Tt H ∧ runC (linesF pss ts) n N (startC n) = some res ∧
  ∀ t H', ExtN H H' → Tabs Tt H' → SolAt C H' t (fitP pss ts res).1 (fitP pss ts res).2 → Q (.ref t) H'
theorem ok_fi {f : Addr} {Tt : List (Addr × Str)} {fd : FuncData} (F : Fun K "fit" "fit" sFi f fd) (gC : Glo P w K mg base "_check_rows_and_totals" 6 ["rows", "totals"] (spCt C)) (gFt : Glo P w K mg base "_fit" 6 ["rows", "totals"] (spFt K C Tt)) : FnOk P w K mg base CX0 7 f fd ["rows", "totals"] (spFi C Tt) := by
  refine F.ok scFi (fun vs H Q E h => ?_) (fun cdv A outer s H vs Q E hr h => ?_)
  · obtain ⟨a, c, pss, ts, n, m, N, res, rfl, _⟩ := h
    rfl
  · obtain ⟨a, c, pss, ts, n, m, N, res, rfl, tm, R, tt, ok, tb, run, q⟩ := h
    refine ⟨_, (pss_cons (ps_expr (pe_call gC.G (hr.mono (by decide)) (by rfl) gC.m gC.k gC.b .nil pass0 (pa_cons (pv 0) (pa_cons (pv 1) pa_nil))))
      (pss_one (ps_ret (pe_call gFt.G (hr.mono (by decide)) (by rfl) gFt.m gFt.k gFt.b .nil pass0 (pa_cons (pv 0) (pa_cons (pv 1) pa_nil)))))), ?_⟩
    refine ⟨_, rfl, _, rfl, a, c, pss, n, ts, rfl, tm, R, tt, ok.len, fun H1 s1 => ?_⟩
    obtain ⟨us, ws, hin⟩ := ftIn (K := K) (tm.same s1) (tt.same s1)
    exact ⟨_, rfl, _, rfl, a, c, pss, ts, n, m, N, res, us, ws, rfl, hin, ok, tb.ext s1, run, fun t H2 ex tb2 sol => q t H2 ((ExtN.of s1).trans ex) tb2 sol⟩
def spIsN (K : PySem.W.Frag) (C : Addr) : Sp := fun vs H Q _ => ∃ (a c : Addr) (v : V) (pss : List (List PI)) (n : Nat) (ts : List PI), vs = [.ref a, .ref c, v] ∧ TMx C H a pss ∧ Rs pss n ∧ Tf C H c ts ∧ ts.length = pss.length ∧
  ((∃ va b ps, v = .ref va ∧ H va = some (.tup [.str wdS, .ref b]) ∧ Tf C H b ps ∧ ps.length = n ∧ ∀ r H', Same H H' → Q (.bl r) H') ∨ (ToldR K C H v wdS n false ∧ ToldR K C H v wdN pss.length false ∧ ∀ H', Same H H' → Q (.bl false) H'))
theorem ok_isN {f : Addr} {fd : FuncData} (F : Fun K "is_solution" "is_solution" sIs f fd) (gC : Glo P w K mg base "_check_rows_and_totals" 6 ["rows", "totals"] (spCt C)) (gT : Glo P w K mg base "_is_told" 4 ["value", "word", "many"] (spTd K C)) (gTm : Glo P w K mg base "_times" 6 ["rows", "column"] (spTms C))
    (mE : Met P w K mg base C "__eq__" 3 ["self", "other"] (FR.spEq K C)) (OD : OddsC K C) (mL : mg "len" = none) : FnOk P w K mg base CX0 8 f fd ["rows", "totals", "value"] (spIsN K C) := by
  refine F.ok scIs (fun vs H Q E h => ?_) (fun cdv A outer s H vs Q E hr h => ?_)
  · obtain ⟨a, c, v, pss, n, ts, rfl, _⟩ := h
    rfl
  · obtain ⟨a, c, v, pss, n, ts, rfl, tm, R, tt, tl_, jr⟩ := h
    have eqF : EqB ((cxOf CX0 P w K mg base NIs "is_solution" (defScope sIs) f cdv A outer s H E).nox) 3 (DFrB C) := eqB_fr (E := E) mE.D mE.G mE.b pass0 OD.int.n
    refine ⟨_, (pss_cons (ps_expr (pe_call gC.G (hr.mono (by decide)) (by rfl) gC.m gC.k gC.b .nil pass0 (pa_cons (pv 0) (pa_cons (pv 1) pa_nil))))
      (pss_cons (ps_if (pt_val (pe_call gT.G (hr.mono (by decide)) (by rfl) gT.m gT.k gT.b .nil pass0 (pa_cons (pv 2) (pa_cons pe_str (pa_cons (pe_callB call_len_seq (by rfl) mL PySem.boot_len (pa_cons (pe_ix ix_tup (pv 0) pe_int (fun _ _ => rfl)) pa_nil)) pa_nil))))) (pss_one (ps_ret (pe_cmpR (op_eqTW (mon_frb C) eqF (hr.mono (by decide))) (pe_call gTm.G (hr.mono (by decide)) (by rfl) gTm.m gTm.k gTm.b .nil pass0 (pa_cons (pv 0) (pa_cons (pe_ix ix_tup (pv 2) pe_int (fun _ _ => rfl)) pa_nil))) (pv 1) (nomark _)))) pss_nil)
      (pss_cons (ps_if (pt_not (pt_val (pe_call gT.G (hr.mono (by decide)) (by rfl) gT.m gT.k gT.b .nil pass0 (pa_cons (pv 2) (pa_cons pe_str (pa_cons (pe_callB call_len_seq (by rfl) mL PySem.boot_len (pa_cons (pv 0) pa_nil)) pa_nil)))))) (pss_one (ps_ret pe_bl)) pss_nil)
      pss_never))), ?_⟩
    refine ⟨_, rfl, _, rfl, a, c, pss, n, ts, rfl, tm, R, tt, tl_, fun H1 s1 => ?_⟩
    obtain ⟨vs, haH, hvH⟩ := id tm
    have ha := s1 _ _ haH
    have vlen : vs.length = pss.length := hvH.1
    obtain ⟨q0, xs0, hq0, hx0, l0⟩ : ∃ q0 xs0, vs[0]? = some (.ref q0) ∧ H1 q0 = some (.tup xs0) ∧ xs0.length = n := by
      obtain ⟨v0, h0⟩ : ∃ v0, vs[0]? = some v0 := ⟨_, List.getElem?_eq_getElem (by rw [hvH.1]; exact R.ne)⟩
      obtain ⟨p0, hp0, q0, rfl, tf0⟩ := hvH.2 0 v0 h0
      obtain ⟨xs0, hx0, hf0⟩ := (tf0.same s1).at_
      exact ⟨q0, xs0, h0, hx0, by rw [hf0.1]; exact R.len p0 (List.mem_of_getElem? hp0)⟩
    refine ⟨_, rfl, _, rfl, a, _, 0, _, rfl, rfl, SqT.of ha, atI_nat (j := 0) hq0, ?_⟩
    refine ⟨q0, xs0, rfl, .inr (SqT.of hx0), ?_⟩
    rw [l0]
    rcases jr with ⟨va, b, ps, rfl, hva, tfb, hl, q⟩ | ⟨no1, no2, q⟩
    · subst hl
      refine ⟨.ref va, wdS, _, true, rfl, (told_yes hva tfb).same s1, fun H2 s2 => ⟨_, rfl, iteT ?_⟩⟩
      have s12 := s1.trans s2
      refine ⟨_, rfl, _, rfl, va, _, 1, _, rfl, rfl, SqT.of (s12 _ _ hva), atI_nat (j := 1) rfl, a, b, pss, ps, rfl, tm.same s12, tfb.same s12, R.few, R.len, fun t H3 htf s3 => ?_⟩
      have s13 := s12.trans s3
      obtain ⟨xs, hx, hf⟩ := htf
      obtain ⟨ys, hy, hg⟩ := (tt.same s13).at_
      have tl2 : (timesP pss ps).length = ts.length := by unfold timesP; rw [List.length_map, tl_]
      exact ⟨_, rfl, t, c, xs, ys, _, rfl, rfl, SqT.of hx, SqT.of hy, prsB_of hf hg tl2, fun H4 s4 => q _ H4 (s13.trans s4)⟩
    · refine ⟨v, wdS, n, false, rfl, no1.same s1, fun H2 s2 => ⟨_, rfl, iteF ?_⟩⟩
      have s12 := s1.trans s2
      refine ⟨_, rfl, _, rfl, a, vs, rfl, .inr (SqT.of (s12 _ _ haH)), v, wdN, pss.length, false, by rw [vlen]; rfl, no2.same s12, fun H3 s3 => ⟨_, rfl, ?_⟩⟩
      exact iteT (q H3 (s12.trans s3))
def spIfN (K : PySem.W.Frag) (C : Addr) : Sp := fun vs H Q _ => ∃ (a c : Addr) (v : V) (pss : List (List PI)) (n : Nat) (ts : List PI), vs = [.ref a, .ref c, v] ∧ TMx C H a pss ∧ Rs pss n ∧ Tf C H c ts ∧ ts.length = pss.length ∧
  ((∃ va b ps, v = .ref va ∧ H va = some (.tup [.str wF, .ref b]) ∧ Tf C H b ps ∧ ps.length = n ∧ (∀ p ∈ ts, Sz p.1 p.2) ∧ (∀ p ∈ timesP pss ps, Sz p.1 p.2) ∧ ∀ r H', Same H H' → Q (.bl r) H') ∨ (ToldR K C H v wF n false ∧ ToldR K C H v wB pss.length false ∧ ∀ H', Same H H' → Q (.bl false) H'))
theorem ok_ifN {f : Addr} {fd : FuncData} (F : Fun K "is_fit" "is_fit" sIf f fd) (gC : Glo P w K mg base "_check_rows_and_totals" 6 ["rows", "totals"] (spCt C)) (gT : Glo P w K mg base "_is_told" 4 ["value", "word", "many"] (spTd K C)) (gTm : Glo P w K mg base "_times" 6 ["rows", "column"] (spTms C))
    (gBl : Glo P w K mg base "_is_below_somewhere" 5 ["fractions"] (spBl C)) (gEm : Glo P w K mg base "_is_everywhere_at_most" 6 ["fractions", "others"] (spEm C)) (mL : mg "len" = none) : FnOk P w K mg base CX0 8 f fd ["rows", "totals", "value"] (spIfN K C) := by
  refine F.ok scIf (fun vs H Q E h => ?_) (fun cdv A outer s H vs Q E hr h => ?_)
  · obtain ⟨a, c, v, pss, n, ts, rfl, _⟩ := h
    rfl
  · obtain ⟨a, c, v, pss, n, ts, rfl, tm, R, tt, tl_, jr⟩ := h
    refine ⟨_, (pss_cons (ps_expr (pe_call gC.G (hr.mono (by decide)) (by rfl) gC.m gC.k gC.b .nil pass0 (pa_cons (pv 0) (pa_cons (pv 1) pa_nil))))
      (pss_cons (ps_if (pt_val (pe_call gT.G (hr.mono (by decide)) (by rfl) gT.m gT.k gT.b .nil pass0 (pa_cons (pv 2) (pa_cons pe_str (pa_cons (pe_callB call_len_seq (by rfl) mL PySem.boot_len (pa_cons (pe_ix ix_tup (pv 0) pe_int (fun _ _ => rfl)) pa_nil)) pa_nil))))) (pss_one (ps_ret (pe_and (pe_not (pe_call gBl.G (hr.mono (by decide)) (by rfl) gBl.m gBl.k gBl.b .nil pass0 (pa_cons (pe_ix ix_tup (pv 2) pe_int (fun _ _ => rfl)) pa_nil))) (pe_one (pe_call gEm.G (hr.mono (by decide)) (by rfl) gEm.m gEm.k gEm.b .nil pass0 (pa_cons (pe_call gTm.G (hr.mono (by decide)) (by rfl) gTm.m gTm.k gTm.b .nil pass0 (pa_cons (pv 0) (pa_cons (pe_ix ix_tup (pv 2) pe_int (fun _ _ => rfl)) pa_nil))) (pa_cons (pv 1) pa_nil))))))) pss_nil)
      (pss_cons (ps_if (PW.pt (pw_or (pt_not (pt_val (pe_call gT.G (hr.mono (by decide)) (by rfl) gT.m gT.k gT.b .nil pass0 (pa_cons (pv 2) (pa_cons pe_str (pa_cons (pe_callB call_len_seq (by rfl) mL PySem.boot_len (pa_cons (pv 0) pa_nil)) pa_nil)))))) (pw_or1 (pt_val (pe_call gBl.G (hr.mono (by decide)) (by rfl) gBl.m gBl.k gBl.b .nil pass0 (pa_cons (pe_ix ix_tup (pv 2) pe_int (fun _ _ => rfl)) pa_nil)))))) (pss_one (ps_ret pe_bl)) pss_nil)
      pss_never))), ?_⟩
    refine ⟨_, rfl, _, rfl, a, c, pss, n, ts, rfl, tm, R, tt, tl_, fun H1 s1 => ?_⟩
    obtain ⟨vs, haH, hvH⟩ := id tm
    have ha := s1 _ _ haH
    have vlen : vs.length = pss.length := hvH.1
    obtain ⟨q0, xs0, hq0, hx0, l0⟩ : ∃ q0 xs0, vs[0]? = some (.ref q0) ∧ H1 q0 = some (.tup xs0) ∧ xs0.length = n := by
      obtain ⟨v0, h0⟩ : ∃ v0, vs[0]? = some v0 := ⟨_, List.getElem?_eq_getElem (by rw [hvH.1]; exact R.ne)⟩
      obtain ⟨p0, hp0, q0, rfl, tf0⟩ := hvH.2 0 v0 h0
      obtain ⟨xs0, hx0, hf0⟩ := (tf0.same s1).at_
      exact ⟨q0, xs0, h0, hx0, by rw [hf0.1]; exact R.len p0 (List.mem_of_getElem? hp0)⟩
    refine ⟨_, rfl, _, rfl, a, _, 0, _, rfl, rfl, SqT.of ha, atI_nat (j := 0) hq0, ?_⟩
    refine ⟨q0, xs0, rfl, .inr (SqT.of hx0), ?_⟩
    rw [l0]
    rcases jr with ⟨va, b, ps, rfl, hva, tfb, hl, zt, zs, q⟩ | ⟨no1, no2, q⟩
    · subst hl
      refine ⟨.ref va, wF, _, true, rfl, (told_yes hva tfb).same s1, fun H2 s2 => ⟨_, rfl, iteT ?_⟩⟩
      have s12 := s1.trans s2
      have tvb : TV C H b ps := tfb.at_
      refine ⟨_, rfl, va, _, 1, _, rfl, rfl, SqT.of (s12 _ _ hva), atI_nat (j := 1) rfl, b, ps, rfl, tvb.same s12, by have := tfb.few; omega, fun H3 s3 => ?_⟩
      have s13 := s12.trans s3
      refine ⟨_, rfl, _, rfl, ite2 (fun zt' => ?_) (fun zf => q _ H3 s13)⟩
      refine ⟨_, rfl, _, rfl, va, _, 1, _, rfl, rfl, SqT.of (s13 _ _ hva), atI_nat (j := 1) rfl, a, b, pss, ps, rfl, tm.same s13, tfb.same s13, R.few, R.len, fun t H4 htf s4 => ?_⟩
      have s14 := s13.trans s4
      obtain ⟨xs, hx, hf⟩ := htf
      have tlen : (timesP pss ps).length = ts.length := by unfold timesP; rw [List.length_map, tl_]
      exact ⟨_, rfl, t, c, timesP pss ps, ts, rfl, ⟨xs, hx, frs_fvs hf⟩, (tt.same s14).at_, tlen, by rw [tlen, tl_]; have := R.few; omega, zs, zt, fun H5 s5 => q _ H5 (s14.trans s5)⟩
    · refine ⟨v, wF, n, false, rfl, no1.same s1, fun H2 s2 => ⟨_, rfl, iteF ?_⟩⟩
      have s12 := s1.trans s2
      refine ⟨_, rfl, _, rfl, a, vs, rfl, .inr (SqT.of (s12 _ _ haH)), v, wB, pss.length, false, by rw [vlen]; rfl, no2.same s12, fun H3 s3 => ⟨_, rfl, ?_⟩⟩
      exact iteT (q H3 (s12.trans s3))
end
end FR
set_option Elab.async false
set_option linter.all false
set_option maxRecDepth 100000
set_option maxHeartbeats 4000000
/-! the run of solution -/
namespace FR
open RF
structure Good (w : Nat) (pss : List (List PI)) : Prop where
  w4 : w ≤ 4
  ln : ∀ ps ∈ pss, ps.length = w + 1
  cd : ∀ ps ∈ pss, Cd 20 ps
theorem pss_mem {pss : List (List PI)} {i : Nat} (h : i < pss.length) : pss.getD i [] ∈ pss := by
  rw [List.getD_eq_getElem?_getD, List.getElem?_eq_getElem h]; exact List.getElem_mem _
theorem lineP_len (ps : List PI) : (lineP ps).length = ps.length := by unfold lineP topsP; rw [List.length_map]
theorem sh_of {l : List Int} {s : Nat} (h : ∀ x ∈ l, x.natAbs < 2 ^ s) : Sh l s := fun j => by
  by_cases hj : j < l.length
  · have g := get_ent hj
    exact h _ (List.mem_of_getElem? g)
  · rw [ent_none (by omega)]
    exact Nat.pow_pos (by decide)
theorem ent_left {a b : List Int} {j : Nat} (h : j < a.length) : ent (a ++ b) j = ent a j := by
  unfold ent
  rw [List.getD_eq_getElem?_getD, List.getD_eq_getElem?_getD, List.getElem?_append_left h]
theorem ent_right {a b : List Int} (j : Nat) : ent (a ++ b) (a.length + j) = ent b j := by
  unfold ent
  rw [List.getD_eq_getElem?_getD, List.getD_eq_getElem?_getD, List.getElem?_append_right (Nat.le_add_right _ _), Nat.add_sub_cancel_left]
theorem ex_lo {w k j : Nat} {ps : List PI} (h : ps.length = w + 1) (hj : j ≤ w) : ent (exL w ps k) j = ent (lineP ps) j := by
  unfold exL
  exact ent_left (by rw [lineP_len, h]; omega)
theorem ex_hi {w k j : Nat} {ps : List PI} (h : ps.length = w + 1) (hj : j ≤ w) : ent (exL w ps k) (w + 1 + j) = if j = k then 1 else 0 := by
  unfold exL
  have e := ent_right (a := lineP ps) (b := markL k (w + 1)) j
  rw [lineP_len, h] at e
  rw [e]
  refine ent_some ?_
  unfold markL
  rw [List.getElem?_map, List.getElem?_range (by omega)]
  rfl
theorem ex_sz {w k : Nat} {ps : List PI} (h : Cd 20 ps) : Sh (exL w ps k) 20 := sh_of fun x mx => by
  unfold exL at mx
  rcases List.mem_append.mp mx with m | m
  · exact h.line x m
  · unfold markL at m
    obtain ⟨n, _, e⟩ := List.mem_map.mp m
    rw [← e]
    split <;> decide
def Lt (w : Nat) (pss : List (List PI)) (tk : TK) : List Vec := (List.range tk.length).map fun k => vec (exL w (pss.getD (tk.getD k (0, 0)).1 []) k)
theorem Lt_snoc {w : Nat} {pss : List (List PI)} {tk : TK} {z : Nat × Int} : Lt w pss (tk ++ [z]) = Lt w pss tk ++ [vec (exL w (pss.getD z.1 []) tk.length)] := by
  unfold Lt
  have e : (tk ++ [z]).length = tk.length + 1 := by rw [List.length_append]; rfl
  rw [e, List.range_succ, List.map_append]
  congr 1
  · refine List.map_congr_left fun k hk => ?_
    have hk := List.mem_range.mp hk
    have e : (tk ++ [z]).getD k (0, 0) = tk.getD k (0, 0) := by rw [List.getD_eq_getElem?_getD, List.getElem?_append_left hk, List.getD_eq_getElem?_getD]
    rw [e]
  · have e : (tk ++ [z]).getD tk.length (0, 0) = z := by rw [List.getD_eq_getElem?_getD, List.getElem?_append_right (Nat.le_refl _), Nat.sub_self]; rfl
    rw [List.map_singleton, e]
theorem place_get {w q : Nat} {rest : List Int} (h : placeE w rest = some q) : q < w ∧ (∀ j, j < q → ent rest j = 0) ∧ ent rest q ≠ 0 := by
  unfold placeE at h
  rw [List.find?_range_eq_some] at h
  obtain ⟨a, b, c⟩ := h
  refine ⟨List.mem_range.mp b, fun j hj => ?_, of_decide_eq_true a⟩
  have := c j hj
  by_cases z : ent rest j = 0
  · exact z
  · rw [decide_eq_true z] at this; cases this
theorem place_not {w : Nat} {rest : List Int} (h : placeE w rest = none) : ∀ j, j < w → ent rest j = 0 := fun j hj => by
  unfold placeE at h
  rw [List.find?_eq_none] at h
  have := h j (List.mem_range.mpr hj)
  by_cases z : ent rest j = 0
  · exact z
  · exact absurd (decide_eq_true z) this
structure RI (w i : Nat) (pss : List (List PI)) (st : SE) : Prop where
  ei : EI (2 * w + 2) st.rows st.places st.d (Lt w pss st.tk)
  pl : ∀ p ∈ st.places, p < w
  ln : st.tk.length = st.rows.length
  tk : ∀ z ∈ st.tk, z.1 < i ∧ z.2 = lcmP (pss.getD z.1 [])
  nd : (st.tk.map (·.1)).Nodup
  rep : ∀ j, j < i → ∃ v, Sp (Lt w pss st.tk) v ∧ ∀ c, c ≤ w → v c = vec (lineP (pss.getD j [])) c
  sz : ∀ r ∈ st.rows, Sh r (szk 20 st.rows.length)
  dz : st.d.natAbs < 2 ^ szk 20 st.rows.length
  few : st.rows.length ≤ w
theorem RI.start {w : Nat} {pss : List (List PI)} : RI w 0 pss ⟨[], [], 1, []⟩ :=
  ⟨EI.start, fun p h => (by cases h), rfl, fun z h => (by cases h), List.nodup_nil, fun j h => absurd h (by omega), fun r h => (by cases h), by decide, Nat.zero_le _⟩
theorem RI.rq {w i k : Nat} {pss : List (List PI)} {st : SE} (I : RI w i pss st) {ps : List PI} (hp : ps.length = w + 1) (hk : k = st.tk.length) (j : Nat) :
    RF.rest st.rows.length (fun i j => (ent (st.rows.getD i []) j : Rat) / st.d) (fun i => st.places.getD i 0) (vec (exL w ps k)) j = (ent (restE w ps st) j : Rat) / st.d := by
  subst hk
  have e := I.ei.rest (exL_len (k := st.tk.length) hp) j
  have d0 := cast_ne I.ei.d0
  unfold restE
  rw [e]
  grind
theorem RI.room {w i : Nat} {pss : List (List PI)} {st : SE} (I : RI w i pss st) {ps : List PI} (hp : ps.length = w + 1) {q : Nat} (hq : q < w) (h0 : ∀ j, j < q → ent (restE w ps st) j = 0) (h1 : ent (restE w ps st) q ≠ 0) : st.rows.length + 1 ≤ w := by
  have d0 := cast_ne I.ei.d0
  have F := I.ei.fm.take (x := vec (exL w ps st.tk.length)) (q := q) (by omega) (fun j hj => by rw [I.rq hp rfl, h0 j hj]; grind) (by
    rw [I.rq hp rfl]
    intro z
    have : (ent (restE w ps st) q : Rat) = 0 := by grind
    exact h1 (Rat.intCast_inj.mp this))
  refine pigeon w _ (newP st.rows.length (fun i => st.places.getD i 0) q) (fun m hm => ?_) fun a b ha hb e => F.inj ha hb e
  unfold newP
  split
  · next z =>
    refine I.pl _ ?_
    show st.places.getD m 0 ∈ _
    rw [List.getD_eq_getElem?_getD, List.getElem?_eq_getElem (by rw [← I.ei.ln]; exact z)]
    exact List.getElem_mem _
  · exact hq
theorem RI.take {w i : Nat} {pss : List (List PI)} {st : SE} (I : RI w i pss st) (w4 : w ≤ 4) (hp : (pss.getD i []).length = w + 1) (hc : Cd 20 (pss.getD i [])) {q : Nat} (hq : q < w) (h0 : ∀ j, j < q → ent (restE w (pss.getD i []) st) j = 0) (h1 : ent (restE w (pss.getD i []) st) q ≠ 0) :
    RI w (i + 1) pss ⟨clearedBy st.rows (restE w (pss.getD i []) st) q st.d ++ [restE w (pss.getD i []) st], st.places ++ [q], ent (restE w (pss.getD i []) st) q, st.tk ++ [(i, lcmP (pss.getD i []))]⟩ := by
  have room := I.room hp hq h0 h1
  have el := exL_len (k := st.tk.length) hp
  have es : Sh (exL w (pss.getD i []) st.tk.length) 20 := ex_sz hc
  have rz := rest_sz (m := szk 20 st.rows.length) (t := 20) el I.ei.ln (by omega) I.ei.wd I.sz I.dz es
  have rl : (restE w (pss.getD i []) st).length = 2 * w + 2 := rest_len el fun p hp => I.ei.wd _ (List.of_mem_zip (show (p.1, p.2) ∈ _ from hp)).1
  have ez := I.ei.take (by omega) el (q := q) (by omega) h0 h1
  have nl : (clearedBy st.rows (restE w (pss.getD i []) st) q st.d ++ [restE w (pss.getD i []) st]).length = st.rows.length + 1 := by rw [List.length_append]; unfold clearedBy; rw [List.length_map]; rfl
  have cz := cleared_sz (q := q) (d := st.d) I.ei.wd rl I.sz rz
  have sk : szk 20 (st.rows.length + 1) = 2 * szk 20 st.rows.length + 35 := rfl
  refine ⟨?_, fun p hp => ?_, ?_, fun z hz => ?_, ?_, fun j hj => ?_, fun r hr => ?_, ?_, ?_⟩
  · show EI _ _ _ _ (Lt w pss (st.tk ++ [(i, lcmP (pss.getD i []))]))
    rw [Lt_snoc]
    exact ez
  · rcases List.mem_append.mp hp with m | m
    · exact I.pl p m
    · rw [List.mem_singleton.mp m]; exact hq
  · show (st.tk ++ [(i, lcmP (pss.getD i []))]).length = _
    rw [nl, List.length_append, I.ln]; rfl
  · rcases List.mem_append.mp hz with m | m
    · exact ⟨by have := (I.tk z m).1; omega, (I.tk z m).2⟩
    · rw [List.mem_singleton.mp m]; exact ⟨by show i < i + 1; omega, rfl⟩
  · show ((st.tk ++ [(i, lcmP (pss.getD i []))]).map (·.1)).Nodup
    rw [List.map_append, List.nodup_append]
    refine ⟨I.nd, by simp, fun a ha b hb e => ?_⟩
    obtain ⟨z, mz, rfl⟩ := List.mem_map.mp ha
    have := (I.tk z mz).1
    have hb : b = i := by simpa using hb
    omega
  · show ∃ v, Sp (Lt w pss (st.tk ++ [(i, lcmP (pss.getD i []))])) v ∧ _
    rw [Lt_snoc]
    by_cases e : j < i
    · obtain ⟨v, s, g⟩ := I.rep j e
      exact ⟨v, s.mono fun x hx => .mem (List.mem_append_left _ hx), g⟩
    · have e : j = i := by omega
      subst e
      refine ⟨_, .mem (List.mem_append_right _ (List.mem_singleton.mpr rfl)), fun c hc => ?_⟩
      show ((ent _ c : Int) : Rat) = _
      rw [ex_lo hp hc]; rfl
  · show Sh r (szk 20 (clearedBy st.rows (restE w (pss.getD i []) st) q st.d ++ [restE w (pss.getD i []) st]).length)
    rw [nl, sk]
    intro j
    exact pow_up ((cz r hr).2 j) (by omega)
  · show _ < 2 ^ szk 20 (clearedBy st.rows (restE w (pss.getD i []) st) q st.d ++ [restE w (pss.getD i []) st]).length
    rw [nl, sk]
    exact pow_up (rz q) (by omega)
  · show (clearedBy st.rows (restE w (pss.getD i []) st) q st.d ++ [restE w (pss.getD i []) st]).length ≤ w
    rw [nl]; exact room
theorem RI.hang {w i : Nat} {pss : List (List PI)} {st : SE} (I : RI w i pss st) (hp : (pss.getD i []).length = w + 1) (h0 : ∀ j, j ≤ w → ent (restE w (pss.getD i []) st) j = 0) : RI w (i + 1) pss st := by
  refine ⟨I.ei, I.pl, I.ln, fun z hz => ⟨by have := (I.tk z hz).1; omega, (I.tk z hz).2⟩, I.nd, fun j hj => ?_, I.sz, I.dz, I.few⟩
  by_cases e : j < i
  · exact I.rep j e
  · have e : j = i := by omega
    subst e
    refine ⟨_, Sp.sum (c := fun m => vec (exL w (pss.getD j []) st.tk.length) (st.places.getD m 0)) fun m hm => I.ei.fm.spn m hm, fun c hc => ?_⟩
    have r := I.rq hp rfl c
    rw [h0 c hc] at r
    unfold RF.rest at r
    have x : vec (exL w (pss.getD j []) st.tk.length) c = vec (lineP (pss.getD j [])) c := by
      show ((ent _ c : Int) : Rat) = _
      rw [ex_lo hp hc]; rfl
    have z : ((0 : Int) : Rat) / st.d = 0 := by grind
    rw [z, x] at r
    grind
theorem marks {w : Nat} {pss : List (List PI)} {tk : TK} (hk : tk.length ≤ w + 1) (hp : ∀ z ∈ tk, (pss.getD z.1 []).length = w + 1) {v : Vec} (h : Sp (Lt w pss tk) v) : ∀ j, j ≤ w → v j = S tk.length fun k => v (w + 1 + k) * vec (lineP (pss.getD (tk.getD k (0, 0)).1 [])) j := by
  have pl : ∀ k, k < tk.length → (pss.getD (tk.getD k (0, 0)).1 []).length = w + 1 := fun k hk => hp _ (by rw [List.getD_eq_getElem?_getD, List.getElem?_eq_getElem hk]; exact List.getElem_mem _)
  induction h with
  | zero => intro j _; exact (S_zero fun k _ => by show (0 : Rat) * _ = 0; grind).symm
  | mem m =>
    intro j hj
    unfold Lt at m
    obtain ⟨k, hk', e⟩ := List.mem_map.mp m
    have hk' := List.mem_range.mp hk'
    rw [← e, S_one hk']
    · show ((ent _ j : Int) : Rat) = ((ent _ (w + 1 + k) : Int) : Rat) * _
      rw [ex_lo (pl k hk') hj, ex_hi (pl k hk') (by omega), if_pos rfl]
      show vec _ j = ((1 : Int) : Rat) * _
      grind
    · intro k2 hk2 ne
      show ((ent _ (w + 1 + k2) : Int) : Rat) * _ = 0
      rw [ex_hi (pl k hk') (by omega), if_neg ne]
      show ((0 : Int) : Rat) * _ = 0
      grind
  | add _ _ a b =>
    intro j hj
    show _ + _ = _
    rw [a j hj, b j hj, ← S_add]
    exact S_congr fun k _ => by grind
  | smul c _ a =>
    intro j hj
    show c * _ = _
    rw [a j hj, ← S_mul]
    exact S_congr fun k _ => by grind
theorem RI.bar {w i : Nat} {pss : List (List PI)} {st : SE} (I : RI w i pss st) (g : Good w pss) (hi : i < pss.length) (b : Int) : ∀ j, j ≤ w → (ent (restE w (pss.getD i []) st) j : Rat) = S (st.tk.length + 1) fun k => (ent (restE w (pss.getD i []) st) (w + 1 + k) : Rat) * vec (lineP (pss.getD ((st.tk ++ [(i, b)]).getD k (0, 0)).1 [])) j := by
  have hp := g.ln _ (pss_mem hi)
  have nl : (st.tk ++ [(i, b)]).length = st.tk.length + 1 := by rw [List.length_append]; rfl
  have d0 := cast_ne I.ei.d0
  have s : Sp (Lt w pss (st.tk ++ [(i, b)])) fun j => (ent (restE w (pss.getD i []) st) j : Rat) := by
    rw [Lt_snoc]
    have a : Sp (Lt w pss st.tk ++ [vec (exL w (pss.getD i []) st.tk.length)]) (vec (exL w (pss.getD i []) st.tk.length)) := .mem (List.mem_append_right _ (List.mem_singleton.mpr rfl))
    have c := Sp.sum (c := fun m => vec (exL w (pss.getD i []) st.tk.length) (st.places.getD m 0)) fun m hm => (I.ei.fm.spn m hm).mono fun y hy => Sp.mem (L := Lt w pss st.tk ++ [vec (exL w (pss.getD i []) st.tk.length)]) (List.mem_append_left _ hy)
    refine (Sp.smul (st.d : Rat) (a.sub 1 c)).of_eq fun j => ?_
    have r := I.rq hp rfl j
    unfold RF.rest at r
    grind
  have z := marks (w := w) (pss := pss) (tk := st.tk ++ [(i, b)]) (by rw [nl, I.ln]; have := I.few; omega) (fun z mz => by
    rcases List.mem_append.mp mz with m | m
    · exact g.ln _ (pss_mem (by have := (I.tk z m).1; omega))
    · rw [List.mem_singleton.mp m]; exact hp) s
  intro j hj
  have y := z j hj
  rw [nl] at y
  exact y
theorem run_ri {w : Nat} {pss : List (List PI)} (g : Good w pss) : ∀ i, i ≤ pss.length → (∃ s, runE w pss i = .inl s ∧ RI w i pss s) ∨
    (∃ i0 s, i0 < i ∧ RI w i0 pss s ∧ placeE w (restE w (pss.getD i0 []) s) = none ∧ ent (restE w (pss.getD i0 []) s) w ≠ 0 ∧ runE w pss i = .inr (s.tk ++ [(i0, lcmP (pss.getD i0 []))], (restE w (pss.getD i0 []) s).drop w))
  | 0, _ => .inl ⟨_, rfl, RI.start⟩
  | i + 1, h => by
    rcases run_ri g i (by omega) with ⟨s, e, I⟩ | ⟨i0, s, hi, I, a, b, c⟩
    · have m := pss_mem (i := i) (pss := pss) (by omega)
      have hp := g.ln _ m
      have hc := g.cd _ m
      cases pe : placeE w (restE w (pss.getD i []) s) with
      | some q =>
        obtain ⟨p1, p2, p3⟩ := place_get pe
        refine .inl ⟨_, ?_, I.take g.w4 hp hc p1 p2 p3⟩
        rw [runE_inl e]
        unfold stepE
        rw [pe]
      | none =>
        have p0 := place_not pe
        by_cases z : ent (restE w (pss.getD i []) s) w ≠ 0
        · refine .inr ⟨i, s, by omega, I, pe, z, ?_⟩
          rw [runE_inl e]
          unfold stepE
          rw [pe]
          show (if ent (restE w (pss.getD i []) s) w ≠ 0 then _ else _) = _
          rw [if_pos z]
        · refine .inl ⟨s, ?_, I.hang hp fun j hj => ?_⟩
          · rw [runE_inl e]
            unfold stepE
            rw [pe]
            show (if ent (restE w (pss.getD i []) s) w ≠ 0 then _ else _) = _
            rw [if_neg z]
          · by_cases y : j < w
            · exact p0 j y
            · have : j = w := by omega
              rw [this]
              exact Classical.not_not.mp z
    · exact .inr ⟨i0, s, by omega, I, a, b, by
        show (match runE w pss i with | .inr x => Sum.inr x | .inl st => stepE w i (pss.getD i []) st) = _
        rw [c]⟩
theorem run_st {w i : Nat} {pss : List (List PI)} {s : SE} (g : Good w pss) (hi : i ≤ pss.length) (h : runE w pss i = .inl s) : RI w i pss s := by
  rcases run_ri g i hi with ⟨s2, e, I⟩ | ⟨i0, s2, _, _, _, _, c⟩
  · rw [h] at e
    cases e
    exact I
  · rw [h] at c
    cases c
theorem szk20 {k : Nat} (h : k ≤ 4) : szk 20 k ≤ 541 := by
  have : k = 0 ∨ k = 1 ∨ k = 2 ∨ k = 3 ∨ k = 4 := by omega
  rcases this with e | e | e | e | e <;> subst e <;> decide
theorem RI.rz {w i : Nat} {pss : List (List PI)} {st : SE} (I : RI w i pss st) (g : Good w pss) (hi : i < pss.length) : Sh (restE w (pss.getD i []) st) 564 := by
  have m := pss_mem hi
  have hp := g.ln _ m
  have hc := g.cd _ m
  have w4 := g.w4
  have few := I.few
  intro j
  have z := rest_sz (m := szk 20 st.rows.length) (t := 20) (exL_len (k := st.tk.length) hp) I.ei.ln (by omega) I.ei.wd I.sz I.dz (ex_sz hc) j
  have := szk20 (k := st.rows.length) (by omega)
  exact pow_up z (by omega)
theorem fitE {w : Nat} {pss : List (List PI)} (g : Good w pss) : FitE w pss := by
  have w4 := g.w4
  refine ⟨fun i hi s h => ?_, fun i hi s h => ?_⟩
  · have I := run_st g hi h
    have few := I.few
    have k4 := szk20 (k := s.rows.length) (by omega)
    refine ⟨⟨szk 20 s.rows.length, szk_pos _ _, by omega, I.ei.ln, by omega, fun r hr => ⟨I.ei.wd r hr, I.sz r hr⟩, fun p hp => by have := I.pl p hp; omega, I.dz⟩, I.ei.d0, I.pl, I.ln, fun p hp => ?_, by omega⟩
    obtain ⟨a, b⟩ := I.tk p hp
    refine ⟨a, ?_⟩
    rw [b]
    exact pow_up (g.cd _ (pss_mem (by omega))).lcm (by omega)
  · have I := run_st g (by omega) h
    exact ⟨20, by omega, by omega, ex_sz (g.cd _ (pss_mem hi)), fun j => pow_up (I.rz g hi j) (by omega)⟩
end FR
set_option Elab.async false
set_option linter.all false
set_option maxRecDepth 100000
set_option maxHeartbeats 4000000
/-! the sizes of fit -/
namespace FR
open RF CN
theorem vv_abs {lines : List (List Int)} {w B : Nat} (h : ∀ l ∈ lines, ∀ j, (ent l j).natAbs ≤ B) (B1 : 1 ≤ B) (v c : Nat) : (vv lines w v c).natAbs ≤ B := by
  unfold vv
  have g : ∀ q j, (ent (lines.getD q []) j).natAbs ≤ B := fun q j => by
    by_cases hq : q < lines.length
    · exact h _ (getD_mem' hq) j
    · rw [List.getD_eq_getElem?_getD, List.getElem?_eq_none (by omega)]
      show (ent [] j).natAbs ≤ B
      rw [show ent [] j = 0 from rfl]
      exact Nat.zero_le _
  split
  · show (if c = v + 1 then (1 : Int) else 0).natAbs ≤ B
    split
    · exact B1
    · exact Nat.zero_le _
  · show (if c = 0 then ent (lines.getD (v - w) []) 0 else - ent (lines.getD (v - w) []) c).natAbs ≤ B
    split
    · exact g _ _
    · rw [Int.natAbs_neg]; exact g _ _
theorem gm_abs {lines : List (List Int)} {w B : Nat} (h : ∀ l ∈ lines, ∀ j, (ent l j).natAbs ≤ B) (B1 : 1 ≤ B) (gaps : List Nat) (i j : Nat) : (gm lines w gaps i j).natAbs ≤ B := by
  unfold gm
  split
  · show (e0 j).natAbs ≤ B
    unfold e0
    split
    · exact B1
    · exact Nat.zero_le _
  · exact vv_abs h B1 _ _
theorem wid_of {lines : List (List Int)} {w m B : Nat} (len : ∀ l ∈ lines, l.length = w + 1) (few : lines.length ≤ 90) (w12 : w ≤ 12) (w1 : 1 ≤ w) (h : ∀ l ∈ lines, ∀ j, (ent l j).natAbs ≤ B) (B1 : 1 ≤ B) (hb : bd B (w + 1) < 2 ^ m) (hB : B < 2 ^ m) (m9 : m ≤ 3500) (m0 : 0 < m) : Wid lines w m where
  len := len
  few := few
  w12 := w12
  w1 := w1
  sz := fun l m j => Nat.lt_of_le_of_lt (h l m j) hB
  m9 := m9
  m0 := m0
  dt := fun st I => by
    refine ⟨?_, fun v hv j => ?_⟩
    · rw [← I.det]
      exact Nat.lt_of_le_of_lt (det_abs fun i j _ _ => gm_abs h B1 _ _ _) hb
    · by_cases hj : j < w + 1
      · rw [I.phi len hv hj]
        refine Nat.lt_of_le_of_lt (det_abs fun a b _ _ => ?_) hb
        by_cases e : a = j
        · rw [e, row_at]; exact vv_abs h B1 _ _
        · rw [row_ne e]; exact gm_abs h B1 _ _ _
      · rw [ent_none (by rw [(I.line len hv).1]; omega)]
        exact Nat.pow_pos (by decide)
/-- what one may ask of fit -/
structure AskF (n : Nat) (pss : List (List PI)) (ts : List PI) (s m : Nat) : Prop where
  n0 : 0 < n
  n12 : n ≤ 12
  m0 : 0 < pss.length
  m80 : pss.length ≤ 80
  ln : ∀ ps ∈ pss, ps.length = n
  tl : ts.length = pss.length
  cd : ∀ (i : Nat) ps t, pss[i]? = some ps → ts[i]? = some t → Cd s (t :: ps)
  ct : Cd s ts
  col : ∀ k, k < n → Cd s (pss.map fun ps => ps.getD k (0, 1))
  s30 : s ≤ 30
  hb : bd (2 ^ s) (n + 1) < 2 ^ m
  sm : s < m
  m5 : m ≤ 1000
section
variable {n s m : Nat} {pss : List (List PI)} {ts : List PI}
theorem AskF.get (ak : AskF n pss ts s m) {i : Nat} (hi : i < pss.length) : ∃ ps t, pss[i]? = some ps ∧ ts[i]? = some t ∧ ps.length = n ∧ Cd s (t :: ps) := by
  have e := List.getElem?_eq_getElem hi
  have e' := List.getElem?_eq_getElem (show i < ts.length by have := ak.tl; omega)
  exact ⟨_, _, e, e', ak.ln _ (List.getElem_mem hi), ak.cd i _ _ e e'⟩
theorem AskF.row (ak : AskF n pss ts s m) : ∀ ps ∈ pss, ps.length = n ∧ Cd s ps := fun ps mp => by
  obtain ⟨i, hi⟩ := List.mem_iff_getElem?.mp mp
  obtain ⟨ps', t, e1, _, l, c⟩ := ak.get (List.getElem?_eq_some_iff.mp hi).1
  rw [hi] at e1
  cases e1
  exact ⟨l, c.sub fun p h => .tail _ h⟩
theorem AskF.alf (ak : AskF n pss ts s m) : ∀ ps ∈ pss, AllLf ps := fun ps mp => (ak.row ps mp).2.lf
theorem AskF.rs (ak : AskF n pss ts s m) : Rs pss n := ⟨ak.m0, ak.m80, ak.n0, ak.n12, ak.ln, fun x mx => (ak.row x mx).2.lf, fun x mx => (ak.row x mx).2.shr (by have := ak.s30; omega)⟩
theorem AskF.sm' (ak : AskF n pss ts s m) : Sm pss := fun x mx p hp => ⟨pow_up ((ak.row x mx).2.pz p hp).tz ak.s30, pow_up ((ak.row x mx).2.pz p hp).bz ak.s30⟩
theorem AskF.line (ak : AskF n pss ts s m) : ∀ l ∈ linesF pss ts, l.length = n + 1 ∧ ∀ j, (ent l j).natAbs < 2 ^ s := fun l ml => by
  obtain ⟨i, hi⟩ := List.mem_iff_getElem?.mp ml
  have il := (List.getElem?_eq_some_iff.mp hi).1
  have ll : (linesF pss ts).length = pss.length := by unfold linesF; rw [List.length_zipWith, ak.tl, Nat.min_self]
  obtain ⟨ps, t, e1, e2, l1, c⟩ := ak.get (i := i) (by omega)
  unfold linesF at hi
  rw [List.getElem?_zipWith, e1, e2] at hi
  cases hi
  refine ⟨by rw [lineP_len, List.length_cons, l1], fun j => ?_⟩
  by_cases hj : j < (lineP (t :: ps)).length
  · have e := List.getElem?_eq_getElem hj
    rw [ent_some e]
    exact c.line _ (List.getElem_mem hj)
  · rw [ent_none (by omega)]
    exact Nat.pow_pos (by decide)
theorem AskF.ok (ak : AskF n pss ts s m) : FtOk pss ts n m where
  len := ak.tl
  row := ak.ln
  ne := ak.m0
  few := ak.m80
  lf := fun i ps t e1 e2 => ⟨(ak.cd i ps t e1 e2).lf, (ak.cd i ps t e1 e2).shr (by have := ak.s30; omega)⟩
  wid := wid_of (B := 2 ^ s) (fun l ml => (ak.line l ml).1) (by
      have : (linesF pss ts).length = pss.length := by unfold linesF; rw [List.length_zipWith, ak.tl, Nat.min_self]
      have := ak.m80
      omega) ak.n12 ak.n0 (fun l ml j => Nat.le_of_lt ((ak.line l ml).2 j)) (Nat.pow_pos (by decide)) ak.hb (Nat.pow_lt_pow_right (by decide) ak.sm) (by have := ak.m5; omega) (by have := ak.sm; omega)
end
end FR
set_option Elab.async false
set_option linter.all false
set_option maxRecDepth 100000
set_option maxHeartbeats 4000000
/-! sizes; what each call comes to -/
namespace FR
open PySem PySem.Spec PyProof.Rows L2 LD RF CN LK LamX NdefX RZ
theorem val_min {p : PI} (h : Lf p.1 p.2) : val (minP p) = val p - 1 := by
  have b := cast_ne h.ne
  show val (nT _ _, nB _ _) = _
  rw [val_n h.ne, Rat.intCast_sub]
  unfold val
  grind
def Eb (e : Int) (B : Nat) (p : PI) : Prop := ∃ x : Int, x.natAbs ≤ B ∧ p = (nT x e, nB x e)
theorem Eb.up {e : Int} {B D : Nat} {p : PI} (h : Eb e B p) (g : B ≤ D) : Eb e D p := by
  obtain ⟨x, a, b⟩ := h
  exact ⟨x, Nat.le_trans a g, b⟩
theorem Eb.min {e : Int} {B : Nat} {p : PI} (e0 : e ≠ 0) (h : Eb e B p) : Eb e (B + e.natAbs) (minP p) := by
  obtain ⟨x, a, rfl⟩ := h
  refine ⟨x - e, by omega, val_inj (p := minP (nT x e, nB x e)) (lf_n (lf_n e0).ne) (lf_n e0) ?_⟩
  rw [val_min (lf_n e0), val_n e0, val_n e0, Rat.intCast_sub]
  have := cast_ne e0
  grind
theorem cd_eb {e : Int} {B s : Nat} {ps : List PI} (e0 : e ≠ 0) (es : B + e.natAbs < 2 ^ s) (h : ∀ p ∈ ps, Eb e (B + e.natAbs) p) : Cd s ps := ⟨e, e0, by omega, fun p m => by
  obtain ⟨x, a, b⟩ := h p m
  exact ⟨x, by omega, b⟩⟩
/-- square rows -/
structure Sqr (pss : List (List PI)) (e : Int) (B s m : Nat) : Prop where
  n0 : 0 < pss.length
  n12 : pss.length ≤ 12
  ln : ∀ ps ∈ pss, ps.length = pss.length
  e0 : e ≠ 0
  eb : ∀ ps ∈ pss, ∀ p ∈ ps, Eb e B p
  nn : ∀ ps ∈ pss, ∀ p ∈ ps, 0 ≤ p.1
  es : B + e.natAbs < 2 ^ s
  hb : bd (2 ^ s) (pss.length + 1) < 2 ^ m
  sm : s < m
  s30 : s ≤ 30
  m5 : m ≤ 1000
theorem lo_mem {pss : List (List PI)} {ps : List PI} (h : ps ∈ loP pss) : ∃ i qs, pss[i]? = some qs ∧ ps = loRow i qs := by
  obtain ⟨i, hi⟩ := List.mem_iff_getElem?.mp h
  have l := (List.getElem?_eq_some_iff.mp hi).1
  rw [loP_len] at l
  have e := List.getElem?_eq_getElem l
  rw [loP_get e] at hi
  cases hi
  exact ⟨i, _, e, rfl⟩
theorem lorow_mem {i : Nat} {qs : List PI} {p : PI} (h : p ∈ loRow i qs) : ∃ q ∈ qs, p = q ∨ p = minP q := by
  obtain ⟨j, hj⟩ := List.mem_iff_getElem?.mp h
  have l := (List.getElem?_eq_some_iff.mp hj).1
  rw [loRow_len] at l
  have e := List.getElem?_eq_getElem l
  rw [loRow_get e] at hj
  refine ⟨_, List.getElem_mem l, ?_⟩
  cases hj
  split
  · exact .inr rfl
  · exact .inl rfl
theorem lo_eb {pss : List (List PI)} {e : Int} {B : Nat} (e0 : e ≠ 0) (h : ∀ ps ∈ pss, ∀ p ∈ ps, Eb e B p) : ∀ ps ∈ loP pss, ∀ p ∈ ps, Eb e (B + e.natAbs) p := fun ps mp p hp => by
  obtain ⟨i, qs, hq, rfl⟩ := lo_mem mp
  obtain ⟨q, mq, e1 | e1⟩ := lorow_mem hp
  · rw [e1]; exact (h qs (List.mem_of_getElem? hq) q mq).up (by omega)
  · rw [e1]; exact (h qs (List.mem_of_getElem? hq) q mq).min e0
theorem ones_eb {e : Int} {B n : Nat} (e0 : e ≠ 0) : ∀ p ∈ onesP n, Eb e (B + e.natAbs) p := fun p mp => by
  rw [List.eq_of_mem_replicate mp]
  refine ⟨-e, by omega, val_inj (p := (-1, 1)) (Lf.one _) (lf_n e0) ?_⟩
  rw [val_n e0, Rat.intCast_neg]
  have := cast_ne e0
  show ((-1 : Int) : Rat) / ((1 : Int) : Rat) = _
  have a : ((-1 : Int) : Rat) = -1 := rfl
  have b : ((1 : Int) : Rat) = 1 := rfl
  rw [a, b]
  grind
theorem ask_lo {pss : List (List PI)} {e : Int} {B n s m : Nat} (hl : pss.length = n) (n0 : 0 < n) (n12 : n ≤ 12) (ln : ∀ ps ∈ pss, ps.length = n) (e0 : e ≠ 0) (eb : ∀ ps ∈ pss, ∀ p ∈ ps, Eb e B p) (es : B + e.natAbs < 2 ^ s) (hb : bd (2 ^ s) (n + 1) < 2 ^ m) (sm : s < m) (s30 : s ≤ 30) (m5 : m ≤ 1000) : AskF n (loP pss) (onesP n) s m := by
  have le := lo_eb e0 eb
  have ll : ∀ ps ∈ loP pss, ps.length = n := fun ps mp => by
    obtain ⟨i, qs, hq, rfl⟩ := lo_mem mp
    rw [loRow_len]
    exact ln qs (List.mem_of_getElem? hq)
  refine ⟨n0, n12, by rw [loP_len]; omega, by rw [loP_len]; omega, ll, by unfold onesP; rw [List.length_replicate, loP_len, hl], fun i ps t e1 e2 => cd_eb e0 es fun p mp => ?_, cd_eb e0 es (ones_eb e0), fun k hk => cd_eb e0 es fun p mp => ?_, s30, hb, sm, m5⟩
  · rcases List.mem_cons.mp mp with z | z
    · rw [z]; exact ones_eb e0 t (List.mem_of_getElem? e2)
    · exact le ps (List.mem_of_getElem? e1) p z
  · obtain ⟨ps, m', rfl⟩ := List.mem_map.mp mp
    exact le ps m' _ (getD_mem (by rw [ll ps m']; exact hk))
theorem turn_eb {pss : List (List PI)} {e : Int} {B : Nat} (ln : ∀ ps ∈ pss, ps.length = pss.length) (eb : ∀ ps ∈ pss, ∀ p ∈ ps, Eb e B p) : ∀ ps ∈ turnP pss pss.length, ∀ p ∈ ps, Eb e B p := fun ps mp p hp => by
  unfold turnP at mp
  obtain ⟨j, hj, rfl⟩ := List.mem_map.mp mp
  obtain ⟨qs, mq, rfl⟩ := List.mem_map.mp hp
  exact eb qs mq _ (getD_mem (by rw [ln qs mq]; exact List.mem_range.mp hj))
section
variable {pss : List (List PI)} {e : Int} {B s m : Nat}
theorem Sqr.lf (q : Sqr pss e B s m) : ∀ ps ∈ pss, AllLf ps := fun ps mp p hp => by
  obtain ⟨x, _, rfl⟩ := q.eb ps mp p hp
  exact lf_n q.e0
theorem Sqr.cd (q : Sqr pss e B s m) : ∀ ps ∈ pss, ps.length = pss.length ∧ Cd s ps := fun ps mp => ⟨q.ln ps mp, cd_eb q.e0 q.es fun p hp => (q.eb ps mp p hp).up (by omega)⟩
theorem Sqr.rs (q : Sqr pss e B s m) : Rs pss pss.length := ⟨q.n0, by have := q.n12; omega, q.n0, q.n12, q.ln, q.lf, fun ps mp => (q.cd ps mp).2.shr (by have := q.s30; omega)⟩
theorem Sqr.sm' (q : Sqr pss e B s m) : Sm pss := fun ps mp p hp => ⟨pow_up ((q.cd ps mp).2.pz p hp).tz q.s30, pow_up ((q.cd ps mp).2.pz p hp).bz q.s30⟩
theorem Sqr.neg (q : Sqr pss e B s m) : negR pss = false := by
  unfold negR
  rw [List.any_eq_false]
  intro ps mp z
  unfold negB at z
  rw [List.any_eq_true] at z
  obtain ⟨p, hp, c⟩ := z
  have := q.nn ps mp p hp
  have c := of_decide_eq_true c
  omega
theorem Sqr.ask1 (q : Sqr pss e B s m) : AskF pss.length (loP pss) (onesP pss.length) s m := ask_lo rfl q.n0 q.n12 q.ln q.e0 q.eb q.es q.hb q.sm q.s30 q.m5
theorem Sqr.ask2 (q : Sqr pss e B s m) : AskF pss.length (loP (turnP pss pss.length)) (onesP pss.length) s m := by
  refine ask_lo (by unfold turnP; rw [List.length_map, List.length_range]) q.n0 q.n12 (fun ps mp => ?_) q.e0 (turn_eb q.ln q.eb) q.es q.hb q.sm q.s30 q.m5
  unfold turnP at mp
  obtain ⟨j, _, rfl⟩ := List.mem_map.mp mp
  rw [List.length_map]
end
theorem q12_x {p : PI} (h : Q12 112 p) : ∃ x : Int, x.natAbs < 2 ^ 20 ∧ p = (nT x 12, nB x 12) := by
  have e := fdiv_mul h.dv
  refine ⟨p.1 * (12 : Int).fdiv p.2, ?_, n_eq (by decide) h.lf (by rw [Int.mul_assoc, e])⟩
  rw [Int.natAbs_mul]
  have e2 : ((12 : Int).fdiv p.2).natAbs * p.2.natAbs = 12 := by rw [← Int.natAbs_mul, e]; rfl
  have h1 := Nat.mul_le_mul_right ((12 : Int).fdiv p.2).natAbs h.le
  have e3 : 112 * p.2.natAbs * ((12 : Int).fdiv p.2).natAbs = 1344 := by rw [Nat.mul_assoc, Nat.mul_comm p.2.natAbs, e2]
  omega
theorem cd_12 {ps : List PI} (h : ∀ p ∈ ps, Q12 112 p) : Cd 20 ps := ⟨12, by decide, by decide, fun p m => q12_x (h p m)⟩
def onP (n : Nat) : List PI := List.replicate n (1, 1)
theorem onP_len (n : Nat) : (onP n).length = n := List.length_replicate
theorem on_q {n : Nat} : ∀ p ∈ onP n, Q12 112 p := fun p m => by
  rw [List.eq_of_mem_replicate m]
  exact ⟨Lf.one 1, ⟨12, by decide⟩, by decide⟩
theorem ask_on {n : Nat} {pss : List (List PI)} (n1 : 1 ≤ n) (n4 : n ≤ 4) (l1 : 1 ≤ pss.length) (l5 : pss.length ≤ 5) (hz : ∀ ps ∈ pss, ps.length = n ∧ ∀ p ∈ ps, Q12 112 p) : AskF n pss (onP pss.length) 20 107 where
  n0 := n1
  n12 := by omega
  m0 := l1
  m80 := by omega
  ln := fun ps m => (hz ps m).1
  tl := onP_len _
  cd := fun i ps t e1 e2 => cd_12 fun p m => by
    rcases List.mem_cons.mp m with e | m
    · rw [e]; exact on_q t (List.mem_of_getElem? e2)
    · exact (hz ps (List.mem_of_getElem? e1)).2 p m
  ct := cd_12 on_q
  col := fun k hk => cd_12 fun p mp => by
    obtain ⟨ps, m, rfl⟩ := List.mem_map.mp mp
    exact (hz ps m).2 _ (getD_mem (by rw [(hz ps m).1]; exact hk))
  s30 := by omega
  hb := by
    have : n = 1 ∨ n = 2 ∨ n = 3 ∨ n = 4 := by omega
    rcases this with e | e | e | e <;> subst e <;> decide
  sm := by omega
  m5 := by omega
theorem TT.mx {C : Addr} {H : Hp} {a : Addr} {pss : List (List PI)} (h : TT C H a pss) (g : ∀ ps ∈ pss, ps.length ≤ 80 ∧ AllLf ps ∧ Shr ps) : TMx C H a pss := by
  obtain ⟨vs, e, l, z⟩ := h
  refine ⟨vs, e, l, fun i v hv => ?_⟩
  obtain ⟨ps, hp, q, e1, xs, h1, h2⟩ := z i v hv
  obtain ⟨g1, g2, g3⟩ := g ps (List.mem_of_getElem? hp)
  exact ⟨ps, hp, q, e1, ⟨xs, h1, h2⟩, g1, g2, g3⟩
theorem AskF.tmx {n s m : Nat} {pss : List (List PI)} {ts : List PI} (ak : AskF n pss ts s m) {H : Hp} {a : Addr} (h : TT C H a pss) : TMx C H a pss := h.mx fun ps mp => ⟨by rw [ak.ln ps mp]; have := ak.n12; omega, ak.alf ps mp, (ak.row ps mp).2.shr (by have := ak.s30; omega)⟩
theorem AskF.tf {n s m : Nat} {pss : List (List PI)} {ts : List PI} (ak : AskF n pss ts s m) {H : Hp} {a : Addr} (h : TV C H a ts) : Tf C H a ts := ⟨h, by rw [ak.tl]; exact ak.m80, ak.ct.lf, ak.ct.shr (by have := ak.s30; omega)⟩
/-! ### the sizes of _times -/
theorem dot_le {A B : Nat} : ∀ {xs ys : List Int}, (∀ x ∈ xs, x.natAbs ≤ A) → (∀ y ∈ ys, y.natAbs ≤ B) → (dotI xs ys).natAbs ≤ xs.length * (A * B)
  | [], _, _, _ => by simp [dotI]
  | x :: xs, [], _, _ => by simp [dotI]
  | x :: xs, y :: ys, h, g => by
    have ih := dot_le (xs := xs) (ys := ys) (fun z m => h z (.tail _ m)) (fun z m => g z (.tail _ m))
    have e : dotI (x :: xs) (y :: ys) = x * y + dotI xs ys := by simp [dotI]
    have h1 : (x * y).natAbs ≤ A * B := by
      rw [Int.natAbs_mul]
      exact Nat.mul_le_mul (h x List.mem_cons_self) (g y List.mem_cons_self)
    have h2 := Int.natAbs_add_le (x * y) (dotI xs ys)
    rw [e, List.length_cons, Nat.add_mul, Nat.one_mul]
    omega
theorem sz_times {pss : List (List PI)} {cs : List PI} (h : ∀ ps ∈ pss, ps.length ≤ 80 ∧ Cd 20 ps) (g : Cd 20 cs) : ∀ p ∈ timesP pss cs, Sz p.1 p.2 := fun p mp => by
  unfold timesP at mp
  obtain ⟨ps, m, rfl⟩ := List.mem_map.mp mp
  obtain ⟨l, c⟩ := h ps m
  have r0 := lcmP_pos c.lf
  have c0 := lcmP_pos g.lf
  have m0 : lcmP ps * lcmP cs ≠ 0 := Int.mul_ne_zero (by omega) (by omega)
  have d := dot_le (A := 2 ^ 20) (B := 2 ^ 20) (fun x mx => Nat.le_of_lt (c.line x mx)) (fun x mx => Nat.le_of_lt (g.line x mx))
  have ll : (topsP ps (lcmP ps)).length ≤ 80 := by unfold topsP; rw [List.length_map]; exact l
  have d2 : (dotI (topsP ps (lcmP ps)) (topsP cs (lcmP cs))).natAbs < 2 ^ 60 := by
    have := Nat.mul_le_mul_right (2 ^ 20 * 2 ^ 20) ll
    have : 80 * (2 ^ 20 * 2 ^ 20) < 2 ^ 60 := by decide
    omega
  have mz : (lcmP ps * lcmP cs).natAbs < 2 ^ 60 := Nat.lt_of_lt_of_le (wide_lt c.lcm g.lcm) (by decide)
  unfold dotP
  exact ⟨pow_up (Nat.lt_of_le_of_lt (nT_le m0) d2) (by decide), pow_up (Nat.lt_of_le_of_lt (nB_le m0) mz) (by decide), (lf_n m0).ne⟩
/-! ### falling -/
section
variable {P : Program} {w : World} {K : PySem.W.Frag} {mg : Str → Option Value} {base : Heap} {C : Addr} {Tt : List (Addr × Str)}
def spF2 (C : Addr) (Tt : List (Addr × Str)) : Sp := fun vs H Q _ => ∃ (a : Addr) (pss : List (List PI)) (e : Int) (B s m : Nat), vs = [.ref a] ∧ TMx C H a pss ∧ Sqr pss e B s m ∧ Tabs Tt H ∧ ∀ v H', ExtN H H' → Tabs Tt H' → Q v H'
theorem fl_weak {k : Nat} {f : Addr} {fd : FuncData} (F : FnOk P w K mg base CX0 k f fd ["rows"] (spFl C Tt)) : FnOk P w K mg base CX0 k f fd ["rows"] (spF2 C Tt) :=
  fn_weaken F fun vs H Q E ⟨a, pss, e, B, s, m, ev, tm, sq, tb, q⟩ => by
    obtain ⟨N, res, run⟩ := run_ends (CI.start (linesF (loP pss) (onesP pss.length)) pss.length) sq.ask1.ok.wid.len
    obtain ⟨N2, res2, run2⟩ := run_ends (CI.start (linesF (loP (turnP pss pss.length)) (onesP pss.length)) pss.length) sq.ask2.ok.wid.len
    exact ⟨a, pss, m, m, N, N2, res, res2, ev, tm, sq.rs, sq.sm', sq.neg, sq.ask1.ok, run, sq.ask2.ok, run2, tb, fun t H' ex tb' so => q _ H' ex tb'⟩
end
/-! ### what a call comes to -/
def Wd (w : Str) : Prop := w = wRet ∨ w = wRows ∨ w = wOp
abbrev spTofB (K : PySem.W.Frag) (C IR : Addr) : Sp := fun vs H Q E => spTof C vs H Q E ∨ spTofX K C IR vs H Q E
abbrev spMofB (K : PySem.W.Frag) (C IR : Addr) : Sp := fun vs H Q E => spMof C vs H Q E ∨ spMofX K C IR vs H Q E
abbrev spSoB (K : PySem.W.Frag) (C IR : Addr) : Sp := fun vs H Q E => spSo C vs H Q E ∨ spCtX K C IR vs H Q E
abbrev spFiB (K : PySem.W.Frag) (C IR : Addr) (Tt : List (Addr × Str)) : Sp := fun vs H Q E => spFi C Tt vs H Q E ∨ spCtX K C IR vs H Q E
abbrev spIsB (K : PySem.W.Frag) (C IR : Addr) : Sp := fun vs H Q E => spIsN K C vs H Q E ∨ spCt3 K C IR vs H Q E
abbrev spIfB (K : PySem.W.Frag) (C IR : Addr) : Sp := fun vs H Q E => spIfN K C vs H Q E ∨ spCt3 K C IR vs H Q E
abbrev spFlB (K : PySem.W.Frag) (C IR IO : Addr) (Tt : List (Addr × Str)) : Sp := fun vs H Q E => spF2 C Tt vs H Q E ∨ spSqX K C IR IO vs H Q E
section
variable {K : PySem.W.Frag} {C IR IO : Addr} {Tt : List (Addr × Str)} {sp1 sp2 : Sp} {vs : List V} {H : Hp} {v u z : V}
theorem cm_n (h : ∀ H1 Q E, ExtN H H1 → Tabs Tt H1 → (∀ v H', ExtN H1 H' → Tabs Tt H' → Q v H') → sp1 vs H1 Q E) : Comes Tt IR IO (fun vs H Q E => sp1 vs H Q E ∨ sp2 vs H Q E) vs wRet H := fun H1 Q E e t q => .inl (h H1 Q E e t fun v H' e' t' => (q H' e' t').1 rfl v)
theorem cm_x (h : ∀ H1 Q E, ExtN H H1 → Rse IR H1 E → sp2 vs H1 Q E) : Comes Tt IR IO sp2 vs wRows H := fun H1 Q E e t q => h H1 Q E e fun H' s => (q H' (ExtN.of s) (t.ext s)).2.1 rfl
theorem cm_xo (h : ∀ H1 Q E, ExtN H H1 → Rse IO H1 E → sp2 vs H1 Q E) : Comes Tt IR IO sp2 vs wOp H := fun H1 Q E e t q => h H1 Q E e fun H' s => (q H' (ExtN.of s) (t.ext s)).2.2 rfl
theorem cm_r {w : Str} (h : Comes Tt IR IO sp2 vs w H) : Comes Tt IR IO (fun vs H Q E => sp1 vs H Q E ∨ sp2 vs H Q E) vs w H := fun H1 Q E e t q => .inr (h H1 Q E e t q)
theorem cm_ct2 {f : Nat → Nat → Nat} (h : CtX K C H v u f) : Comes Tt IR IO (fun vs H Q E => ∃ v u, vs = [v, u] ∧ CtX K C H v u f ∧ Rse IR H E) [v, u] wRows H := cm_x fun _ _ _ e r => ⟨v, u, rfl, h.ext e, r⟩
theorem cm_ct3 (h : CtX K C H v u (fun m _ => m)) : Comes Tt IR IO (spCt3 K C IR) [v, u, z] wRows H := cm_x fun _ _ _ e r => ⟨v, u, z, rfl, h.ext e, r⟩
theorem cm_cr (h : RsX K C H v) : Comes Tt IR IO (spCrX K C IR) [v] wRows H := cm_x fun _ _ _ e r => ⟨v, rfl, exn_rsX e h, r⟩
theorem cm_sq1 (h : RsX K C H v) : Comes Tt IR IO (spSqX K C IR IO) [v] wRows H := cm_x fun _ _ _ e r => ⟨v, rfl, .inl ⟨exn_rsX e h, r⟩⟩
theorem cm_sq2 (h : RsX K C H v) : Comes Tt IR IO (spSq2 K C IR IO) [v, z] wRows H := cm_x fun _ _ _ e r => ⟨v, z, rfl, .inl ⟨exn_rsX e h, r⟩⟩
theorem cm_op1 (h : SqX C H v) : Comes Tt IR IO (spSqX K C IR IO) [v] wOp H := cm_xo fun _ _ _ e r => ⟨v, rfl, .inr ⟨h.ext e, r⟩⟩
theorem cm_op2 (h : SqX C H v) : Comes Tt IR IO (spSq2 K C IR IO) [v, z] wOp H := cm_xo fun _ _ _ e r => ⟨v, z, rfl, .inr ⟨h.ext e, r⟩⟩
end
/-- drawn rows with a column and totals of ones -/
structure DR (C : Addr) (H : Hp) (a c t : Addr) (pss : List (List PI)) (n : Nat) : Prop where
  hv : TT C H a pss
  hc : TV C H c (onP n)
  ht : TV C H t (onP pss.length)
  n1 : 1 ≤ n
  n4 : n ≤ 4
  l1 : 1 ≤ pss.length
  l5 : pss.length ≤ 5
  hz : ∀ ps ∈ pss, ps.length = n ∧ ∀ p ∈ ps, Q12 112 p
section
variable {K : PySem.W.Frag} {C IR IO : Addr} {Tt : List (Addr × Str)} {H H' : Hp} {a c t : Addr} {pss : List (List PI)} {n : Nat} {v : V}
theorem exn_tv {a : Addr} {ps : List PI} (ex : ExtN H H') (h : TV C H a ps) : TV C H' a ps := by
  obtain ⟨xs, e, f⟩ := h
  exact ⟨xs, exn_tup ex e, exn_fvs ex f⟩
theorem exn_tt {a : Addr} {pss : List (List PI)} (ex : ExtN H H') (h : TT C H a pss) : TT C H' a pss := by
  obtain ⟨vs, e, f⟩ := h
  exact ⟨vs, exn_tup ex e, f.imp fun _ _ ⟨q, e, t⟩ => ⟨q, e, exn_tv ex t⟩⟩
theorem DR.ext (d : DR C H a c t pss n) (e : ExtN H H') : DR C H' a c t pss n := ⟨exn_tt e d.hv, exn_tv e d.hc, exn_tv e d.ht, d.n1, d.n4, d.l1, d.l5, d.hz⟩
theorem DR.ak (d : DR C H a c t pss n) : AskF n pss (onP pss.length) 20 107 := ask_on d.n1 d.n4 d.l1 d.l5 d.hz
theorem DR.tm (d : DR C H a c t pss n) : TMx C H a pss := d.ak.tmx d.hv
theorem DR.tt (d : DR C H a c t pss n) : Tf C H t (onP pss.length) := d.ak.tf d.ht
theorem DR.tc (d : DR C H a c t pss n) : Tf C H c (onP n) := ⟨d.hc, by rw [onP_len]; have := d.n4; omega, (cd_12 on_q).lf, (cd_12 on_q).shr (by omega)⟩
theorem DR.tof (d : DR C H a c t pss n) : Comes Tt IR IO (spTofB K C IR) [.ref a, .ref c] wRet H := cm_n fun H1 Q E e tb q => by
  have d1 := d.ext e
  exact ⟨a, c, pss, onP n, rfl, d1.tm, by rw [onP_len]; exact d1.ak.rs, d1.tc, fun t H' _ s => q _ H' (ExtN.of s) (tb.ext s)⟩
theorem DR.mof (d : DR C H a c t pss n) : Comes Tt IR IO (spMofB K C IR) [.ref a, .ref t] wRet H := cm_n fun H1 Q E e tb q => by
  have d1 := d.ext e
  exact ⟨a, t, pss, n, onP pss.length, rfl, d1.tm, d1.ak.rs, d1.ak.sm', d1.tt, onP_len _, fun t H' _ s => q _ H' (ExtN.of s) (tb.ext s)⟩
theorem aug_q (hz : ∀ ps ∈ pss, ps.length = n ∧ ∀ p ∈ ps, Q12 112 p) : ∀ ps ∈ augP pss (onP pss.length), ps.length = n + 1 ∧ Cd 20 ps := fun ps mp => by
  obtain ⟨i, hi⟩ := List.mem_iff_getElem?.mp mp
  unfold augP at hi
  rw [List.getElem?_zipWith] at hi
  cases h1 : pss[i]? with
  | none => rw [h1] at hi; cases hi
  | some qs =>
    cases h2 : (onP pss.length)[i]? with
    | none => rw [h1, h2] at hi; cases hi
    | some t =>
      rw [h1, h2] at hi
      cases hi
      have g := hz qs (List.mem_of_getElem? h1)
      refine ⟨by rw [List.length_append, g.1]; rfl, cd_12 fun p m => ?_⟩
      rcases List.mem_append.mp m with m | m
      · exact g.2 p m
      · rw [List.mem_singleton.mp m]; exact on_q t (List.mem_of_getElem? h2)
theorem DR.so (d : DR C H a c t pss n) : Comes Tt IR IO (spSoB K C IR) [.ref a, .ref t] wRet H := cm_n fun H1 Q E e tb q => by
  have d1 := d.ext e
  have g := aug_q d.hz
  exact ⟨a, t, pss, n, onP pss.length, rfl, d1.tm, d1.ak.rs, d1.tt, onP_len _, fun ps m => ⟨(g ps m).2.lf, (g ps m).2.shr (by omega)⟩, fitE ⟨d.n4, fun ps m => (g ps m).1, fun ps m => (g ps m).2⟩, fun t H' _ s => q _ H' (ExtN.of s) (tb.ext s)⟩
theorem DR.fi (d : DR C H a c t pss n) : Comes Tt IR IO (spFiB K C IR Tt) [.ref a, .ref t] wRet H := cm_n fun H1 Q E e tb q => by
  have d1 := d.ext e
  obtain ⟨N, res, run⟩ := run_ends (CI.start (linesF pss (onP pss.length)) n) d.ak.ok.wid.len
  exact ⟨a, t, pss, onP pss.length, n, 107, N, res, rfl, d1.tm, d1.ak.rs, d1.tt, d.ak.ok, tb, run, fun t H' ex tb' _ => q _ H' ex tb'⟩
/-- is_solution of a pair with the column -/
theorem DR.is1 (d : DR C H a c t pss n) {p : Addr} (hp : H p = some (.tup [.str wdS, .ref c])) : Comes Tt IR IO (spIsB K C IR) [.ref a, .ref t, .ref p] wRet H := cm_n fun H1 Q E e tb q => by
  have d1 := d.ext e
  exact ⟨a, t, .ref p, pss, n, onP pss.length, rfl, d1.tm, d1.ak.rs, d1.tt, onP_len _, .inl ⟨p, c, onP n, rfl, exn_tup e hp, d1.tc, onP_len _, fun r H' s => q _ H' (ExtN.of s) (tb.ext s)⟩⟩
theorem DR.is0 (d : DR C H a c t pss n) (h1 : ToldR K C H v wdS n false) (h2 : ToldR K C H v wdN pss.length false) : Comes Tt IR IO (spIsB K C IR) [.ref a, .ref t, v] wRet H := cm_n fun H1 Q E e tb q => by
  have d1 := d.ext e
  exact ⟨a, t, v, pss, n, onP pss.length, rfl, d1.tm, d1.ak.rs, d1.tt, onP_len _, .inr ⟨exn_toldR e h1, exn_toldR e h2, fun H' s => q _ H' (ExtN.of s) (tb.ext s)⟩⟩
theorem DR.szt (d : DR C H a c t pss n) : (∀ p ∈ onP pss.length, Sz p.1 p.2) ∧ ∀ p ∈ timesP pss (onP n), Sz p.1 p.2 := by
  refine ⟨fun p m => ?_, sz_times (fun ps m => ⟨by rw [(d.hz ps m).1]; have := d.n4; omega, cd_12 (d.hz ps m).2⟩) (cd_12 on_q)⟩
  rw [List.eq_of_mem_replicate m]
  exact ⟨Nat.one_lt_two_pow (by decide), Nat.one_lt_two_pow (by decide), by decide⟩
theorem DR.if1 (d : DR C H a c t pss n) {p : Addr} (hp : H p = some (.tup [.str wF, .ref c])) : Comes Tt IR IO (spIfB K C IR) [.ref a, .ref t, .ref p] wRet H := cm_n fun H1 Q E e tb q => by
  have d1 := d.ext e
  exact ⟨a, t, .ref p, pss, n, onP pss.length, rfl, d1.tm, d1.ak.rs, d1.tt, onP_len _, .inl ⟨p, c, onP n, rfl, exn_tup e hp, d1.tc, onP_len _, d.szt.1, d.szt.2, fun r H' s => q _ H' (ExtN.of s) (tb.ext s)⟩⟩
theorem DR.if0 (d : DR C H a c t pss n) (h1 : ToldR K C H v wF n false) (h2 : ToldR K C H v wB pss.length false) : Comes Tt IR IO (spIfB K C IR) [.ref a, .ref t, v] wRet H := cm_n fun H1 Q E e tb q => by
  have d1 := d.ext e
  exact ⟨a, t, v, pss, n, onP pss.length, rfl, d1.tm, d1.ak.rs, d1.tt, onP_len _, .inr ⟨exn_toldR e h1, exn_toldR e h2, fun H' s => q _ H' (ExtN.of s) (tb.ext s)⟩⟩
end
end FR
set_option Elab.async false
set_option linter.all false
set_option maxRecDepth 100000
set_option maxHeartbeats 4000000
/-! _law_words -/
namespace FR
open PySem PySem.Spec PyProof.Rows L2 LD RF CN LK LamX NdefX RZ
abbrev sWs : Stmt := top 68
abbrev NWs : List Str := ["_law_rows", "_law_column", "_law_totals", "_law_found"]
theorem scWs : FnScope NWs ["_law_rows", "_law_column", "_law_totals"] (defScope sWs) := ⟨rfl, rfl, rfl, by decide +kernel, rfl, by decide +kernel, by decide +kernel⟩
def qWs : Str := "_law_words.<locals>.<lambda>"
theorem tabs_updl {T : List (Addr × Str)} {H : Hp} {l : Addr} {xs : List V} {o : HO} (t : Tabs T H) (hl : H l = some (.lst xs)) : Tabs T (upd H l o) := fun p hp => by
  obtain ⟨ps, h1, h2, h3⟩ := t p hp
  refine ⟨ps, by rw [upd_ne (fun z => by rw [z, hl] at h1; cases h1)]; exact h1, h2, fun pos cv hc => ?_⟩
  obtain ⟨c, e1, e2⟩ := h3 pos cv hc
  refine ⟨c, e1, ?_⟩
  have n : c ≠ l := fun z => by
    rw [z, hl] at e2
    injection e2 with e2
    unfold CodeO at e2
    cases e2
  rw [upd_ne n]
  exact e2
/-- nothing stands at l, or a table -/
def Fr0 (H : Hp) (l : Addr) : Prop := ∀ o, H l = some o → ∃ ps, o = .tbl ps
theorem exn_upd {H H1 : Hp} {l : Addr} {o : HO} (e : ExtN H H1) (n : Fr0 H l) : ExtN H (upd H1 l o) := fun q o' h z => by
  rw [upd_ne (fun y => by
    rw [y] at h
    obtain ⟨ps, x⟩ := n _ h
    exact z ps x)]; exact e q o' h z
theorem exn_free {H H1 : Hp} {l : Addr} (e : ExtN H H1) (n : H1 l = none) : Fr0 H l := fun o h => Classical.byContradiction fun z => by
  have := e l o h fun ps y => z ⟨ps, y⟩
  rw [n] at this
  cases this
theorem tt_word {T : List (Addr × Str)} {IR IO : Addr} {sp : Sp} {vs : List V} {w : Str} {H H1 : Hp} {Q : VK} {tl : XK → Hp → VK → Prop} (hw : Wd w) (h : Comes T IR IO sp vs w H) (e : ExtN H H1) (tb : Tabs T H1) (ht : ∀ E Q, sp vs H1 Q E → tl E H1 Q) (q : ∀ H', ExtN H1 H' → Tabs T H' → Q (.str w) H') : TTword IR IO tl H1 Q :=
  ht _ _ (comes_word hw h H1 e tb q)
theorem tt_tup {T : List (Addr × Str)} {IR IO : Addr} {sp : Sp} {v u c : V} {z w : Str} {H H1 : Hp} {Q : VK} {tl : XK → Hp → VK → Prop} (hw : Wd w) (h : ∀ p H2, ExtN H H2 → H2 p = some (.tup [.str z, c]) → Comes T IR IO sp [v, u, .ref p] w H2) (e : ExtN H H1) (tb : Tabs T H1)
    (ht : ∀ E Q, (∀ p, H1 p = none → sp [v, u, .ref p] (upd H1 p (.tup [.str z, c])) Q E) → tl E H1 Q) (q : ∀ H', ExtN H1 H' → Tabs T H' → Q (.str w) H') : TTword IR IO tl H1 Q :=
  ht _ _ fun p hp => by
    have s := same_new (o := .tup [.str z, c]) hp
    exact comes_word hw (h p _ (e.trans (ExtN.of s)) upd_same) _ (ExtN.refl _) (tb.ext s) fun H' e' t' => q H' ((ExtN.of s).trans e') t'
/-- six defs that a call may raise out of -/
structure Six (P : Program) (w : World) (K : PySem.W.Frag) (mg : Str → Option Value) (base : Heap) (C IR IO : Addr) (Tt : List (Addr × Str)) where
  tof : GloX P w K mg base "times_of" 7 ["rows", "column"] (spTofB K C IR)
  mof : GloX P w K mg base "mix_of" 7 ["rows", "factors"] (spMofB K C IR)
  so : GloX P w K mg base "solution" 7 ["rows", "totals"] (spSoB K C IR)
  fi : GloX P w K mg base "fit" 7 ["rows", "totals"] (spFiB K C IR Tt)
  is : GloX P w K mg base "is_solution" 8 ["rows", "totals", "value"] (spIsB K C IR)
  if_ : GloX P w K mg base "is_fit" 8 ["rows", "totals", "value"] (spIfB K C IR)
section
variable {P : Program} {w : World} {K : PySem.W.Frag} {mg : Str → Option Value} {base : Heap} {C IR IO EE : Addr} {Tt : List (Addr × Str)}
def txs (ws : List Str) : List V := ws.map V.str
def spWs (K : PySem.W.Frag) (C IR IO : Addr) (Tt : List (Addr × Str)) : Sp := fun vs H Q _ => ∃ (v c t : V) (w1 w2 w3 w4 w5 w6 : Str), vs = [v, c, t] ∧ Tabs Tt H ∧ (∀ w ∈ [w1, w2, w3, w4, w5, w6], Wd w) ∧
  Comes Tt IR IO (spTofB K C IR) [v, c] w1 H ∧ Comes Tt IR IO (spMofB K C IR) [v, t] w2 H ∧ Comes Tt IR IO (spSoB K C IR) [v, t] w3 H ∧ Comes Tt IR IO (spFiB K C IR Tt) [v, t] w4 H ∧
  (∀ p H1, ExtN H H1 → H1 p = some (.tup [.str wdS, c]) → Comes Tt IR IO (spIsB K C IR) [v, t, .ref p] w5 H1) ∧ (∀ p H1, ExtN H H1 → H1 p = some (.tup [.str wF, c]) → Comes Tt IR IO (spIfB K C IR) [v, t, .ref p] w6 H1) ∧
  ∀ l H', ExtN H H' → Tabs Tt H' → H' l = some (.lst (txs [w1, w2, w3, w4, w5, w6])) → Q (.ref l) H'
theorem ok_ws {f cc Pt g : Addr} {fd : FuncData} (F : FunC K "_law_words" "_law_words" sWs f fd cc) (Wt : WordT K mg g IR IO EE) (B : TabB base mg cc Pt) (mT : (Pt, qWs) ∈ Tt) (uT : ∀ p ∈ Tt, p.1 = Pt → p.2 = qWs) (S6 : Six P w K mg base C IR IO Tt) : FnOk P w K mg base CX0 11 f fd ["_law_rows", "_law_column", "_law_totals"] (spWs K C IR IO Tt) := by
  refine F.ok scWs (fun vs H Q E h => ?_) (fun A outer s H vs Q E hr h => ?_)
  · obtain ⟨v, c, t, w1, w2, w3, w4, w5, w6, rfl, _⟩ := h
    rfl
  · obtain ⟨v, c, t, w1, w2, w3, w4, w5, w6, rfl, tb, wd, h1, h2, h3, h4, h5, h6, q⟩ := h
    refine ⟨_, (pss_cons (ps_set (i := 3) scWs.nd rfl (Or.inl rfl) (pe_lst (pa_cons (pe_word (X := (cxOf CX0 P w K mg base NWs "_law_words" (defScope sWs) f (.ref cc) A outer s H E).nox) (T := Tt) (c := cc) (P := Pt) (k := 7) (t := fun E => tCall (spTofB K C IR) [] E (tCons (tVar 0) (tCons (tVar 1) tNil))) Wt (by rfl) B rfl mT uT (hr.mono (by decide)) (lamS_by (by show lamSB (defScope sWs) _ = true; decide +kernel)) rfl (fun _ _ _ _ _ => rfl) (fun A2 outer2 s2 H2 E2 f2 c2 hr2 => pe_call S6.tof.G hr2 (by rfl) S6.tof.m S6.tof.k S6.tof.b .nil (passes_call (takes_of rfl rfl rfl rfl) fun _ _ _ _ h => h) (pa_cons (pv 0) (pa_cons (pv 1) pa_nil)))) pa_nil)))
      (pss_cons (ps_expr (pe_bm PySem.F.plainAttrs_list PySem.F.slot_list_append PySem.F.type_list_append mt_append (pv 3) (pa_cons (pe_word (X := (cxOf CX0 P w K mg base NWs "_law_words" (defScope sWs) f (.ref cc) A outer s H E).nox) (T := Tt) (c := cc) (P := Pt) (k := 7) (t := fun E => tCall (spMofB K C IR) [] E (tCons (tVar 0) (tCons (tVar 2) tNil))) Wt (by rfl) B rfl mT uT (hr.mono (by decide)) (lamS_by (by show lamSB (defScope sWs) _ = true; decide +kernel)) rfl (fun _ _ _ _ _ => rfl) (fun A2 outer2 s2 H2 E2 f2 c2 hr2 => pe_call S6.mof.G hr2 (by rfl) S6.mof.m S6.mof.k S6.mof.b .nil (passes_call (takes_of rfl rfl rfl rfl) fun _ _ _ _ h => h) (pa_cons (pv 0) (pa_cons (pv 2) pa_nil)))) pa_nil)))
      (pss_cons (ps_expr (pe_bm PySem.F.plainAttrs_list PySem.F.slot_list_append PySem.F.type_list_append mt_append (pv 3) (pa_cons (pe_word (X := (cxOf CX0 P w K mg base NWs "_law_words" (defScope sWs) f (.ref cc) A outer s H E).nox) (T := Tt) (c := cc) (P := Pt) (k := 7) (t := fun E => tCall (spSoB K C IR) [] E (tCons (tVar 0) (tCons (tVar 2) tNil))) Wt (by rfl) B rfl mT uT (hr.mono (by decide)) (lamS_by (by show lamSB (defScope sWs) _ = true; decide +kernel)) rfl (fun _ _ _ _ _ => rfl) (fun A2 outer2 s2 H2 E2 f2 c2 hr2 => pe_call S6.so.G hr2 (by rfl) S6.so.m S6.so.k S6.so.b .nil (passes_call (takes_of rfl rfl rfl rfl) fun _ _ _ _ h => h) (pa_cons (pv 0) (pa_cons (pv 2) pa_nil)))) pa_nil)))
      (pss_cons (ps_expr (pe_bm PySem.F.plainAttrs_list PySem.F.slot_list_append PySem.F.type_list_append mt_append (pv 3) (pa_cons (pe_word (X := (cxOf CX0 P w K mg base NWs "_law_words" (defScope sWs) f (.ref cc) A outer s H E).nox) (T := Tt) (c := cc) (P := Pt) (k := 7) (t := fun E => tCall (spFiB K C IR Tt) [] E (tCons (tVar 0) (tCons (tVar 2) tNil))) Wt (by rfl) B rfl mT uT (hr.mono (by decide)) (lamS_by (by show lamSB (defScope sWs) _ = true; decide +kernel)) rfl (fun _ _ _ _ _ => rfl) (fun A2 outer2 s2 H2 E2 f2 c2 hr2 => pe_call S6.fi.G hr2 (by rfl) S6.fi.m S6.fi.k S6.fi.b .nil (passes_call (takes_of rfl rfl rfl rfl) fun _ _ _ _ h => h) (pa_cons (pv 0) (pa_cons (pv 2) pa_nil)))) pa_nil)))
      (pss_cons (ps_expr (pe_bm PySem.F.plainAttrs_list PySem.F.slot_list_append PySem.F.type_list_append mt_append (pv 3) (pa_cons (pe_word (X := (cxOf CX0 P w K mg base NWs "_law_words" (defScope sWs) f (.ref cc) A outer s H E).nox) (T := Tt) (c := cc) (P := Pt) (k := 8) (t := fun E => tCall (spIsB K C IR) [] E (tCons (tVar 0) (tCons (tVar 2) (tCons (tTup (tCons (tC (.str wdS)) (tCons (tVar 1) tNil))) tNil)))) Wt (by rfl) B rfl mT uT (hr.mono (by decide)) (lamS_by (by show lamSB (defScope sWs) _ = true; decide +kernel)) rfl (fun _ _ _ _ _ => rfl) (fun A2 outer2 s2 H2 E2 f2 c2 hr2 => pe_call S6.is.G hr2 (by rfl) S6.is.m S6.is.k S6.is.b .nil (passes_call (takes_of rfl rfl rfl rfl) fun _ _ _ _ h => h) (pa_cons (pv 0) (pa_cons (pv 2) (pa_cons (pe_tup (pa_cons pe_str (pa_cons (pv 1) pa_nil))) pa_nil))))) pa_nil)))
      (pss_cons (ps_expr (pe_bm PySem.F.plainAttrs_list PySem.F.slot_list_append PySem.F.type_list_append mt_append (pv 3) (pa_cons (pe_word (X := (cxOf CX0 P w K mg base NWs "_law_words" (defScope sWs) f (.ref cc) A outer s H E).nox) (T := Tt) (c := cc) (P := Pt) (k := 8) (t := fun E => tCall (spIfB K C IR) [] E (tCons (tVar 0) (tCons (tVar 2) (tCons (tTup (tCons (tC (.str wF)) (tCons (tVar 1) tNil))) tNil)))) Wt (by rfl) B rfl mT uT (hr.mono (by decide)) (lamS_by (by show lamSB (defScope sWs) _ = true; decide +kernel)) rfl (fun _ _ _ _ _ => rfl) (fun A2 outer2 s2 H2 E2 f2 c2 hr2 => pe_call S6.if_.G hr2 (by rfl) S6.if_.m S6.if_.k S6.if_.b .nil (passes_call (takes_of rfl rfl rfl rfl) fun _ _ _ _ h => h) (pa_cons (pv 0) (pa_cons (pv 2) (pa_cons (pe_tup (pa_cons pe_str (pa_cons (pv 1) pa_nil))) pa_nil))))) pa_nil)))
      (pss_one (ps_ret (pv 3))))))))), ?_⟩
    have d1 := wd w1 (by simp)
    have d2 := wd w2 (by simp)
    have d3 := wd w3 (by simp)
    have d4 := wd w4 (by simp)
    have d5 := wd w5 (by simp)
    have d6 := wd w6 (by simp)
    refine ⟨tb, fun H1 e1 t1 => ?_⟩
    refine tt_word d1 h1 e1 t1 (fun E Q h => ⟨_, rfl, _, rfl, h⟩) fun H2 e2 t2 => ?_
    have x2 := e1.trans e2
    refine ⟨small1000 (Nat.le_of_ble_eq_true rfl), fun l hl => ?_⟩
    have nl : Fr0 H l := exn_free x2 hl
    have s3 := same_new (o := .lst [V.str w1]) hl
    have hl3 : upd H2 l (.lst [V.str w1]) l = some (.lst (txs [w1])) := upd_same
    have x3 := x2.trans (ExtN.of s3)
    have t3 := t2.ext s3
    generalize upd H2 l (.lst [V.str w1]) = H3 at s3 hl3 x3 t3 ⊢
    refine ⟨_, rfl, .inl ⟨rfl, _, SqL.of hl3⟩, t3, fun H2a e2a t2a => ?_⟩
    have x2a := x3.trans e2a
    have hl2a := exn_lst e2a hl3
    refine tt_word d2 h2 x2a t2a (fun E Q h => ⟨_, rfl, _, rfl, h⟩) fun H2b e2b t2b => ?_
    have x2b := x2a.trans e2b
    have hl2b := exn_lst e2b hl2a
    refine ⟨l, _, _, rfl, rfl, hl2b, small1000 (Nat.le_of_ble_eq_true rfl), ?_⟩
    have hl2c : upd H2b l (.lst (txs [w1] ++ [V.str w2])) l = some (.lst (txs [w1, w2])) := upd_same
    have t2c := tabs_updl (o := .lst (txs [w1] ++ [V.str w2])) t2b hl2b
    have x2c : ExtN H (upd H2b l (.lst (txs [w1] ++ [V.str w2]))) := exn_upd x2b nl
    generalize upd H2b l (.lst (txs [w1] ++ [V.str w2])) = H2c at hl2c t2c x2c ⊢
    refine ⟨_, rfl, .inl ⟨rfl, _, SqL.of hl2c⟩, t2c, fun H3a e3a t3a => ?_⟩
    have x3a := x2c.trans e3a
    have hl3a := exn_lst e3a hl2c
    refine tt_word d3 h3 x3a t3a (fun E Q h => ⟨_, rfl, _, rfl, h⟩) fun H3b e3b t3b => ?_
    have x3b := x3a.trans e3b
    have hl3b := exn_lst e3b hl3a
    refine ⟨l, _, _, rfl, rfl, hl3b, small1000 (Nat.le_of_ble_eq_true rfl), ?_⟩
    have hl3c : upd H3b l (.lst (txs [w1, w2] ++ [V.str w3])) l = some (.lst (txs [w1, w2, w3])) := upd_same
    have t3c := tabs_updl (o := .lst (txs [w1, w2] ++ [V.str w3])) t3b hl3b
    have x3c : ExtN H (upd H3b l (.lst (txs [w1, w2] ++ [V.str w3]))) := exn_upd x3b nl
    generalize upd H3b l (.lst (txs [w1, w2] ++ [V.str w3])) = H3c at hl3c t3c x3c ⊢
    refine ⟨_, rfl, .inl ⟨rfl, _, SqL.of hl3c⟩, t3c, fun H4a e4a t4a => ?_⟩
    have x4a := x3c.trans e4a
    have hl4a := exn_lst e4a hl3c
    refine tt_word d4 h4 x4a t4a (fun E Q h => ⟨_, rfl, _, rfl, h⟩) fun H4b e4b t4b => ?_
    have x4b := x4a.trans e4b
    have hl4b := exn_lst e4b hl4a
    refine ⟨l, _, _, rfl, rfl, hl4b, small1000 (Nat.le_of_ble_eq_true rfl), ?_⟩
    have hl4c : upd H4b l (.lst (txs [w1, w2, w3] ++ [V.str w4])) l = some (.lst (txs [w1, w2, w3, w4])) := upd_same
    have t4c := tabs_updl (o := .lst (txs [w1, w2, w3] ++ [V.str w4])) t4b hl4b
    have x4c : ExtN H (upd H4b l (.lst (txs [w1, w2, w3] ++ [V.str w4]))) := exn_upd x4b nl
    generalize upd H4b l (.lst (txs [w1, w2, w3] ++ [V.str w4])) = H4c at hl4c t4c x4c ⊢
    refine ⟨_, rfl, .inl ⟨rfl, _, SqL.of hl4c⟩, t4c, fun H5a e5a t5a => ?_⟩
    have x5a := x4c.trans e5a
    have hl5a := exn_lst e5a hl4c
    refine tt_tup d5 h5 x5a t5a (fun E Q h => ⟨_, rfl, _, rfl, _, rfl, small1000 (Nat.le_of_ble_eq_true rfl), h⟩) fun H5b e5b t5b => ?_
    have x5b := x5a.trans e5b
    have hl5b := exn_lst e5b hl5a
    refine ⟨l, _, _, rfl, rfl, hl5b, small1000 (Nat.le_of_ble_eq_true rfl), ?_⟩
    have hl5c : upd H5b l (.lst (txs [w1, w2, w3, w4] ++ [V.str w5])) l = some (.lst (txs [w1, w2, w3, w4, w5])) := upd_same
    have t5c := tabs_updl (o := .lst (txs [w1, w2, w3, w4] ++ [V.str w5])) t5b hl5b
    have x5c : ExtN H (upd H5b l (.lst (txs [w1, w2, w3, w4] ++ [V.str w5]))) := exn_upd x5b nl
    generalize upd H5b l (.lst (txs [w1, w2, w3, w4] ++ [V.str w5])) = H5c at hl5c t5c x5c ⊢
    refine ⟨_, rfl, .inl ⟨rfl, _, SqL.of hl5c⟩, t5c, fun H6a e6a t6a => ?_⟩
    have x6a := x5c.trans e6a
    have hl6a := exn_lst e6a hl5c
    refine tt_tup d6 h6 x6a t6a (fun E Q h => ⟨_, rfl, _, rfl, _, rfl, small1000 (Nat.le_of_ble_eq_true rfl), h⟩) fun H6b e6b t6b => ?_
    have x6b := x6a.trans e6b
    have hl6b := exn_lst e6b hl6a
    refine ⟨l, _, _, rfl, rfl, hl6b, small1000 (Nat.le_of_ble_eq_true rfl), ?_⟩
    have hl6c : upd H6b l (.lst (txs [w1, w2, w3, w4, w5] ++ [V.str w6])) l = some (.lst (txs [w1, w2, w3, w4, w5, w6])) := upd_same
    have t6c := tabs_updl (o := .lst (txs [w1, w2, w3, w4, w5] ++ [V.str w6])) t6b hl6b
    have x6c : ExtN H (upd H6b l (.lst (txs [w1, w2, w3, w4, w5] ++ [V.str w6]))) := exn_upd x6b nl
    generalize upd H6b l (.lst (txs [w1, w2, w3, w4, w5] ++ [V.str w6])) = H6c at hl6c t6c x6c ⊢
    exact ⟨_, rfl, q l _ x6c t6c hl6c⟩
end
end FR
set_option Elab.async false
set_option linter.all false
set_option maxRecDepth 100000
set_option maxHeartbeats 4000000
/-! tuple * 1 is the tuple -/
namespace L2
open PySem PySem.Spec PyProof.Rows
theorem tuple_mul1 (l : Addr) (items : Array Value) (n : Nat) (dd : Option Addr) (sl : Array (Option Value)) (u : Tok) :
    Meets (Builtin.«tuple.__mul__» ⟨[.ref l, .int 1 u], []⟩) (fun _ R s => s.heap.get? l = some { cls := .type "tuple", dict := dd, data := .seq items n, slots := sl } ∧ R (.ok (.ret (Value.ref l))) s) :=
  .of_wp fun prog w A R s h => by
    obtain ⟨hp, g, d, tk, os⟩ := s
    obtain ⟨hl, h⟩ := h
    have f1 := AutoSeq1.idx_int
    have c1 : (items.isEmpty || (1 : Int) == 1) = true := by simp
    have c0 : (decide ((1 : Int) < -(2 ^ 63)) || decide ((1 : Int) ≥ 2 ^ 63)) = false := by decide
    wp_walk using wpAny_loadPart' hl
    repeat (first
      | (refine wpAny_ite_false (decide_eq_false (by rw [c0]; exact Bool.false_ne_true)) ?_; wp_walk using wpAny_loadPart' hl)
      | (refine wpAny_ite_true (decide_eq_true c1) ?_; wp_walk using wpAny_loadPart' hl))
    exact ⟨_, rfl, h⟩
section
variable {X : Cx}
theorem op_rep1T : OpR X (binaryOp .Mult) (fun x y H Q => ∃ l xs, x = .ref l ∧ y = .int 1 ∧ SqT X.K H l xs ∧ Q (.ref l) H) := by
  intro pins s σ H x y v u Q I rx ry h
  obtain ⟨l, xs, rfl, rfl, hT, q⟩ := h
  cases rx
  obtain ⟨t, rfl⟩ := ry
  obtain ⟨its, r, ⟨⟨cls, dd, data, sl⟩, ho, hc, n, hd⟩, hs⟩ := I.tuple hT
  simp only at hc hd
  subst hc hd
  refine wpAny_binaryOp_repeat_ref (T := "tuple") (U := "int") (by decide) ⟨_, ho, rfl⟩ (fun s' => typeIs_int s' 1 t) noFill_tuple_mul F.fills_int_mul F.slot_int_rmul repeat_tuple F.slot_int_index.lookup
    (call_meets F.slot_int_rmul (typeIs_int s 1 t) F.entry_int_rmul (F.args_int_rmul_2 _ _) (int_rmul_tuple 1 t l its.toArray n dd sl)
      ⟨ho, rfl, ⟨_, ho, rfl⟩, call_meets F.slot_tuple_mul ⟨_, ho, rfl⟩ F.entry_tuple_mul (F.args_tuple_mul_2 _ _) (tuple_mul1 l its.toArray n dd sl t) ⟨ho, ?_⟩⟩)
  exact ⟨.ref l, H, I, rfl, q⟩
end
end L2
namespace FR
open PySem PySem.Spec PyProof.Rows L2 LD RF
def rRepA (K : PySem.W.Frag) : R2 := fun x y H Q => (∃ l xs, x = .ref l ∧ y = .int 1 ∧ SqT K H l xs ∧ Q (.ref l) H) ∨ rRepT K x y H Q
theorem op_repA {X : Cx} : OpR X (binaryOp .Mult) (rRepA X.K) := opr_or op_rep1T op_repT
theorem repA_any {K : PySem.W.Frag} {H : Hp} {l : Addr} {x : V} {n : Nat} {Q : VK} (h : H l = some (.tup [x])) (n0 : 0 < n) (n9 : n ≤ 1000) (q : ∀ p H', Same H H' → H' p = some (.tup (List.replicate n x)) → Q (.ref p) H') : rRepA K (.ref l) (.int (n : Nat)) H Q := by
  by_cases e : n = 1
  · subst e
    exact .inl ⟨l, _, rfl, rfl, SqT.of h, q l H (Same.refl H) h⟩
  · refine .inr ⟨l, n, _, rfl, rfl, SqT.of h, by simp, by omega, by omega, by simp, fun p hp => q p _ (same_new hp) ?_⟩
    rw [upd_same]
    have : (n : Int).toNat = n := by omega
    rw [this, flat_rep]
end FR
set_option Elab.async false
set_option linter.all false
set_option maxRecDepth 100000
set_option maxHeartbeats 4000000
/-! tuple * n for any small n; text * n -/
namespace L2
open PySem PySem.Spec PyProof.Rows
theorem tuple_mul0 (l : Addr) (items : Array Value) (n : Nat) (dd : Option Addr) (sl : Array (Option Value)) (u : Tok) (c1 : (items.isEmpty || (0 : Int) == 1) = false) :
    Meets (Builtin.«tuple.__mul__» ⟨[.ref l, .int 0 u], []⟩) (fun _ R s => s.heap.get? l = some { cls := .type "tuple", dict := dd, data := .seq items n, slots := sl } ∧
      R (.ok (.ret (Value.ref s.heap.objs.size))) { s with heap := s.heap.push { cls := Value.type "tuple", data := Data.seq #[] }, toks := s.toks }) :=
  .of_wp fun prog w A R s h => by
    obtain ⟨hp, g, d, tk, os⟩ := s
    obtain ⟨hl, h⟩ := h
    have f1 := AutoSeq1.idx_int
    have c0 : (decide ((0 : Int) < -(2 ^ 63)) || decide ((0 : Int) ≥ 2 ^ 63)) = false := by decide
    have c2 : (decide ((0 : Int) ≤ 0) || items.isEmpty) = true := by simp
    wp_walk using wpAny_loadPart' hl
    repeat (first
      | (refine wpAny_ite_false (decide_eq_false (by rw [c0]; exact Bool.false_ne_true)) ?_; wp_walk using wpAny_loadPart' hl)
      | (refine wpAny_ite_false (decide_eq_false (by rw [c1]; exact Bool.false_ne_true)) ?_; wp_walk using wpAny_loadPart' hl)
      | (refine wpAny_ite_true (decide_eq_true c2) ?_; wp_walk using wpAny_loadPart' hl))
    exact ⟨_, rfl, h⟩
section
variable {X : Cx}
theorem op_rep0T : OpR X (binaryOp .Mult) (fun x y H Q => ∃ l x0 xs, x = .ref l ∧ y = .int 0 ∧ SqT X.K H l (x0 :: xs) ∧ ∀ p, H p = none → Q (.ref p) (upd H p (.tup []))) := by
  intro pins s σ H x y v u Q I rx ry h
  obtain ⟨l, x0, xs, rfl, rfl, hT, q⟩ := h
  cases rx
  obtain ⟨t, rfl⟩ := ry
  obtain ⟨its, r, ⟨⟨cls, dd, data, sl⟩, ho, hc, n, hd⟩, hs⟩ := I.tuple hT
  simp only at hc hd
  subst hc hd
  have hi : its.toArray.isEmpty = false := by
    cases r with
    | cons a b => rfl
  have c1 : (its.toArray.isEmpty || (0 : Int) == 1) = false := by rw [hi]; rfl
  refine wpAny_binaryOp_repeat_ref (T := "tuple") (U := "int") (by decide) ⟨_, ho, rfl⟩ (fun s' => typeIs_int s' 0 t) noFill_tuple_mul F.fills_int_mul F.slot_int_rmul repeat_tuple F.slot_int_index.lookup
    (call_meets F.slot_int_rmul (typeIs_int s 0 t) F.entry_int_rmul (F.args_int_rmul_2 _ _) (int_rmul_tuple 0 t l its.toArray n dd sl)
      ⟨ho, rfl, ⟨_, ho, rfl⟩, call_meets F.slot_tuple_mul ⟨_, ho, rfl⟩ F.entry_tuple_mul (F.args_tuple_mul_2 _ _) (tuple_mul0 l its.toArray n dd sl t c1) ⟨ho, ?_⟩⟩)
  refine ⟨.ref s.heap.objs.size, _, I.laid (t' := s.toks) (o := .tup []) (fun b ob q => Heap.get?_push_of_some _ q) (Nat.le_refl _) ?_, rfl, q _ (I.hok.fresh (Nat.le_refl _))⟩
  exact ⟨Nat.zero_le _, _, .nil, IsTup.new _ _⟩
/-- a text of one sign, a few times -/
theorem op_mulS : OpR X (binaryOp .Mult) (fun x y H Q => ∃ k : Int, x = .str "1" ∧ y = .int k ∧ 1 ≤ k ∧ k ≤ 5 ∧ ∀ z, Q (.str z) H) := by
  intro pins s σ H x y v u Q I rx ry h
  obtain ⟨k, rfl, rfl, k1, k4, q⟩ := h
  obtain ⟨t, rfl⟩ := rx
  obtain ⟨t', rfl⟩ := ry
  have I2 : Inv X pins σ H { s with heap := s.heap, toks := s.toks + 1 } := I.kept fun _ _ e => e
  have : k = 1 ∨ k = 2 ∨ k = 3 ∨ k = 4 ∨ k = 5 := by omega
  rcases this with e | e | e | e | e <;> subst e
  · refine PySem.P.mul_str (by decide) (fun _ _ => by decide) (fun _ _ => by decide) ?_
    rw [if_neg (by decide), if_pos (by decide)]
    exact ⟨.str _, H, I, ⟨t, rfl⟩, q _⟩
  all_goals
    refine PySem.P.mul_str (by decide) (fun _ _ => by decide) (fun _ _ => by decide) ?_
    rw [if_neg (by decide), if_neg (by decide)]
    exact ⟨by decide, .str _, H, I2, ⟨_, rfl⟩, q _⟩
end
end L2
namespace FR
open PySem PySem.Spec PyProof.Rows L2 LD RF
def rRepX (K : PySem.W.Frag) : R2 := fun x y H Q => (∃ l x0 xs, x = .ref l ∧ y = .int 0 ∧ SqT K H l (x0 :: xs) ∧ ∀ p, H p = none → Q (.ref p) (upd H p (.tup []))) ∨ rRepA K x y H Q
theorem op_repX {X : Cx} : OpR X (binaryOp .Mult) (rRepX X.K) := opr_or op_rep0T op_repA
theorem repX_any {K : PySem.W.Frag} {H : Hp} {l : Addr} {x : V} {n : Nat} {Q : VK} (h : H l = some (.tup [x])) (n9 : n ≤ 1000) (q : ∀ p H', Same H H' → H' p = some (.tup (List.replicate n x)) → Q (.ref p) H') : rRepX K (.ref l) (.int (n : Nat)) H Q := by
  by_cases e : n = 0
  · subst e
    exact .inl ⟨l, x, [], rfl, rfl, SqT.of h, fun p hp => q p _ (same_new hp) upd_same⟩
  · exact .inr (repA_any h (by omega) n9 q)
theorem catX_any {K : PySem.W.Frag} {H : Hp} {a b : Addr} {xs ys : List V} {Q : VK} (h : H a = some (.tup xs)) (g : H b = some (.tup ys)) (l : xs.length + ys.length ≤ 1000) (ny : ys ≠ []) (q : ∀ p H', Same H H' → H' p = some (.tup (xs ++ ys)) → Q (.ref p) H') : rCatA K (.ref a) (.ref b) H Q :=
  ⟨a, b, xs, ys, rfl, rfl, SqT.of h, SqT.of g, Nat.le_of_lt (small1000 l), fun e => q b H (Same.refl H) (by rw [e]; exact g), fun _ e => (ny e).elim, fun _ _ p hp => q p _ (same_new hp) upd_same⟩
end FR
set_option Elab.async false
set_option linter.all false
set_option maxRecDepth 100000
set_option maxHeartbeats 4000000
/-! odd values: what they are, and what stays of them -/
namespace FR
open PySem PySem.Spec PyProof.Rows L2 LD RF CN LK LamX NdefX RZ
/-- lists stay lists, tables aside all else stays -/
structure Ko (H H' : Hp) : Prop where
  l : ∀ a xs, H a = some (.lst xs) → ∃ ys, H' a = some (.lst ys)
  o : ∀ a o, H a = some o → (∀ xs, o ≠ .lst xs) → (∀ ps, o ≠ .tbl ps) → H' a = some o
theorem Ko.ext {H H' : Hp} (e : ExtN H H') : Ko H H' := ⟨fun a xs h => ⟨xs, exn_lst e h⟩, fun a o h _ z => e a o h z⟩
theorem Ko.same {H H' : Hp} (s : Same H H') : Ko H H' := Ko.ext (ExtN.of s)
theorem Ko.refl (H : Hp) : Ko H H := Ko.ext (ExtN.refl H)
theorem Ko.trans {H H1 H2 : Hp} (a : Ko H H1) (b : Ko H1 H2) : Ko H H2 := ⟨fun q xs h => by
  obtain ⟨ys, h1⟩ := a.l q xs h
  exact b.l q ys h1, fun q o h y z => b.o q o (a.o q o h y z) y z⟩
theorem Ko.upd {H : Hp} {l : Addr} {xs ys : List V} (h : H l = some (.lst xs)) : Ko H (L2.upd H l (.lst ys)) := ⟨fun a zs e => by
  by_cases q : a = l
  · rw [q]; exact ⟨ys, upd_same⟩
  · rw [upd_ne q]; exact ⟨zs, e⟩, fun a o e y _ => by
  rw [upd_ne (fun z => by rw [z, h] at e; cases e; exact y xs rfl)]; exact e⟩
theorem Ko.rl {d : Addr} {H H' : Hp} (hd : DiceAt H d) (r : Rl d H H') : Ko H H' := by
  obtain ⟨x, y, z, hd⟩ := hd
  obtain ⟨⟨x', y', z', hd'⟩, k⟩ := r
  exact ⟨fun a xs e => by
    by_cases q : a = d
    · rw [q]; exact ⟨_, hd'⟩
    · exact ⟨xs, k a _ q e⟩, fun a o e n _ => k a o (fun q => by rw [q, hd] at e; cases e; exact n _ rfl) e⟩
section
variable {K : PySem.W.Frag} {C : Addr} {H H' : Hp} {v : V}
theorem Ko.tup (k : Ko H H') {a : Addr} {xs : List V} (h : H a = some (.tup xs)) : H' a = some (.tup xs) := k.o a _ h (fun _ z => by cases z) fun _ z => by cases z
theorem Ko.odd (k : Ko H H') {T : String} (o : Odd K H v T) : Odd K H' v T := by
  cases o with
  | non => exact .non
  | bl b => exact .bl b
  | int i => exact .int i
  | str x => exact .str x
  | lst e =>
    obtain ⟨ys, h⟩ := k.l _ _ e
    exact .lst h
  | tup e => exact .tup (k.tup e)
  | dK e => exact .dK (k.o _ _ e (fun _ z => by cases z) fun _ z => by cases z)
theorem Ko.fr (k : Ko H H') {p : Addr} {t b : Int} (h : FrAt C H p t b) : FrAt C H' p t b := by
  obtain ⟨dx, h⟩ := h
  exact ⟨dx, k.o _ _ h (fun _ z => by cases z) fun _ z => by cases z⟩
theorem Ko.isFr (k : Ko H H') {r : Bool} (h : IsFr K C H v r) : IsFr K C H' v r := by
  rcases h with ⟨q, t, b, e, f, er⟩ | h | ⟨T, o, hT, er⟩
  · exact .inl ⟨q, t, b, e, k.fr f, er⟩
  · exact .inr (.inl h)
  · exact .inr (.inr ⟨T, k.odd o, hT, er⟩)
end
section
variable (K : PySem.W.Frag) (C : Addr)
/-- what may stand first in a pair that tells nothing -/
def Hd (H : Hp) (v : V) : Prop := (∃ T, Odd K H v T ∧ T ≠ "str") ∨ v = .str "1"
/-- an entry: r where it is a fraction -/
def En (r : Bool) (H : Hp) (v : V) : Prop := IsFr K C H v r ∧ Hd K H v
/-- a tuple of entries -/
def TE1 (rs : List Bool) (H : Hp) (v : V) : Prop := ∃ a xs, v = .ref a ∧ H a = some (.tup xs) ∧ AG (fun v r => En K C r H v) xs rs
/-- a row, or none -/
def Rw (z : Bool × Nat) (H : Hp) (v : V) : Prop := (∃ T, Odd K H v T ∧ T ≠ "tuple" ∧ T ≠ "str" ∧ z = (false, 0)) ∨ ∃ rs, TE1 K C rs H v ∧ rs.length ≤ 90 ∧ z = (rs.all id, rs.length)
def TR (zs : List (Bool × Nat)) (H : Hp) (v : V) : Prop := ∃ a xs, v = .ref a ∧ H a = some (.tup xs) ∧ AG (fun v z => Rw K C z H v) xs zs
/-- no column of m fractions -/
def OdN (m : Nat) (H : Hp) (v : V) : Prop := NotTup K C H v ∨ ∃ rs, TE1 K C rs H v ∧ rs.length ≤ 90 ∧ (rs.all id = true → rs.length ≠ m)
/-- no rows -/
def OdR (H : Hp) (v : V) : Prop := NotTup K C H v ∨ ∃ zs, TR K C zs H v ∧ rowsB zs = false
end
section
variable {K : PySem.W.Frag} {C : Addr} {H H' : Hp} {v : V}
theorem Ko.notTup (k : Ko H H') (h : NotTup K C H v) : NotTup K C H' v := by
  rcases h with ⟨T, o, hT⟩ | ⟨q, t, b, e, f⟩
  · exact .inl ⟨T, k.odd o, hT⟩
  · exact .inr ⟨q, t, b, e, k.fr f⟩
theorem Ko.hd (k : Ko H H') (h : Hd K H v) : Hd K H' v := h.imp (fun ⟨T, o, z⟩ => ⟨T, k.odd o, z⟩) id
theorem Ko.en (k : Ko H H') {r : Bool} (h : En K C r H v) : En K C r H' v := ⟨k.isFr h.1, k.hd h.2⟩
theorem Ko.te1 (k : Ko H H') {rs : List Bool} (h : TE1 K C rs H v) : TE1 K C rs H' v := by
  obtain ⟨a, xs, e, ha, z⟩ := h
  exact ⟨a, xs, e, k.tup ha, z.imp fun _ _ y => k.en y⟩
theorem Ko.rw (k : Ko H H') {z : Bool × Nat} (h : Rw K C z H v) : Rw K C z H' v := by
  rcases h with ⟨T, o, h⟩ | ⟨rs, t, h⟩
  · exact .inl ⟨T, k.odd o, h⟩
  · exact .inr ⟨rs, k.te1 t, h⟩
theorem Ko.tr (k : Ko H H') {zs : List (Bool × Nat)} (h : TR K C zs H v) : TR K C zs H' v := by
  obtain ⟨a, xs, e, ha, z⟩ := h
  exact ⟨a, xs, e, k.tup ha, z.imp fun _ _ y => k.rw y⟩
theorem Ko.odN (k : Ko H H') {m : Nat} (h : OdN K C m H v) : OdN K C m H' v := by
  rcases h with h | ⟨rs, t, h⟩
  · exact .inl (k.notTup h)
  · exact .inr ⟨rs, k.te1 t, h⟩
theorem Ko.odR (k : Ko H H') (h : OdR K C H v) : OdR K C H' v := by
  rcases h with h | ⟨zs, t, h⟩
  · exact .inl (k.notTup h)
  · exact .inr ⟨zs, k.tr t, h⟩
/-! ### what follows -/
theorem TE1.nums {rs : List Bool} (h : TE1 K C rs H v) (l : rs.length ≤ 90) : NumsR K C H v (rs.all id) ∧ ∃ a ys, v = .ref a ∧ H a = some (.tup ys) ∧ ys.length = rs.length := by
  obtain ⟨a, xs, e, ha, z⟩ := h
  have hl := z.1
  exact ⟨.inr ⟨a, xs, rs, e, ha, by omega, hl, fun i y hy => (z.2 i y hy).imp fun q ⟨a, b⟩ => ⟨a, b.1⟩, rfl⟩, a, xs, e, ha, hl⟩
theorem Rw.x {z : Bool × Nat} (h : Rw K C z H v) : RwX K C H v z := by
  rcases h with ⟨T, o, h1, _, rfl⟩ | ⟨rs, t, l, rfl⟩
  · exact ⟨.inl ⟨.inl ⟨T, o, h1⟩, rfl⟩, fun z => nomatch z⟩
  · exact ⟨(t.nums l).1, fun _ => (t.nums l).2⟩
theorem OdN.rw {m : Nat} (h : OdN K C m H v) : ∃ z, RwX K C H v z ∧ (z.1 = true → z.2 ≠ m) := by
  rcases h with h | ⟨rs, t, l, ne⟩
  · exact ⟨(false, 0), ⟨.inl ⟨h, rfl⟩, fun z => nomatch z⟩, fun z => nomatch z⟩
  · exact ⟨(rs.all id, rs.length), ⟨(t.nums l).1, fun _ => (t.nums l).2⟩, ne⟩
theorem told_tup {a : Addr} {xs : List V} (ha : H a = some (.tup xs)) (h : ∀ x ∈ xs, Hd K H x) {z : Str} (hz : z ≠ "1") (k : Nat) : ToldR K C H (.ref a) z k false := by
  match xs, ha, h with
  | [x, y], ha, h =>
    rcases h x List.mem_cons_self with ⟨T, o, hT⟩ | e
    · exact .inr (.inr (.inl ⟨a, x, y, T, rfl, ha, o, hT, rfl⟩))
    · subst e
      exact .inr (.inr (.inr (.inl ⟨a, "1", y, rfl, ha, fun e => hz e.symm, rfl⟩)))
  | [], ha, _ => exact .inr (.inl ⟨a, _, rfl, ha, by decide, rfl⟩)
  | [x], ha, _ => exact .inr (.inl ⟨a, _, rfl, ha, fun e => by simp at e, rfl⟩)
  | x :: y :: w :: r, ha, _ => exact .inr (.inl ⟨a, _, rfl, ha, fun e => by simp at e, rfl⟩)
theorem AG.memL {α : Type} {R : V → α → Prop} {vs : List V} {as : List α} (h : AG R vs as) {x : V} (m : x ∈ vs) : ∃ y, R x y := by
  obtain ⟨i, hi⟩ := List.mem_iff_getElem?.mp m
  obtain ⟨y, _, r⟩ := h.2 i x hi
  exact ⟨y, r⟩
theorem OdN.told {m : Nat} (h : OdN K C m H v) {z : Str} (hz : z ≠ "1") (k : Nat) : ToldR K C H v z k false := by
  rcases h with h | ⟨rs, ⟨a, xs, rfl, ha, g⟩, _⟩
  · exact .inl ⟨h, rfl⟩
  · exact told_tup ha (fun x m => by
      obtain ⟨r, e⟩ := g.memL m
      exact e.2) hz k
theorem Rw.hd {z : Bool × Nat} (h : Rw K C z H v) : ∃ T, Odd K H v T ∧ T ≠ "str" := by
  rcases h with ⟨T, o, _, h2, _⟩ | ⟨rs, ⟨a, xs, rfl, ha, _⟩, _⟩
  · exact ⟨T, o, h2⟩
  · exact ⟨_, .tup ha, by decide⟩
theorem OdR.told (h : OdR K C H v) (z : Str) (k : Nat) : ToldR K C H v z k false := by
  rcases h with h | ⟨zs, ⟨a, xs, rfl, ha, g⟩, _⟩
  · exact .inl ⟨h, rfl⟩
  · match xs, ha, g with
    | [x, y], ha, g =>
      obtain ⟨w, r⟩ := g.memL (x := x) List.mem_cons_self
      obtain ⟨T, o, hT⟩ := r.hd
      exact .inr (.inr (.inl ⟨a, x, y, T, rfl, ha, o, hT, rfl⟩))
    | [], ha, _ => exact .inr (.inl ⟨a, _, rfl, ha, by decide, rfl⟩)
    | [x], ha, _ => exact .inr (.inl ⟨a, _, rfl, ha, fun e => by simp at e, rfl⟩)
    | x :: y :: w :: r, ha, _ => exact .inr (.inl ⟨a, _, rfl, ha, fun e => by simp at e, rfl⟩)
theorem OdR.rs (h : OdR K C H v) : RsX K C H v := by
  rcases h with h | ⟨zs, ⟨a, xs, rfl, ha, g⟩, b⟩
  · exact .inl h
  · exact .inr ⟨a, xs, zs, rfl, ha, g.imp fun _ _ r => r.x, b⟩
end
/-! ### expressions -/
def EvS (R : Hp → V → Prop) (te : TE) (σ : L2.St) : Prop := ∀ H Q, (∀ v H', Same H H' → R H' v → Q v H') → te σ H Q
def EvSL (R : Hp → List V → Prop) (ta : L2.TA) (σ : L2.St) : Prop := ∀ H (Q : List V → Hp → Prop), (∀ vs H', Same H H' → R H' vs → Q vs H') → ta σ H Q
/-- kept by what keeps -/
def Mk0 (R : Hp → V → Prop) : Prop := ∀ H H' v, Ko H H' → R H v → R H' v
def RsA {α : Type} (R : α → Hp → V → Prop) (as : List α) (H : Hp) (vs : List V) : Prop := AG (fun v a => R a H v) vs as
section
variable {K : PySem.W.Frag} {C : Addr} {σ : L2.St}
theorem mk_en (r : Bool) : Mk0 (En K C r) := fun _ _ _ k h => k.en h
theorem mk_rw (z : Bool × Nat) : Mk0 (Rw K C z) := fun _ _ _ k h => k.rw h
theorem mk_n (m : Nat) : Mk0 (OdN K C m) := fun _ _ _ k h => k.odN h
theorem mk_r : Mk0 (OdR K C) := fun _ _ _ k h => k.odR h
theorem es_to {R R' : Hp → V → Prop} {te : TE} (h : EvS R te σ) (i : ∀ H v, R H v → R' H v) : EvS R' te σ := fun H Q q => h H _ fun v H1 e1 r => q v H1 e1 (i _ _ r)
theorem es_c {R : Hp → V → Prop} {v : V} (r : ∀ H, R H v) : EvS R (tC v) σ := fun H Q q => q v H (Same.refl H) (r H)
theorem AG.consA {β : Type} {R : V → β → Prop} {x : V} {y : β} {xs : List V} {ys : List β} (h : R x y) (g : AG R xs ys) : AG R (x :: xs) (y :: ys) := by
  refine ⟨by rw [List.length_cons, List.length_cons, g.1], fun i v hv => ?_⟩
  match i, hv with
  | 0, hv => cases hv; exact ⟨y, rfl, h⟩
  | i + 1, hv => exact g.2 i v hv
theorem el_nil {α : Type} {R : α → Hp → V → Prop} : EvSL (RsA R []) tNil σ := fun H Q q => q [] H (Same.refl H) AG.nil
theorem el_cons {α : Type} {R : α → Hp → V → Prop} {a : α} {as : List α} {te : TE} {ta : L2.TA} (mk : Mk0 (R a)) (h : EvS (R a) te σ) (g : EvSL (RsA R as) ta σ) : EvSL (RsA R (a :: as)) (tCons te ta) σ := fun H Q q =>
  h H _ fun v H1 e1 r1 => g H1 _ fun vs H2 e2 r2 => q _ H2 (e1.trans e2) (AG.consA (mk _ _ _ (Ko.same e2) r1) r2)
/-- a tuple of such -/
theorem es_tup {α : Type} {R : α → Hp → V → Prop} (mk : ∀ a, Mk0 (R a)) {as : List α} {ta : L2.TA} (l : as.length ≤ 1000) (g : EvSL (RsA R as) ta σ) : EvS (fun H v => ∃ a xs, v = .ref a ∧ H a = some (.tup xs) ∧ RsA R as H xs) (tTup ta) σ := fun H Q q =>
  g H _ fun vs H1 e1 r1 => ⟨Nat.le_of_lt (small1000 (by rw [r1.1]; exact l)), fun p hp => by
    have s := same_new (o := .tup vs) hp
    exact q _ _ (e1.trans s) ⟨p, vs, rfl, upd_same, AG.imp r1 fun v a z => mk a _ _ _ (Ko.same s) z⟩⟩
theorem es_lst {α : Type} {R : α → Hp → V → Prop} (mk : ∀ a, Mk0 (R a)) {as : List α} {ta : L2.TA} (l : as.length ≤ 1000) (g : EvSL (RsA R as) ta σ) : EvS (fun H v => ∃ a xs, v = .ref a ∧ H a = some (.lst xs) ∧ RsA R as H xs) (tLst ta) σ := fun H Q q =>
  g H _ fun vs H1 e1 r1 => ⟨Nat.le_of_lt (small1000 (by rw [r1.1]; exact l)), fun p hp => by
    have s := same_new (o := .lst vs) hp
    exact q _ _ (e1.trans s) ⟨p, vs, rfl, upd_same, AG.imp r1 fun v a z => mk a _ _ _ (Ko.same s) z⟩⟩
/-- a tuple of one, so many times -/
theorem es_rep {R : Hp → V → Prop} (mk : Mk0 R) {te tk : TE} {n : Nat} (n9 : n ≤ 1000) (h : EvS R te σ) (g : EvS (fun _ v => v = .int (n : Nat)) tk σ) : EvS (fun H v => ∃ a xs, v = .ref a ∧ H a = some (.tup xs) ∧ AG (fun v (_ : Nat) => R H v) xs (List.range n)) (tOp (rRepX K) (tTup (tCons te tNil)) tk) σ := fun H Q q =>
  h H _ fun x H1 e1 r1 => ⟨small1000 (Nat.le_of_ble_eq_true rfl), fun p hp => by
    have s := same_new (o := .tup [x]) hp
    refine g _ _ fun k H2 e2 r2 => ?_
    subst r2
    refine repX_any (e2 _ _ upd_same) n9 fun p2 H3 e3 h3 => q _ _ (((e1.trans s).trans e2).trans e3) ⟨p2, _, rfl, h3, ?_⟩
    refine ⟨by rw [List.length_replicate, List.length_range], fun i v hv => ?_⟩
    rw [List.getElem?_replicate] at hv
    split at hv
    · next y =>
      cases hv
      exact ⟨i, List.getElem?_range y, mk _ _ _ (Ko.same ((s.trans e2).trans e3)) r1⟩
    · cases hv⟩
theorem ag_rep {α : Type} {R : α → Hp → V → Prop} {a : α} {H : Hp} {xs : List V} {n : Nat} (h : AG (fun v (_ : Nat) => R a H v) xs (List.range n)) : RsA R (List.replicate n a) H xs := by
  have l := h.1
  rw [List.length_range] at l
  refine ⟨by rw [l, List.length_replicate], fun i v hv => ?_⟩
  obtain ⟨_, _, r⟩ := h.2 i v hv
  have il := (List.getElem?_eq_some_iff.mp hv).1
  exact ⟨a, by rw [List.getElem?_replicate, if_pos (by omega)], r⟩
theorem es_repA {α : Type} {R : α → Hp → V → Prop} {a : α} (mk : Mk0 (R a)) {te tk : TE} {n : Nat} (n9 : n ≤ 1000) (h : EvS (R a) te σ) (g : EvS (fun _ v => v = .int (n : Nat)) tk σ) : EvS (fun H v => ∃ p xs, v = .ref p ∧ H p = some (.tup xs) ∧ RsA R (List.replicate n a) H xs) (tOp (rRepX K) (tTup (tCons te tNil)) tk) σ :=
  es_to (es_rep mk n9 h g) fun H v ⟨p, xs, e, hp, z⟩ => ⟨p, xs, e, hp, ag_rep z⟩
theorem AG.app {α : Type} {R : V → α → Prop} : ∀ {xs ys : List V} {as bs : List α}, AG R xs as → AG R ys bs → AG R (xs ++ ys) (as ++ bs)
  | [], ys, [], bs, _, g => g
  | [], _, _ :: _, _, h, _ => by simp [AG] at h
  | _ :: _, _, [], _, h, _ => by simp [AG] at h
  | x :: xs, ys, a :: as, bs, h, g => by
    obtain ⟨r, h⟩ := AG.uncons h
    exact AG.consA r (AG.app h g)
theorem es_catA {α : Type} {R : α → Hp → V → Prop} (mk : ∀ a, Mk0 (R a)) {as bs : List α} {t1 t2 : TE} (l : as.length + bs.length ≤ 1000) (nb : bs ≠ []) (h : EvS (fun H v => ∃ p xs, v = .ref p ∧ H p = some (.tup xs) ∧ RsA R as H xs) t1 σ) (g : EvS (fun H v => ∃ p xs, v = .ref p ∧ H p = some (.tup xs) ∧ RsA R bs H xs) t2 σ) :
    EvS (fun H v => ∃ p xs, v = .ref p ∧ H p = some (.tup xs) ∧ RsA R (as ++ bs) H xs) (tOp (rCatA K) t1 t2) σ := fun H Q q =>
  h H _ fun v1 H1 e1 ⟨p1, xs, ev1, h1, z1⟩ => g H1 _ fun v2 H2 e2 ⟨p2, ys, ev2, h2, z2⟩ => by
    subst ev1 ev2
    refine catX_any (e2 _ _ h1) h2 (by rw [z1.1, z2.1]; exact l) (fun e => nb (List.eq_nil_of_length_eq_zero (by rw [← z2.1, e]; rfl))) fun p H3 e3 h3 => q _ _ ((e1.trans e2).trans e3) ⟨p, _, rfl, h3, ?_⟩
    exact AG.app (AG.imp z1 fun v a r => mk a _ _ _ (Ko.same (e2.trans e3)) r) (AG.imp z2 fun v a r => mk a _ _ _ (Ko.same e3) r)
/-! the entries -/
theorem en_int (i : Int) : EvS (En K C true) (tC (.int i)) σ := es_c fun H => ⟨.inr (.inl ⟨i, rfl, rfl⟩), .inl ⟨_, .int i, by decide⟩⟩
theorem en_non : EvS (En K C false) (tC .non) σ := es_c fun H => ⟨.inr (.inr ⟨_, .non, by decide, rfl⟩), .inl ⟨_, .non, by decide⟩⟩
theorem en_bl (b : Bool) : EvS (En K C false) (tC (.bl b)) σ := es_c fun H => ⟨.inr (.inr ⟨_, .bl b, by decide, rfl⟩), .inl ⟨_, .bl b, by decide⟩⟩
theorem en_one : EvS (En K C false) (tC (.str "1")) σ := es_c fun H => ⟨.inr (.inr ⟨_, .str _, by decide, rfl⟩), .inr rfl⟩
theorem en_dct : EvS (En K C false) tDNewK σ := fun H Q q p hp => q _ _ (same_new hp) ⟨.inr (.inr ⟨_, .dK upd_same, by decide, rfl⟩), .inl ⟨_, .dK upd_same, by decide⟩⟩
theorem en_lst0 : EvS (En K C false) (tLst tNil) σ := fun H Q q => ⟨Nat.zero_le _, fun p hp => q _ _ (same_new hp) ⟨.inr (.inr ⟨_, .lst upd_same, by decide, rfl⟩), .inl ⟨_, .lst upd_same, by decide⟩⟩⟩
theorem en_tup {te : TE} {R : Hp → List V → Prop} (h : EvS (fun H v => ∃ p xs, v = .ref p ∧ H p = some (.tup xs) ∧ R H xs) te σ) : EvS (En K C false) te σ := es_to h fun H v ⟨p, xs, e, hp, _⟩ => by
  subst e
  exact ⟨.inr (.inr ⟨_, .tup hp, by decide, rfl⟩), .inl ⟨_, .tup hp, by decide⟩⟩
/-! rows -/
abbrev PT {α : Type} (R : α → Hp → V → Prop) (as : List α) (H : Hp) (v : V) : Prop := ∃ p xs, v = .ref p ∧ H p = some (.tup xs) ∧ RsA R as H xs
theorem rw_te {rs : List Bool} {te : TE} (l : rs.length ≤ 90) (h : EvS (PT (En K C) rs) te σ) : EvS (Rw K C (rs.all id, rs.length)) te σ := es_to h fun H v t => .inr ⟨rs, t, l, rfl⟩
theorem rw_int (i : Int) : EvS (Rw K C (false, 0)) (tC (.int i)) σ := es_c fun H => .inl ⟨_, .int i, by decide, by decide, rfl⟩
theorem rw_non : EvS (Rw K C (false, 0)) (tC .non) σ := es_c fun H => .inl ⟨_, .non, by decide, by decide, rfl⟩
theorem rw_lst {ta : L2.TA} {as : List Bool} (l : as.length ≤ 1000) (g : EvSL (RsA (En K C) as) ta σ) : EvS (Rw K C (false, 0)) (tLst ta) σ := es_to (es_lst mk_en l g) fun H v ⟨p, xs, e, hp, _⟩ => by
  subst e
  exact .inl ⟨_, .lst hp, by decide, by decide, rfl⟩
/-! odd values -/
theorem or_tr {zs : List (Bool × Nat)} {te : TE} (b : rowsB zs = false) (h : EvS (PT (Rw K C) zs) te σ) : EvS (OdR K C) te σ := es_to h fun H v t => .inr ⟨zs, t, b⟩
theorem on_te {rs : List Bool} {te : TE} {m : Nat} (l : rs.length ≤ 90) (b : rs.all id = true → rs.length ≠ m) (h : EvS (PT (En K C) rs) te σ) : EvS (OdN K C m) te σ := es_to h fun H v t => .inr ⟨rs, t, l, b⟩
/-- no tuple -/
theorem nt_c {v : V} {T : String} (o : ∀ H, Odd K H v T) (hT : T ≠ "tuple") : EvS (NotTup K C) (tC v) σ := es_c fun H => .inl ⟨T, o H, hT⟩
theorem nt_lst {α : Type} {R : α → Hp → V → Prop} (mk : ∀ a, Mk0 (R a)) {ta : L2.TA} {as : List α} (l : as.length ≤ 1000) (g : EvSL (RsA R as) ta σ) : EvS (NotTup K C) (tLst ta) σ := es_to (es_lst mk l g) fun H v ⟨p, xs, e, hp, _⟩ => by
  subst e
  exact .inl ⟨_, .lst hp, by decide⟩
theorem nt_dct : EvS (NotTup K C) tDNewK σ := fun H Q q p hp => q _ _ (same_new hp) (.inl ⟨_, .dK upd_same, by decide⟩)
theorem nt_fr {t b : Int} (b0 : b ≠ 0) (bz : (dv t b).natAbs < 2 ^ 8000) : EvS (NotTup K C) (tMake C (spInit C) [] E0 (tCons (tC (.int t)) (tCons (tC (.int b)) tNil))) σ := fun H Q q x dx nx nd ne =>
  ⟨x, dx, t, b, rfl, upd_same, b0, bz, fun H' hf hs => ⟨rfl, q _ _ (same_make (C := C) nx nd hs) (.inr ⟨x, _, _, rfl, hf⟩)⟩⟩
theorem or_nt {te : TE} (h : EvS (NotTup K C) te σ) : EvS (OdR K C) te σ := es_to h fun H v t => .inl t
theorem on_nt {te : TE} {m : Nat} (h : EvS (NotTup K C) te σ) : EvS (OdN K C m) te σ := es_to h fun H v t => .inl t
end
end FR
set_option Elab.async false
set_option linter.all false
set_option maxRecDepth 100000
set_option maxHeartbeats 4000000
/-! _law_odd_numbers, _law_odd_rows -/
namespace FR
open PySem PySem.Spec PyProof.Rows L2 LD RF CN LK LamX NdefX RZ
section
variable {P : Program} {w : World} {K : PySem.W.Frag} {mg : Str → Option Value} {base : Heap} {C fI pT gT pB gB : Addr} {fdI fdT fdB : FuncData}
theorem op_varL {r : R2} {i : Nat} {te : TE} {σ : L2.St} {H : Hp} {Q : VK} {v : V} (h : σ[i]? = some (some v)) (k : te σ H fun y H2 => r v y H2 Q) : tOp r (tVar i) te σ H Q := ⟨v, h, k⟩
theorem bm_app {K : PySem.W.Frag} {i : Nat} {te : TE} {σ : L2.St} {H : Hp} {Q : VK} {l : Addr} {xs : List V} (h : σ[i]? = some (some (.ref l))) (hl : H l = some (.lst xs)) (k : te σ H fun y H1 => rAppend (.ref l) [y] H1 Q) : tBM K "list" rAppend (tVar i) (tCons te tNil) σ H Q := ⟨_, h, .inl ⟨rfl, _, SqL.of hl⟩, k⟩
theorem on_repl {m n : Nat} {te : TE} {σ : L2.St} (n9 : n ≤ 900) (g : EvS (fun _ v => v = .int (n : Nat)) te σ) : EvS (OdN K C m) (tOp rRep (tLst (tCons (tC (.int 1)) tNil)) te) σ := fun H Q q =>
  ⟨small1000 (Nat.le_of_ble_eq_true rfl), fun p hp => by
    have s := same_new (o := .lst [V.int 1]) hp
    refine g _ _ fun k H2 e2 r2 => ?_
    subst r2
    refine ⟨p, n, _, rfl, rfl, e2 _ _ upd_same, by omega, by omega, Nat.le_of_lt (small1000 (by show 1 * _ ≤ 1000; omega)), fun p2 hp2 => q _ _ ((s.trans e2).trans (same_new hp2)) (.inl (.inl ⟨_, .lst upd_same, by decide⟩))⟩⟩
theorem on_reps {m n : Nat} {te : TE} {σ : L2.St} (n1 : 1 ≤ n) (n4 : n ≤ 5) (g : EvS (fun _ v => v = .int (n : Nat)) te σ) : EvS (OdN K C m) (tOp (fun x y H Q => ∃ k : Int, x = .str "1" ∧ y = .int k ∧ 1 ≤ k ∧ k ≤ 5 ∧ ∀ z, Q (.str z) H) (tC (.str "1")) te) σ := fun H Q q =>
  g _ _ fun k H2 e2 r2 => ⟨(n : Nat), rfl, r2, by omega, by omega, fun z => q _ _ e2 (.inl (.inl ⟨_, .str z, by decide⟩))⟩
theorem dice_same {d : Addr} {H H' : Hp} (s : Same H H') (h : DiceAt H d) : DiceAt H' d := by
  obtain ⟨a, b, c, h⟩ := h
  exact ⟨a, b, c, s _ _ h⟩
abbrev sOn : Stmt := top 66
abbrev NOn : List Str := ["_law_dice_here", "_law_size", "_law_some"]
theorem scOn : FnScope NOn ["_law_dice_here", "_law_size"] (defScope sOn) := ⟨rfl, rfl, rfl, by decide +kernel, rfl, by decide +kernel, by decide +kernel⟩
def spOn (K : PySem.W.Frag) (C : Addr) : Sp := fun vs H Q _ => ∃ (d : Addr) (m : Nat), vs = [.ref d, .int (m : Nat)] ∧ DiceAt H d ∧ 1 ≤ m ∧ m ≤ 5 ∧ ∀ v H', OdN K C m H' v → Rl d H H' → Q v H'
theorem ok_On {f : Addr} {fd : FuncData} (F : Fun K "_law_odd_numbers" "_law_odd_numbers" sOn f fd) (k : FrK P w K mg base C fI pT gT pB gB fdI fdT fdB) (gO : Glo P w K mg base "_law_one_of" 2 ["_law_dice_here", "_law_items"] spOneOf) : FnOk P w K mg base CX0 4 f fd ["_law_dice_here", "_law_size"] (spOn K C) := by
  refine F.ok scOn (fun vs H Q E h => ?_) (fun cdv A outer s H vs Q E hr h => ?_)
  · obtain ⟨d, m, rfl, _⟩ := h
    rfl
  · obtain ⟨d, m, rfl, hd, m1, m4, q⟩ := h
    have hsz : ∀ {o : Option V}, EvS (fun _ v => v = .int (m : Nat)) (tVar 1) [some (.ref d), some (.int (m : Nat)), o] := fun {o} H Q q => ⟨_, rfl, q _ H (Same.refl H) rfl⟩
    have hpl : ∀ {o : Option V}, EvS (fun _ v => v = .int ((m + 1 : Nat) : Nat)) (tOp (rI0 fun i j => .int (i + j)) (tVar 1) (tC (.int 1))) [some (.ref d), some (.int (m : Nat)), o] := fun {o} H Q q => ⟨_, rfl, _, _, rfl, rfl, q _ H (Same.refl H) (by show V.int _ = V.int _; congr 1)⟩
    have hmi : ∀ {o : Option V}, EvS (fun _ v => v = .int ((m - 1 : Nat) : Nat)) (tOp (rI0 fun i j => .int (i - j)) (tVar 1) (tC (.int 1))) [some (.ref d), some (.int (m : Nat)), o] := fun {o} H Q q => ⟨_, rfl, _, _, rfl, rfl, q _ H (Same.refl H) (by show V.int _ = V.int _; congr 1; omega)⟩
    refine ⟨_, (pss_cons (ps_set (i := 2) scOn.nd rfl (Or.inl rfl) (pe_lst (pa_cons pe_non (pa_cons pe_bl (pa_cons pe_int (pa_cons pe_str (pa_cons (pe_tup pa_nil) (pa_cons (pe_lst pa_nil) (pa_cons pe_dnewK (pa_cons (pe_op op_rep (pe_lst (pa_cons pe_int pa_nil)) (pv 1)) (pa_cons (pe_op op_repX (pe_tup (pa_cons pe_int pa_nil)) (pe_op op_add (pv 1) pe_int)) (pa_cons (pe_op op_repX (pe_tup (pa_cons pe_int pa_nil)) (pe_op op_sub (pv 1) pe_int)) (pa_cons (pe_op op_repX (pe_tup (pa_cons pe_non pa_nil)) (pv 1)) pa_nil)))))))))))))
      (pss_cons (ps_set (i := 2) scOn.nd rfl (Or.inl rfl) (pe_op op_cat (pv 2) (pe_lst (pa_cons (pe_make k.M k.GI (hr.mono (by decide)) (by rfl) k.T.mC k.b2 .nil pass0 (pa_cons pe_int (pa_cons pe_int pa_nil))) (pa_cons (pe_op op_catA (pe_op op_repX (pe_tup (pa_cons pe_int pa_nil)) (pe_op op_sub (pv 1) pe_int)) (pe_tup (pa_cons pe_bl pa_nil))) (pa_cons (pe_op op_repX (pe_tup (pa_cons pe_str pa_nil)) (pv 1)) (pa_cons (pe_op op_repX (pe_tup (pa_cons (pe_tup (pa_cons pe_int pa_nil)) pa_nil)) (pv 1)) (pa_cons (pe_op op_mulS pe_str (pv 1)) pa_nil))))))))
      (pss_cons (ps_expr (pe_bm PySem.F.plainAttrs_list PySem.F.slot_list_append PySem.F.type_list_append mt_append (pv 2) (pa_cons (pe_op op_catA (pe_op op_repX (pe_tup (pa_cons pe_int pa_nil)) (pe_op op_sub (pv 1) pe_int)) (pe_tup (pa_cons (pe_lst pa_nil) pa_nil))) pa_nil)))
      (pss_one (ps_ret (pe_call gO.G (hr.mono (by decide)) (by rfl) gO.m gO.k gO.b .nil pass0 (pa_cons (pv 0) (pa_cons (pv 2) pa_nil)))))))), ?_⟩
    have hE1 : EvSL (RsA (fun _ : Unit => OdN K C m) (List.replicate 11 ())) _ [some (.ref d), some (.int (m : Nat)), none] := (el_cons (mk_n m) (on_nt (nt_c (v := .non) (fun _ => .non) (by decide))) (el_cons (mk_n m) (on_nt (nt_c (v := .bl true) (fun _ => .bl true) (by decide))) (el_cons (mk_n m) (on_nt (nt_c (v := .int 0) (fun _ => .int 0) (by decide))) (el_cons (mk_n m) (on_nt (nt_c (v := .str "") (fun _ => .str "") (by decide))) (el_cons (mk_n m) (on_te (rs := []) (by simp; try omega) (by simp; try omega) (es_tup mk_en (by decide) el_nil)) (el_cons (mk_n m) (on_nt (nt_lst (mk_en (K := K) (C := C)) (by decide) el_nil)) (el_cons (mk_n m) (on_nt nt_dct) (el_cons (mk_n m) (on_repl (by omega) hsz) (el_cons (mk_n m) (on_te (rs := List.replicate (m + 1) true) (by simp; try omega) (by simp; try omega) (es_repA (K := K) (R := En K C) (a := true) (n := (m + 1)) (mk_en _) (by omega) (en_int 1) hpl)) (el_cons (mk_n m) (on_te (rs := List.replicate (m - 1) true) (by simp; try omega) (by simp; try omega) (es_repA (K := K) (R := En K C) (a := true) (n := (m - 1)) (mk_en _) (by omega) (en_int 1) hmi)) (el_cons (mk_n m) (on_te (rs := List.replicate m false) (by simp; try omega) (by simp; try omega) (es_repA (K := K) (R := En K C) (a := false) (n := m) (mk_en _) (by omega) en_non hsz)) el_nil)))))))))))
    dsimp only [tSeq]
    dsimp only [tAsg]
    refine es_lst (fun _ => mk_n m) (by decide) hE1 H _ fun v1 H1 s1 ⟨l1, xs1, ev1, hl1, od1⟩ => ?_
    subst ev1
    have n1 : xs1.length = 11 := od1.1
    have hE2 : EvSL (RsA (fun _ : Unit => OdN K C m) (List.replicate 5 ())) _ [some (.ref d), some (.int (m : Nat)), some (.ref l1)] := (el_cons (mk_n m) (on_nt (nt_fr (t := 1) (b := 2) (by decide) (dv8 (by decide) (by decide)))) (el_cons (mk_n m) (on_te (rs := (List.replicate (m - 1) true ++ [false])) (by simp; try omega) (by simp; try omega) (es_catA (K := K) mk_en (by simp; try omega) (by simp) (es_repA (K := K) (R := En K C) (a := true) (n := (m - 1)) (mk_en _) (by omega) (en_int 1) hmi) (es_tup mk_en (by decide) (el_cons (mk_en _) (en_bl true) el_nil)))) (el_cons (mk_n m) (on_te (rs := List.replicate m false) (by simp; try omega) (by simp; try omega) (es_repA (K := K) (R := En K C) (a := false) (n := m) (mk_en _) (by omega) en_one hsz)) (el_cons (mk_n m) (on_te (rs := List.replicate m false) (by simp; try omega) (by simp; try omega) (es_repA (K := K) (R := En K C) (a := false) (n := m) (mk_en _) (by omega) (en_tup (es_tup (mk_en (K := K) (C := C)) (by decide) (el_cons (mk_en _) (en_int 1) el_nil))) hsz)) (el_cons (mk_n m) (on_reps m1 m4 hsz) el_nil)))))
    dsimp only [gName]
    dsimp only [tSeq]
    dsimp only [tAsg]
    refine op_varL rfl ?_
    refine es_lst (fun _ => mk_n m) (by decide) hE2 H1 _ fun v2 H2a s2a ⟨l2a, xs2a, ev2, hl2a, od2a⟩ => ?_
    subst ev2
    have n2a : xs2a.length = 5 := od2a.1
    refine ⟨l1, l2a, _, _, rfl, rfl, s2a _ _ hl1, hl2a, Nat.le_of_lt (small1000 (by omega)), fun l2 nl2 => ?_⟩
    have s2b := same_new (o := .lst (xs1 ++ xs2a)) nl2
    have hl2 : upd H2a l2 (.lst (xs1 ++ xs2a)) l2 = some (.lst (xs1 ++ xs2a)) := upd_same
    have od2 : RsA (fun _ : Unit => OdN K C m) _ (upd H2a l2 (.lst (xs1 ++ xs2a))) (xs1 ++ xs2a) := AG.app (AG.imp od1 fun v a r => mk_n m _ _ _ (Ko.same (s2a.trans s2b)) r) (AG.imp od2a fun v a r => mk_n m _ _ _ (Ko.same s2b) r)
    have n2 : (xs1 ++ xs2a).length = xs1.length + 5 := by rw [List.length_append, n2a]
    have s2 := s1.trans (s2a.trans s2b)
    generalize upd H2a l2 (.lst (xs1 ++ xs2a)) = H2 at *
    generalize xs1 ++ xs2a = xs2 at *
    have hE3 : EvS (OdN K C m) _ [some (.ref d), some (.int (m : Nat)), some (.ref l2)] := on_te (rs := (List.replicate (m - 1) true ++ [false])) (by simp; try omega) (by simp; try omega) (es_catA (K := K) mk_en (by simp; try omega) (by simp) (es_repA (K := K) (R := En K C) (a := true) (n := (m - 1)) (mk_en _) (by omega) (en_int 1) hmi) (es_tup mk_en (by decide) (el_cons (mk_en _) en_lst0 el_nil)))
    dsimp only [gName]
    dsimp only [tSeq]
    dsimp only [tDrop]
    refine bm_app rfl hl2 ?_
    refine hE3 H2 _ fun v3 H3a s3a r3 => ?_
    refine ⟨l2, _, _, rfl, rfl, s3a _ _ hl2, small1000 (by omega), ?_⟩
    have k3 : Ko H3a (upd H3a l2 (.lst (xs2 ++ [v3]))) := Ko.upd (s3a _ _ hl2)
    have hl3 : upd H3a l2 (.lst (xs2 ++ [v3])) l2 = some (.lst (xs2 ++ [v3])) := upd_same
    have od3 : RsA (fun _ : Unit => OdN K C m) _ (upd H3a l2 (.lst (xs2 ++ [v3]))) (xs2 ++ [v3]) := AG.app (bs := [()]) (AG.imp od2 fun v a r => mk_n m _ _ _ ((Ko.same s3a).trans k3) r) (AG.consA (mk_n m _ _ _ k3 r3) AG.nil)
    have n3 : (xs2 ++ [v3]).length = xs2.length + 1 := by rw [List.length_append]; rfl
    have nl : H l2 = none := Same.free (s1.trans (s2a)) nl2
    have s3 : Same H (upd H3a l2 (.lst (xs2 ++ [v3]))) := same_upd nl (s2.trans s3a)
    generalize upd H3a l2 (.lst (xs2 ++ [v3])) = H3 at *
    generalize xs2 ++ [v3] = xs3 at *
    have hd3 := dice_same s3 hd
    have ld : l2 ≠ d := fun z => by
      obtain ⟨q1, q2, q3, h9⟩ := hd
      have := (s1.trans s2a) _ _ h9
      rw [← z, nl2] at this
      cases this
    refine ⟨_, rfl, _, rfl, d, l2, xs3, rfl, hd3, hl3, ld, by omega, by omega, fun kk x q1 q2 q3 hx => ?_⟩
    obtain ⟨_, _, r⟩ := od3.2 kk x hx
    have rr : Rl d H3 (upd H3 d (.lst (dxs q1 q2 q3))) := (Rl.refl hd3).roll
    exact q _ _ ((mk_n m) _ _ _ (Ko.rl hd3 rr) r) (((Rl.refl hd).same s3).roll)
abbrev sOd : Stmt := top 67
abbrev NOd : List Str := ["_law_dice_here", "_law_some"]
theorem scOd : FnScope NOd ["_law_dice_here"] (defScope sOd) := ⟨rfl, rfl, rfl, by decide +kernel, rfl, by decide +kernel, by decide +kernel⟩
def spOd (K : PySem.W.Frag) (C : Addr) : Sp := fun vs H Q _ => ∃ (d : Addr), vs = [.ref d] ∧ DiceAt H d ∧ ∀ v H', OdR K C H' v → Rl d H H' → Q v H'
theorem ok_Od {f : Addr} {fd : FuncData} (F : Fun K "_law_odd_rows" "_law_odd_rows" sOd f fd) (k : FrK P w K mg base C fI pT gT pB gB fdI fdT fdB) (gO : Glo P w K mg base "_law_one_of" 2 ["_law_dice_here", "_law_items"] spOneOf) : FnOk P w K mg base CX0 4 f fd ["_law_dice_here"] (spOd K C) := by
  refine F.ok scOd (fun vs H Q E h => ?_) (fun cdv A outer s H vs Q E hr h => ?_)
  · obtain ⟨d, rfl, _⟩ := h
    rfl
  · obtain ⟨d, rfl, hd, q⟩ := h
    refine ⟨_, (pss_cons (ps_set (i := 1) scOd.nd rfl (Or.inl rfl) (pe_lst (pa_cons pe_non (pa_cons pe_bl (pa_cons pe_int (pa_cons pe_str (pa_cons (pe_tup pa_nil) (pa_cons (pe_lst pa_nil) (pa_cons pe_dnewK (pa_cons (pe_tup (pa_cons (pe_tup pa_nil) pa_nil)) (pa_cons (pe_tup (pa_cons (pe_lst (pa_cons pe_int pa_nil)) pa_nil)) (pa_cons (pe_lst (pa_cons (pe_tup (pa_cons pe_int pa_nil)) pa_nil)) (pa_cons (pe_tup (pa_cons (pe_tup (pa_cons pe_int pa_nil)) (pa_cons (pe_tup (pa_cons pe_int (pa_cons pe_int pa_nil))) pa_nil))) (pa_cons (pe_tup (pa_cons (pe_tup (pa_cons pe_int pa_nil)) (pa_cons (pe_tup pa_nil) pa_nil))) (pa_cons (pe_tup (pa_cons (pe_tup (pa_cons pe_int pa_nil)) (pa_cons pe_int pa_nil))) (pa_cons (pe_tup (pa_cons pe_int (pa_cons pe_int pa_nil))) pa_nil))))))))))))))))
      (pss_cons (ps_set (i := 1) scOd.nd rfl (Or.inl rfl) (pe_op op_cat (pv 1) (pe_lst (pa_cons (pe_tup (pa_cons (pe_tup (pa_cons pe_bl pa_nil)) pa_nil)) (pa_cons (pe_op op_repX (pe_tup (pa_cons (pe_tup (pa_cons pe_int pa_nil)) pa_nil)) pe_int) (pa_cons (pe_tup (pa_cons (pe_op op_repX (pe_tup (pa_cons pe_int pa_nil)) pe_int) pa_nil)) (pa_cons (pe_tup (pa_cons (pe_tup (pa_cons pe_int (pa_cons pe_non pa_nil))) pa_nil)) (pa_cons (pe_tup (pa_cons (pe_tup (pa_cons pe_str pa_nil)) pa_nil)) (pa_cons (pe_tup (pa_cons (pe_tup (pa_cons pe_int pa_nil)) (pa_cons (pe_lst (pa_cons pe_int pa_nil)) pa_nil))) (pa_cons (pe_tup (pa_cons (pe_tup (pa_cons pe_dnewK pa_nil)) pa_nil)) pa_nil))))))))))
      (pss_cons (ps_set (i := 1) scOd.nd rfl (Or.inl rfl) (pe_op op_cat (pv 1) (pe_lst (pa_cons (pe_make k.M k.GI (hr.mono (by decide)) (by rfl) k.T.mC k.b2 .nil pass0 (pa_cons pe_int (pa_cons pe_int pa_nil))) (pa_cons (pe_tup (pa_cons (pe_tup (pa_cons pe_int pa_nil)) (pa_cons pe_non pa_nil))) pa_nil)))))
      (pss_one (ps_ret (pe_call gO.G (hr.mono (by decide)) (by rfl) gO.m gO.k gO.b .nil pass0 (pa_cons (pv 0) (pa_cons (pv 1) pa_nil)))))))), ?_⟩
    have hE1 : EvSL (RsA (fun _ : Unit => OdR K C) (List.replicate 14 ())) _ [some (.ref d), none] := (el_cons (mk_r) (or_nt (nt_c (v := .non) (fun _ => .non) (by decide))) (el_cons (mk_r) (or_nt (nt_c (v := .bl true) (fun _ => .bl true) (by decide))) (el_cons (mk_r) (or_nt (nt_c (v := .int 0) (fun _ => .int 0) (by decide))) (el_cons (mk_r) (or_nt (nt_c (v := .str "") (fun _ => .str "") (by decide))) (el_cons (mk_r) (or_tr (zs := []) (by decide +kernel) (es_tup mk_rw (by decide) el_nil)) (el_cons (mk_r) (or_nt (nt_lst (mk_rw (K := K) (C := C)) (by decide) el_nil)) (el_cons (mk_r) (or_nt nt_dct) (el_cons (mk_r) (or_tr (zs := [(true, 0)]) (by decide +kernel) (es_tup mk_rw (by decide) (el_cons (mk_rw _) (rw_te (rs := []) (by decide) (es_tup mk_en (by decide) el_nil)) el_nil))) (el_cons (mk_r) (or_tr (zs := [(false, 0)]) (by decide +kernel) (es_tup mk_rw (by decide) (el_cons (mk_rw _) (rw_lst (K := K) (C := C) (by decide) (el_cons (mk_en _) (en_int 1) el_nil)) el_nil))) (el_cons (mk_r) (or_nt (nt_lst (mk_rw (K := K) (C := C)) (by decide) (el_cons (mk_rw _) (rw_te (rs := [true]) (by decide) (es_tup mk_en (by decide) (el_cons (mk_en _) (en_int 1) el_nil))) el_nil))) (el_cons (mk_r) (or_tr (zs := [(true, 1), (true, 2)]) (by decide +kernel) (es_tup mk_rw (by decide) (el_cons (mk_rw _) (rw_te (rs := [true]) (by decide) (es_tup mk_en (by decide) (el_cons (mk_en _) (en_int 1) el_nil))) (el_cons (mk_rw _) (rw_te (rs := [true, true]) (by decide) (es_tup mk_en (by decide) (el_cons (mk_en _) (en_int 1) (el_cons (mk_en _) (en_int 2) el_nil)))) el_nil)))) (el_cons (mk_r) (or_tr (zs := [(true, 1), (true, 0)]) (by decide +kernel) (es_tup mk_rw (by decide) (el_cons (mk_rw _) (rw_te (rs := [true]) (by decide) (es_tup mk_en (by decide) (el_cons (mk_en _) (en_int 1) el_nil))) (el_cons (mk_rw _) (rw_te (rs := []) (by decide) (es_tup mk_en (by decide) el_nil)) el_nil)))) (el_cons (mk_r) (or_tr (zs := [(true, 1), (false, 0)]) (by decide +kernel) (es_tup mk_rw (by decide) (el_cons (mk_rw _) (rw_te (rs := [true]) (by decide) (es_tup mk_en (by decide) (el_cons (mk_en _) (en_int 1) el_nil))) (el_cons (mk_rw _) (rw_int 2) el_nil)))) (el_cons (mk_r) (or_tr (zs := [(false, 0), (false, 0)]) (by decide +kernel) (es_tup mk_rw (by decide) (el_cons (mk_rw _) (rw_int 1) (el_cons (mk_rw _) (rw_int 2) el_nil)))) el_nil))))))))))))))
    dsimp only [tSeq]
    dsimp only [tAsg]
    refine es_lst (fun _ => mk_r) (by decide) hE1 H _ fun v1 H1 s1 ⟨l1, xs1, ev1, hl1, od1⟩ => ?_
    subst ev1
    have n1 : xs1.length = 14 := od1.1
    have hE2 : EvSL (RsA (fun _ : Unit => OdR K C) (List.replicate 7 ())) _ [some (.ref d), some (.ref l1)] := (el_cons (mk_r) (or_tr (zs := [(false, 1)]) (by decide +kernel) (es_tup mk_rw (by decide) (el_cons (mk_rw _) (rw_te (rs := [false]) (by decide) (es_tup mk_en (by decide) (el_cons (mk_en _) (en_bl true) el_nil))) el_nil))) (el_cons (mk_r) (or_tr (zs := List.replicate 81 (true, 1)) (by decide +kernel) (es_repA (K := K) (R := Rw K C) (a := (true, 1)) (n := 81) (mk_rw _) (by decide) (rw_te (rs := [true]) (by decide) (es_tup mk_en (by decide) (el_cons (mk_en _) (en_int 1) el_nil))) (es_c fun H => rfl))) (el_cons (mk_r) (or_tr (zs := [(true, 13)]) (by decide +kernel) (es_tup mk_rw (by decide) (el_cons (mk_rw _) (rw_te (rs := List.replicate 13 true) (by decide) (es_repA (K := K) (R := En K C) (a := true) (n := 13) (mk_en _) (by omega) (en_int 1) (es_c fun H => rfl))) el_nil))) (el_cons (mk_r) (or_tr (zs := [(false, 2)]) (by decide +kernel) (es_tup mk_rw (by decide) (el_cons (mk_rw _) (rw_te (rs := [true, false]) (by decide) (es_tup mk_en (by decide) (el_cons (mk_en _) (en_int 1) (el_cons (mk_en _) en_non el_nil)))) el_nil))) (el_cons (mk_r) (or_tr (zs := [(false, 1)]) (by decide +kernel) (es_tup mk_rw (by decide) (el_cons (mk_rw _) (rw_te (rs := [false]) (by decide) (es_tup mk_en (by decide) (el_cons (mk_en _) en_one el_nil))) el_nil))) (el_cons (mk_r) (or_tr (zs := [(true, 1), (false, 0)]) (by decide +kernel) (es_tup mk_rw (by decide) (el_cons (mk_rw _) (rw_te (rs := [true]) (by decide) (es_tup mk_en (by decide) (el_cons (mk_en _) (en_int 1) el_nil))) (el_cons (mk_rw _) (rw_lst (K := K) (C := C) (by decide) (el_cons (mk_en _) (en_int 2) el_nil)) el_nil)))) (el_cons (mk_r) (or_tr (zs := [(false, 1)]) (by decide +kernel) (es_tup mk_rw (by decide) (el_cons (mk_rw _) (rw_te (rs := [false]) (by decide) (es_tup mk_en (by decide) (el_cons (mk_en _) en_dct el_nil))) el_nil))) el_nil)))))))
    dsimp only [gName]
    dsimp only [tSeq]
    dsimp only [tAsg]
    refine op_varL rfl ?_
    refine es_lst (fun _ => mk_r) (by decide) hE2 H1 _ fun v2 H2a s2a ⟨l2a, xs2a, ev2, hl2a, od2a⟩ => ?_
    subst ev2
    have n2a : xs2a.length = 7 := od2a.1
    refine ⟨l1, l2a, _, _, rfl, rfl, s2a _ _ hl1, hl2a, Nat.le_of_lt (small1000 (by omega)), fun l2 nl2 => ?_⟩
    have s2b := same_new (o := .lst (xs1 ++ xs2a)) nl2
    have hl2 : upd H2a l2 (.lst (xs1 ++ xs2a)) l2 = some (.lst (xs1 ++ xs2a)) := upd_same
    have od2 : RsA (fun _ : Unit => OdR K C) _ (upd H2a l2 (.lst (xs1 ++ xs2a))) (xs1 ++ xs2a) := AG.app (AG.imp od1 fun v a r => mk_r _ _ _ (Ko.same (s2a.trans s2b)) r) (AG.imp od2a fun v a r => mk_r _ _ _ (Ko.same s2b) r)
    have n2 : (xs1 ++ xs2a).length = xs1.length + 7 := by rw [List.length_append, n2a]
    have s2 := s1.trans (s2a.trans s2b)
    generalize upd H2a l2 (.lst (xs1 ++ xs2a)) = H2 at *
    generalize xs1 ++ xs2a = xs2 at *
    have hE3 : EvSL (RsA (fun _ : Unit => OdR K C) (List.replicate 2 ())) _ [some (.ref d), some (.ref l2)] := (el_cons (mk_r) (or_nt (nt_fr (t := 1) (b := 2) (by decide) (dv8 (by decide) (by decide)))) (el_cons (mk_r) (or_tr (zs := [(true, 1), (false, 0)]) (by decide +kernel) (es_tup mk_rw (by decide) (el_cons (mk_rw _) (rw_te (rs := [true]) (by decide) (es_tup mk_en (by decide) (el_cons (mk_en _) (en_int 1) el_nil))) (el_cons (mk_rw _) rw_non el_nil)))) el_nil))
    dsimp only [gName]
    dsimp only [tSeq]
    dsimp only [tAsg]
    refine op_varL rfl ?_
    refine es_lst (fun _ => mk_r) (by decide) hE3 H2 _ fun v3 H3a s3a ⟨l3a, xs3a, ev3, hl3a, od3a⟩ => ?_
    subst ev3
    have n3a : xs3a.length = 2 := od3a.1
    refine ⟨l2, l3a, _, _, rfl, rfl, s3a _ _ hl2, hl3a, Nat.le_of_lt (small1000 (by omega)), fun l3 nl3 => ?_⟩
    have s3b := same_new (o := .lst (xs2 ++ xs3a)) nl3
    have hl3 : upd H3a l3 (.lst (xs2 ++ xs3a)) l3 = some (.lst (xs2 ++ xs3a)) := upd_same
    have od3 : RsA (fun _ : Unit => OdR K C) _ (upd H3a l3 (.lst (xs2 ++ xs3a))) (xs2 ++ xs3a) := AG.app (AG.imp od2 fun v a r => mk_r _ _ _ (Ko.same (s3a.trans s3b)) r) (AG.imp od3a fun v a r => mk_r _ _ _ (Ko.same s3b) r)
    have n3 : (xs2 ++ xs3a).length = xs2.length + 2 := by rw [List.length_append, n3a]
    have s3 := s2.trans (s3a.trans s3b)
    generalize upd H3a l3 (.lst (xs2 ++ xs3a)) = H3 at *
    generalize xs2 ++ xs3a = xs3 at *
    have hd3 := dice_same s3 hd
    have ld : l3 ≠ d := fun z => by
      obtain ⟨q1, q2, q3, h9⟩ := hd
      have := (s2.trans s3a) _ _ h9
      rw [← z, nl3] at this
      cases this
    refine ⟨_, rfl, _, rfl, d, l3, xs3, rfl, hd3, hl3, ld, by omega, by omega, fun kk x q1 q2 q3 hx => ?_⟩
    obtain ⟨_, _, r⟩ := od3.2 kk x hx
    have rr : Rl d H3 (upd H3 d (.lst (dxs q1 q2 q3))) := (Rl.refl hd3).roll
    exact q _ _ ((mk_r) _ _ _ (Ko.rl hd3 rr) r) (((Rl.refl hd).same s3).roll)
end
end FR
set_option Elab.async false
set_option linter.all false
set_option maxRecDepth 100000
set_option maxHeartbeats 4000000
/-! what _law_words' calls come to; lists of texts compared -/
namespace FR
open PySem PySem.Spec PyProof.Rows L2 LD RF CN LK LamX NdefX RZ
section
variable {K : PySem.W.Frag} {C d : Addr} {H H' : Hp}
theorem Ko.fv (k : Ko H H') {v : V} {t b : Int} (h : FV C H v t b) : FV C H' v t b := h.imp (fun ⟨p, e, f⟩ => ⟨p, e, k.fr f⟩) id
theorem Ko.tv (k : Ko H H') {a : Addr} {ps : List PI} (h : TV C H a ps) : TV C H' a ps := by
  obtain ⟨xs, e, f⟩ := h
  exact ⟨xs, k.tup e, f.imp fun _ _ y => k.fv y⟩
theorem Ko.tt (k : Ko H H') {a : Addr} {pss : List (List PI)} (h : TT C H a pss) : TT C H' a pss := by
  obtain ⟨vs, e, f⟩ := h
  exact ⟨vs, k.tup e, f.imp fun _ _ ⟨q, e, t⟩ => ⟨q, e, k.tv t⟩⟩
theorem Tabs.rl {d : Addr} {H H' : Hp} {T : List (Addr × Str)} (t : Tabs T H) (hd : DiceAt H d) (r : Rl d H H') : Tabs T H' := fun p hp => by
  obtain ⟨ps, h1, h2, h3⟩ := t p hp
  obtain ⟨a, b, c, hd⟩ := hd
  refine ⟨ps, r.2 _ _ (fun z => ?_) h1, h2, fun pos cv hc => ?_⟩
  · rw [z, hd] at h1
    injection h1 with h1
    cases h1
  · obtain ⟨c', e1, e2⟩ := h3 pos cv hc
    refine ⟨c', e1, r.2 _ _ (fun z => ?_) e2⟩
    rw [z, hd] at e2
    injection e2 with e2
    unfold CodeO at e2
    cases e2
end
/-- all is kept but the dice and the tables -/
def RlN (d : Addr) (H H' : Hp) : Prop := DiceAt H' d ∧ ∀ q o, q ≠ d → H q = some o → (∀ ps, o ≠ .tbl ps) → H' q = some o
theorem RlN.of {d : Addr} {H H' : Hp} (r : Rl d H H') : RlN d H H' := ⟨r.1, fun q o n e _ => r.2 q o n e⟩
theorem RlN.ex {d : Addr} {H H' : Hp} (hd : DiceAt H d) (ex : ExtN H H') : RlN d H H' := ⟨exn_dice ex hd, fun q o _ e z => ex q o e z⟩
theorem RlN.trans {d : Addr} {H H1 H2 : Hp} (a : RlN d H H1) (b : RlN d H1 H2) : RlN d H H2 := ⟨b.1, fun q o n e z => b.2 q o n (a.2 q o n e z) z⟩
/-- all but d, l and the tables stays -/
def Kl (d l : Addr) (H H' : Hp) : Prop := ∀ q o, q ≠ d → q ≠ l → H q = some o → (∀ ps, o ≠ .tbl ps) → H' q = some o
theorem Kl.ext {d l : Addr} {H H1 H2 : Hp} (k : Kl d l H H1) (e : ExtN H1 H2) : Kl d l H H2 := fun q o n1 n2 h z => e q o (k q o n1 n2 h z) z
theorem Kl.upd {d l : Addr} {H H1 : Hp} {o : HO} (k : Kl d l H H1) : Kl d l H (L2.upd H1 l o) := fun q o' n1 n2 h z => by rw [upd_ne n2]; exact k q o' n1 n2 h z
/-- a list of texts -/
def txd (ws : List Str) : PyData := .list (ws.map PyData.str)
theorem dp_txA {K : PySem.W.Frag} {H : Hp} : ∀ ws : List Str, DpAll K H (txs ws) (ws.map PyData.str)
  | [] => .nil
  | w :: r => .cons (.str w) (dp_txA r)
theorem dp_txs {K : PySem.W.Frag} {H : Hp} {l : Addr} {ws : List Str} (h : H l = some (.lst (txs ws))) : Dp K H (.ref l) (txd ws) := .lst (SqL.of h) (dp_txA ws)
theorem flat_tx (z : Str) (n : Nat) : (List.replicate n [V.str z]).flatten = txs (List.replicate n z) := by
  rw [flat_rep]
  unfold txs
  rw [List.map_replicate]
/-- against a text, so many times -/
theorem rd_ne {K : PySem.W.Frag} {H : Hp} {l : Addr} {ws : List Str} {z : Str} {n : Nat} {σ : L2.St} {Q : VK} (hl : H l = some (.lst (txs ws))) (n9 : n ≤ 100) (s1 : SeqAt.shaped (txd ws) = true) (s2 : SeqAt.shaped (txd (List.replicate n z)) = true)
    (q : ∀ H', Same H H' → Q (.bl (!PyData.eqv (txd ws) (txd (List.replicate n z)))) H') : tOp rRep (tLst (tCons (tC (.str z)) tNil)) (tC (.int (n : Nat))) σ H fun y H2 => rNeD K (.ref l) y H2 Q :=
  ⟨small1000 (Nat.le_of_ble_eq_true rfl), fun p hp => by
    have s := same_new (o := .lst [V.str z]) hp
    refine ⟨p, (n : Nat), _, rfl, rfl, upd_same, by omega, by omega, Nat.le_of_lt (small1000 (by show 1 * _ ≤ 1000; omega)), fun p2 hp2 => ?_⟩
    have e : ((n : Nat) : Int).toNat = n := by omega
    rw [e, flat_tx]
    have s' := same_new (o := .lst (txs (List.replicate n z))) hp2
    exact ⟨_, _, dp_txs (s' _ _ (s _ _ hl)), dp_txs upd_same, s1, s2, q _ (s.trans s')⟩⟩
theorem rd_eq {K : PySem.W.Frag} {H : Hp} {l : Addr} {ws : List Str} {z : Str} {n : Nat} {σ : L2.St} {Q : VK} (hl : H l = some (.lst (txs ws))) (n9 : n ≤ 100) (s1 : SeqAt.shaped (txd ws) = true) (s2 : SeqAt.shaped (txd (List.replicate n z)) = true)
    (q : ∀ H', Same H H' → Q (.bl (PyData.eqv (txd ws) (txd (List.replicate n z)))) H') : tOp rRep (tLst (tCons (tC (.str z)) tNil)) (tC (.int (n : Nat))) σ H fun y H2 => rEqD K (.ref l) y H2 Q :=
  ⟨small1000 (Nat.le_of_ble_eq_true rfl), fun p hp => by
    have s := same_new (o := .lst [V.str z]) hp
    refine ⟨p, (n : Nat), _, rfl, rfl, upd_same, by omega, by omega, Nat.le_of_lt (small1000 (by show 1 * _ ≤ 1000; omega)), fun p2 hp2 => ?_⟩
    have e : ((n : Nat) : Int).toNat = n := by omega
    rw [e, flat_tx]
    have s' := same_new (o := .lst (txs (List.replicate n z))) hp2
    exact ⟨_, _, dp_txs (s' _ _ (s _ _ hl)), dp_txs upd_same, s1, s2, q _ (s.trans s')⟩⟩
/-! ### six words at once -/
/-- what _law_words' promise asks, but for what follows -/
structure SixC (K : PySem.W.Frag) (C IR IO : Addr) (Tt : List (Addr × Str)) (H : Hp) (v c t : V) (w1 w2 w3 w4 w5 w6 : Str) : Prop where
  wd : ∀ w ∈ [w1, w2, w3, w4, w5, w6], Wd w
  c1 : Comes Tt IR IO (spTofB K C IR) [v, c] w1 H
  c2 : Comes Tt IR IO (spMofB K C IR) [v, t] w2 H
  c3 : Comes Tt IR IO (spSoB K C IR) [v, t] w3 H
  c4 : Comes Tt IR IO (spFiB K C IR Tt) [v, t] w4 H
  c5 : ∀ p H1, ExtN H H1 → H1 p = some (.tup [.str wdS, c]) → Comes Tt IR IO (spIsB K C IR) [v, t, .ref p] w5 H1
  c6 : ∀ p H1, ExtN H H1 → H1 p = some (.tup [.str wF, c]) → Comes Tt IR IO (spIfB K C IR) [v, t, .ref p] w6 H1
theorem SixC.sp {K : PySem.W.Frag} {C IR IO : Addr} {Tt : List (Addr × Str)} {H : Hp} {v c t : V} {w1 w2 w3 w4 w5 w6 : Str} {Q : VK} {E : XK} (s : SixC K C IR IO Tt H v c t w1 w2 w3 w4 w5 w6) (tb : Tabs Tt H) (q : ∀ l H', ExtN H H' → Tabs Tt H' → H' l = some (.lst (txs [w1, w2, w3, w4, w5, w6])) → Q (.ref l) H') : spWs K C IR IO Tt [v, c, t] H Q E :=
  ⟨v, c, t, w1, w2, w3, w4, w5, w6, rfl, tb, s.wd, s.c1, s.c2, s.c3, s.c4, s.c5, s.c6, q⟩
theorem wd_r : Wd wRows := .inr (.inl rfl)
theorem wd_t : Wd wRet := .inl rfl
section
variable {K : PySem.W.Frag} {C IR IO : Addr} {Tt : List (Addr × Str)} {H : Hp} {v c t : V} {a ca ta : Addr} {pss : List (List PI)} {n : Nat}
theorem six_bad (h : RsX K C H v) : SixC K C IR IO Tt H v c t wRows wRows wRows wRows wRows wRows where
  wd := fun w m => by
    have : w = wRows := by simpa using m
    rw [this]; exact wd_r
  c1 := cm_r (cm_ct2 (.inl h))
  c2 := cm_r (cm_ct2 (.inl h))
  c3 := cm_r (cm_ct2 (.inl h))
  c4 := cm_r (cm_ct2 (.inl h))
  c5 := fun p H1 e _ => cm_r (cm_ct3 (.inl (exn_rsX e h)))
  c6 := fun p H1 e _ => cm_r (cm_ct3 (.inl (exn_rsX e h)))
/-- a column that is none -/
theorem ct_bad {f : Nat → Nat → Nat} (tm : TMx C H a pss) (R : Rs pss n) (h : OdN K C (f pss.length n) H v) : CtX K C H (.ref a) v f := by
  obtain ⟨z, r, ne⟩ := h.rw
  exact .inr ⟨a, pss, n, z, rfl, tm, R, r, ne⟩
theorem six_cols (tm : TMx C H a pss) (R : Rs pss n) (hc : OdN K C n H c) (ht : OdN K C pss.length H t) : SixC K C IR IO Tt H (.ref a) c t wRows wRows wRows wRows wRows wRows where
  wd := fun w m => by
    have : w = wRows := by simpa using m
    rw [this]; exact wd_r
  c1 := cm_r (cm_ct2 (f := fun _ n => n) (ct_bad tm R hc))
  c2 := cm_r (cm_ct2 (f := fun m _ => m) (ct_bad tm R ht))
  c3 := cm_r (cm_ct2 (f := fun m _ => m) (ct_bad tm R ht))
  c4 := cm_r (cm_ct2 (f := fun m _ => m) (ct_bad tm R ht))
  c5 := fun p H1 e _ => cm_r (cm_ct3 ((ct_bad (f := fun m _ => m) tm R ht).ext e))
  c6 := fun p H1 e _ => cm_r (cm_ct3 ((ct_bad (f := fun m _ => m) tm R ht).ext e))
theorem six_ok (d : DR C H a ca ta pss n) : SixC K C IR IO Tt H (.ref a) (.ref ca) (.ref ta) wRet wRet wRet wRet wRet wRet where
  wd := fun w m => by
    have : w = wRet := by simpa using m
    rw [this]; exact wd_t
  c1 := d.tof
  c2 := d.mof
  c3 := d.so
  c4 := d.fi
  c5 := fun p H1 e hp => (d.ext e).is1 hp
  c6 := fun p H1 e hp => (d.ext e).if1 hp
theorem told_odd {p : Addr} {z : Str} {m : Nat} (h : OdN K C m H v) (hp : H p = some (.tup [.str z, v])) : ToldR K C H (.ref p) z m false := by
  obtain ⟨w, ⟨r, g⟩, ne⟩ := h.rw
  cases hw : w.1 with
  | false =>
    rw [hw] at r
    exact .inr (.inr (.inr (.inr (.inl ⟨p, v, rfl, hp, r, rfl⟩))))
  | true =>
    obtain ⟨b, ys, rfl, hb, l⟩ := g hw
    rw [hw] at r
    exact .inr (.inr (.inr (.inr (.inr ⟨p, b, ys, rfl, hp, hb, r, by rw [l, decide_eq_false (ne hw)]⟩))))
theorem told_other {p : Addr} {z z' : Str} {m : Nat} (hp : H p = some (.tup [.str z, v])) (ne : z ≠ z') : ToldR K C H (.ref p) z' m false := .inr (.inr (.inr (.inl ⟨p, z, v, rfl, hp, ne, rfl⟩)))
theorem six_mix (d : DR C H a ca ta pss n) (hc : OdN K C n H v) : SixC K C IR IO Tt H (.ref a) v (.ref ta) wRows wRet wRet wRet wRet wRet where
  wd := fun w m => by
    have : w = wRows ∨ w = wRet := by simpa using m
    rcases this with e | e <;> rw [e]
    · exact wd_r
    · exact wd_t
  c1 := cm_r (cm_ct2 (f := fun _ n => n) (ct_bad d.tm d.ak.rs hc))
  c2 := d.mof
  c3 := d.so
  c4 := d.fi
  c5 := fun p H1 e hp => (d.ext e).is0 (told_odd ((Ko.ext e).odN hc) hp) (told_other hp (by decide +kernel))
  c6 := fun p H1 e hp => (d.ext e).if0 (told_odd ((Ko.ext e).odN hc) hp) (told_other hp (by decide +kernel))
end
end FR
set_option Elab.async false
set_option linter.all false
set_option maxRecDepth 100000
set_option maxHeartbeats 4000000
/-! _law_right -/
namespace FR
open PySem PySem.Spec PyProof.Rows L2 LD RF CN LK LamX NdefX RZ
abbrev sRi : Stmt := top 69
abbrev NRi : List Str := ["_law_dice_here", "_law_lines_here", "_law_rows", "_law_odd", "_law_column", "_law_totals", "_law_wrong", "_law_short", "_law_told"]
theorem scRi : FnScope NRi ["_law_dice_here"] (defScope sRi) := ⟨rfl, rfl, rfl, by decide +kernel, rfl, by decide +kernel, by decide +kernel⟩
def qRi : Str := "_law_right.<locals>.<lambda>"
section
variable {P : Program} {w : World} {K : PySem.W.Frag} {mg : Str → Option Value} {base : Heap} {C IR IO EE : Addr} {Tt : List (Addr × Str)}
theorem fvs_ones {C : Addr} {H : Hp} (n : Nat) : FVs C H (List.replicate n (V.int 1)) (onP n) := by
  unfold onP
  refine ⟨by rw [List.length_replicate, List.length_replicate], fun i v hv => ?_⟩
  rw [List.getElem?_replicate] at hv ⊢
  split at hv
  · next z =>
    rw [if_pos z]
    cases hv
    exact ⟨_, rfl, .inr ⟨rfl, rfl⟩⟩
  · cases hv
/-- (1,) * len(..) -/
theorem rd_ones {K : PySem.W.Frag} {te : TE} {σ : L2.St} {H : Hp} {Q : VK} {C : Addr} {n : Nat} (n9 : n ≤ 900) (h : ∀ H1 Q1, Same H H1 → Q1 (.int (n : Nat)) H1 → te σ H1 Q1) (q : ∀ p H', Same H H' → TV C H' p (onP n) → Q (.ref p) H') : tOp (rRepX K) (tTup (tCons (tC (.int 1)) tNil)) te σ H Q :=
  ⟨small1000 (Nat.le_of_ble_eq_true rfl), fun p hp => by
    have s := same_new (o := .tup [V.int 1]) hp
    refine h _ _ s ?_
    exact repX_any upd_same (by omega) fun p2 H2 s2 h2 => q p2 H2 (s.trans s2) ⟨_, h2, fvs_ones n⟩⟩
def spRi (Tt : List (Addr × Str)) : Sp := fun vs H Q _ => ∃ (d : Addr), vs = [.ref d] ∧ DiceAt H d ∧ Tabs Tt H ∧ ∀ H', RlN d H H' → Tabs Tt H' → Q (.bl true) H'
theorem ok_ri {f cc Pt g : Addr} {fd : FuncData} (F : FunC K "_law_right" "_law_right" sRi f fd cc) (Wt : WordT K mg g IR IO EE) (B : TabB base mg cc Pt) (mT : (Pt, qRi) ∈ Tt) (uT : ∀ p ∈ Tt, p.1 = Pt → p.2 = qRi)
    (gLn : Glo P w K mg base "_law_lines" 4 ["_law_dice_here", "_law_most", "_law_wide"] spLn) (gSl : Glo P w K mg base "_law_shown_lines" 6 ["_law_dice_here", "_law_lines_here"] (spSl C)) (gOd : Glo P w K mg base "_law_odd_rows" 4 ["_law_dice_here"] (spOd K C)) (gOn : Glo P w K mg base "_law_odd_numbers" 4 ["_law_dice_here", "_law_size"] (spOn K C))
    (gIrs : Glo P w K mg base "is_rows" 4 ["value"] (spIrsX K C)) (gWs : Glo P w K mg base "_law_words" 11 ["_law_rows", "_law_column", "_law_totals"] (spWs K C IR IO Tt)) (gCl : GloX P w K mg base "cleared" 7 ["rows"] (spCrX K C IR)) (gFl : GloX P w K mg base "falling" 7 ["rows"] (spFlB K C IR IO Tt)) (gIg : GloX P w K mg base "is_falling" 8 ["rows", "value"] (spSq2 K C IR IO))
    (gIs : Glo P w K mg base "is_solution" 8 ["rows", "totals", "value"] (spIsN K C)) (gIf : Glo P w K mg base "is_fit" 8 ["rows", "totals", "value"] (spIfN K C)) (mL : mg "len" = none) : FnOk P w K mg base CX0 12 f fd ["_law_dice_here"] (spRi Tt) := by
  refine F.ok scRi (fun vs H Q E h => ?_) (fun A outer s H vs Q E hr h => ?_)
  · obtain ⟨d, rfl, _⟩ := h
    rfl
  · obtain ⟨d, rfl, hd, tb, q⟩ := h
    refine ⟨_, (pss_cons (ps_set (i := 1) scRi.nd rfl (Or.inl rfl) (pe_call gLn.G (hr.mono (by decide)) (by rfl) gLn.m gLn.k gLn.b .nil pass0 (pa_cons (pv 0) (pa_cons pe_int (pa_cons pe_int pa_nil)))))
      (pss_cons (ps_asg (pe_tup (pa_cons (pe_call gSl.G (hr.mono (by decide)) (by rfl) gSl.m gSl.k gSl.b .nil pass0 (pa_cons (pv 0) (pa_cons (pv 1) pa_nil))) (pa_cons (pe_call gOd.G (hr.mono (by decide)) (by rfl) gOd.m gOd.k gOd.b .nil pass0 (pa_cons (pv 0) pa_nil)) pa_nil))) (pg_tup (by rfl) (pgs_cons (pg_name (i := 2) scRi.nd rfl (.inl rfl)) (pgs_cons (pg_name (i := 3) scRi.nd rfl (.inr rfl)) pgs_nil))))
      (pss_cons (ps_par (i := 4) (j := 5) (by rfl) scRi.nd rfl rfl (by decide) rfl rfl (pa_cons (pe_op op_repX (pe_tup (pa_cons pe_int pa_nil)) (pe_callB call_len_seq (by rfl) mL PySem.boot_len (pa_cons (pe_ix ix_list (pv 1) pe_int (fun _ _ => rfl)) pa_nil))) (pa_cons (pe_op op_repX (pe_tup (pa_cons pe_int pa_nil)) (pe_callB call_len_seq (by rfl) mL PySem.boot_len (pa_cons (pv 1) pa_nil))) pa_nil)) (by rfl))
      (pss_cons (ps_par (i := 6) (j := 7) (by rfl) scRi.nd rfl rfl (by decide) rfl rfl (pa_cons (pe_call gOn.G (hr.mono (by decide)) (by rfl) gOn.m gOn.k gOn.b .nil pass0 (pa_cons (pv 0) (pa_cons (pe_callB call_len_seq (by rfl) mL PySem.boot_len (pa_cons (pv 4) pa_nil)) pa_nil))) (pa_cons (pe_call gOn.G (hr.mono (by decide)) (by rfl) gOn.m gOn.k gOn.b .nil pass0 (pa_cons (pv 0) (pa_cons (pe_callB call_len_seq (by rfl) mL PySem.boot_len (pa_cons (pv 5) pa_nil)) pa_nil))) pa_nil)) (by rfl))
      (pss_cons (ps_if (PW.pt (pw_or (pt_cmpR op_isnot_bl (pe_call gIrs.G (hr.mono (by decide)) (by rfl) gIrs.m gIrs.k gIrs.b .nil pass0 (pa_cons (pv 3) pa_nil)) pe_bl (nomark _)) (pw_or1 (pt_cmpR (op_neD hr.units) (pe_call gWs.G (hr.mono (by decide)) (by rfl) gWs.m gWs.k gWs.b .nil pass0 (pa_cons (pv 3) (pa_cons (pv 6) (pa_cons (pv 7) pa_nil)))) (pe_op op_rep (pe_lst (pa_cons pe_str pa_nil)) pe_int) (nomark _))))) (pss_one (ps_ret pe_bl)) pss_nil)
      (pss_cons (ps_set (i := 8) scRi.nd rfl (Or.inl rfl) (pe_lst (pa_cons (pe_word (X := (cxOf CX0 P w K mg base NRi "_law_right" (defScope sRi) f (.ref cc) A outer s H E).nox) (T := Tt) (c := cc) (P := Pt) (k := 7) (t := fun E => tCall (spCrX K C IR) [] E (tCons (tVar 3) tNil)) Wt (by rfl) B rfl mT uT (hr.mono (by decide)) (lamS_by (by show lamSB (defScope sRi) _ = true; decide +kernel)) rfl (fun _ _ _ _ _ => rfl) (fun A2 outer2 s2 H2 E2 f2 c2 hr2 => pe_call gCl.G hr2 (by rfl) gCl.m gCl.k gCl.b .nil (passes_call (takes_of rfl rfl rfl rfl) fun _ _ _ _ h => h) (pa_cons (pv 3) pa_nil))) pa_nil)))
      (pss_cons (ps_expr (pe_bm PySem.F.plainAttrs_list PySem.F.slot_list_append PySem.F.type_list_append mt_append (pv 8) (pa_cons (pe_word (X := (cxOf CX0 P w K mg base NRi "_law_right" (defScope sRi) f (.ref cc) A outer s H E).nox) (T := Tt) (c := cc) (P := Pt) (k := 7) (t := fun E => tCall (spFlB K C IR IO Tt) [] E (tCons (tVar 3) tNil)) Wt (by rfl) B rfl mT uT (hr.mono (by decide)) (lamS_by (by show lamSB (defScope sRi) _ = true; decide +kernel)) rfl (fun _ _ _ _ _ => rfl) (fun A2 outer2 s2 H2 E2 f2 c2 hr2 => pe_call gFl.G hr2 (by rfl) gFl.m gFl.k gFl.b .nil (passes_call (takes_of rfl rfl rfl rfl) fun _ _ _ _ h => h) (pa_cons (pv 3) pa_nil))) pa_nil)))
      (pss_cons (ps_expr (pe_bm PySem.F.plainAttrs_list PySem.F.slot_list_append PySem.F.type_list_append mt_append (pv 8) (pa_cons (pe_word (X := (cxOf CX0 P w K mg base NRi "_law_right" (defScope sRi) f (.ref cc) A outer s H E).nox) (T := Tt) (c := cc) (P := Pt) (k := 8) (t := fun E => tCall (spSq2 K C IR IO) [] E (tCons (tVar 3) (tCons (tC .non) tNil))) Wt (by rfl) B rfl mT uT (hr.mono (by decide)) (lamS_by (by show lamSB (defScope sRi) _ = true; decide +kernel)) rfl (fun _ _ _ _ _ => rfl) (fun A2 outer2 s2 H2 E2 f2 c2 hr2 => pe_call gIg.G hr2 (by rfl) gIg.m gIg.k gIg.b .nil (passes_call (takes_of rfl rfl rfl rfl) fun _ _ _ _ h => h) (pa_cons (pv 3) (pa_cons pe_non pa_nil)))) pa_nil)))
      (pss_cons (ps_if (PW.pt (pw_or (pt_cmpR (op_neD hr.units) (pv 8) (pe_op op_rep (pe_lst (pa_cons pe_str pa_nil)) pe_int) (nomark _)) (pw_or1 (pt_cmpR (op_neD hr.units) (pe_call gWs.G (hr.mono (by decide)) (by rfl) gWs.m gWs.k gWs.b .nil pass0 (pa_cons (pv 2) (pa_cons (pv 6) (pa_cons (pv 7) pa_nil)))) (pe_op op_rep (pe_lst (pa_cons pe_str pa_nil)) pe_int) (nomark _))))) (pss_one (ps_ret pe_bl)) pss_nil)
      (pss_cons (ps_if (PW.pt (pw_or (pt_cmpR (op_neD hr.units) (pe_call gWs.G (hr.mono (by decide)) (by rfl) gWs.m gWs.k gWs.b .nil pass0 (pa_cons (pv 2) (pa_cons (pv 4) (pa_cons (pv 5) pa_nil)))) (pe_op op_rep (pe_lst (pa_cons pe_str pa_nil)) pe_int) (nomark _)) (pw_or1 (pt_cmpR (op_neD hr.units) (pe_slice sl_list (pe_call gWs.G (hr.mono (by decide)) (by rfl) gWs.m gWs.k gWs.b .nil pass0 (pa_cons (pv 2) (pa_cons (pv 6) (pa_cons (pv 5) pa_nil)))) (po_some pe_int) (po_some pe_int)) (pe_op op_rep (pe_lst (pa_cons pe_str pa_nil)) pe_int) (nomark _))))) (pss_one (ps_ret pe_bl)) pss_nil)
      (pss_one (ps_ret (pe_cmpR (op_eqD hr.units) (pe_lst (pa_cons (pe_call gIs.G (hr.mono (by decide)) (by rfl) gIs.m gIs.k gIs.b .nil pass0 (pa_cons (pv 2) (pa_cons (pv 5) (pa_cons (pv 3) pa_nil)))) (pa_cons (pe_call gIf.G (hr.mono (by decide)) (by rfl) gIf.m gIf.k gIf.b .nil pass0 (pa_cons (pv 2) (pa_cons (pv 5) (pa_cons (pv 6) pa_nil)))) pa_nil))) (pe_lst (pa_cons pe_bl (pa_cons pe_bl pa_nil))) (nomark _)))))))))))))), ?_⟩
    -- the lines
    refine ⟨_, rfl, d, rfl, hd, fun fo pss n H1 n1 n4 l1 l5 hz ll r1 => ?_⟩
    have hd1 := r1.1
    have tb1 := Tabs.rl tb hd r1
    -- the rows, odd ones
    refine ⟨_, rfl, _, rfl, d, fo, pss, rfl, hd1, ll, by omega, fun ps m => ⟨by rw [(hz ps m).1]; omega, fun p mp => ((hz ps m).2 p mp).pz (by omega) |>.up (by omega)⟩, fun a H2 tt2 r2 => ?_⟩
    have hd2 := r2.1
    have tb2 := Tabs.rl tb1 hd1 r2
    have ll2 := ll.rl hd1 r2
    refine ⟨_, rfl, d, rfl, hd2, fun v H3 od3 r3 => ?_⟩
    have hd3 := r3.1
    have rn3 := ((RlN.of r1).trans (RlN.of r2)).trans (RlN.of r3)
    have tb3 := Tabs.rl tb2 hd2 r3
    have ll3 := ll2.rl hd2 r3
    have tt3 := (Ko.rl hd2 r3).tt tt2
    refine ⟨small1000 (Nat.le_of_ble_eq_true rfl), fun tp htp => ?_⟩
    have s4 := same_new (o := .tup [V.ref a, v]) htp
    have ht4 : upd H3 tp (.tup [V.ref a, v]) tp = some (.tup [V.ref a, v]) := upd_same
    have hd4 := dice_same s4 hd3
    have rn4 := rn3.trans (RlN.ex hd3 (ExtN.of s4))
    have tb4 := tb3.ext s4
    have ll4 := ll3.same s4
    have tt4 := (Ko.same s4).tt tt3
    have od4 := (Ko.same s4).odR od3
    generalize upd H3 tp (.tup [V.ref a, v]) = H4 at ht4 hd4 tb4 ll4 tt4 od4 rn4 ⊢
    refine ⟨tp, _, rfl, SqT.of ht4, rfl, _, _, rfl, _, _, rfl, rfl, ?_⟩
    -- ones
    obtain ⟨vs, hfo, hvs⟩ := id ll4
    obtain ⟨q0, ps0, hv0, hp0, us0, hq0, hl0⟩ : ∃ q0 ps0, vs[0]? = some (.ref q0) ∧ pss[0]? = some ps0 ∧ ∃ us0, H4 q0 = some (.lst us0) ∧ us0.length = n := by
      obtain ⟨v0, h0⟩ : ∃ v0, vs[0]? = some v0 := ⟨_, List.getElem?_eq_getElem (by rw [hvs.1]; omega)⟩
      obtain ⟨p0, hp0, q0, rfl, us0, hu, tu⟩ := hvs.2 0 v0 h0
      exact ⟨q0, p0, h0, hp0, us0, hu, by rw [tu.1]; exact (hz p0 (List.mem_of_getElem? hp0)).1⟩
    refine rd_ones (C := C) (n := n) (by omega) (fun Hx Qx sx qx => ?_) fun cp H5 s5 tv5 => ?_
    · refine ⟨_, rfl, fo, _, 0, _, rfl, rfl, SqL.of (sx _ _ hfo), atI_nat (j := 0) hv0, q0, us0, rfl, .inl (SqL.of (sx _ _ hq0)), ?_⟩
      rw [hl0]
      exact qx
    have hfo5 := s5 _ _ hfo
    refine rd_ones (C := C) (n := pss.length) (by omega) (fun Hx Qx sx qx => ?_) fun tp2 H6 s6 tv6 => ?_
    · refine ⟨_, rfl, fo, vs, rfl, .inl (SqL.of (sx _ _ hfo5)), ?_⟩
      rw [hvs.1]
      exact qx
    have s46 := s5.trans s6
    have hd6 := dice_same s46 hd4
    have rn6 := rn4.trans (RlN.ex hd4 (ExtN.of s46))
    have tb6 := tb4.ext s46
    have od6 := (Ko.same s46).odR od4
    have dr6 : DR C H6 a cp tp2 pss n := ⟨(Ko.same s46).tt tt4, (Ko.same s6).tv tv5, tv6, n1, n4, l1, l5, hz⟩
    clear tv5 tv6 tt4 tt3 tt2 od4 od3 hfo5 s46 s6 s5
    refine ⟨_, _, rfl, ?_⟩
    -- odd columns
    obtain ⟨cs, hcs, fcs⟩ := id dr6.hc
    have lcs : cs.length = n := by rw [fcs.1]; exact onP_len n
    refine ⟨_, rfl, _, rfl, cp, cs, rfl, .inr (SqT.of hcs), d, n, by rw [lcs]; rfl, hd6, n1, by omega, fun u H7 on7 r7 => ?_⟩
    have hd7 := r7.1
    have tb7 := Tabs.rl tb6 hd6 r7
    have k7 := Ko.rl hd6 r7
    have od7 := k7.odR od6
    have dr7 : DR C H7 a cp tp2 pss n := ⟨k7.tt dr6.hv, k7.tv dr6.hc, k7.tv dr6.ht, n1, n4, l1, l5, hz⟩
    obtain ⟨ts, hts, fts⟩ := id dr7.ht
    have lts : ts.length = pss.length := by rw [fts.1]; exact onP_len _
    refine ⟨_, rfl, _, rfl, tp2, ts, rfl, .inr (SqT.of hts), d, pss.length, by rw [lts]; rfl, hd7, l1, by omega, fun u2 H8 om8 r8 => ?_⟩
    have hd8 := r8.1
    have rn8 := (rn6.trans (RlN.of r7)).trans (RlN.of r8)
    have tb8 := Tabs.rl tb7 hd7 r8
    have k8 := Ko.rl hd7 r8
    have od8 := k8.odR od7
    have on8 := k8.odN on7
    have dr8 : DR C H8 a cp tp2 pss n := ⟨k8.tt dr7.hv, k8.tv dr7.hc, k8.tv dr7.ht, n1, n4, l1, l5, hz⟩
    clear dr6 dr7 od6 od7 on7 k7 k8 r7 r8 hd6 hd7 tb6 tb7
    refine ⟨_, _, rfl, ?_⟩
    -- is_rows; the words of odd rows
    refine ⟨_, rfl, v, rfl, od8.rs, fun H9 s9 => ?_⟩
    have hd9 := dice_same s9 hd8
    have rn9 := rn8.trans (RlN.ex hd8 (ExtN.of s9))
    have tb9 := tb8.ext s9
    have od9 := (Ko.same s9).odR od8
    have on9 := (Ko.same s9).odN on8
    have om9 := (Ko.same s9).odN om8
    have dr9 := dr8.ext (ExtN.of s9)
    refine ⟨_, _, rfl, rfl, _, rfl, iteF ?_⟩
    have SX : SixC K C IR IO Tt _ _ _ _ _ _ _ _ _ _ := six_bad (c := u) (t := u2) od9.rs
    refine ⟨_, rfl, _, rfl, _, rfl, _, _, _, _, _, _, _, _, _, rfl, tb9, SX.wd, SX.c1, SX.c2, SX.c3, SX.c4, SX.c5, SX.c6, fun l H10 e10 tb10 hl10 => ?_⟩
    refine rd_ne (n := 6) (z := wRows) hl10 (by omega) (by decide +kernel) (by decide +kernel) fun H11 s11 => ?_
    rw [show (!PyData.eqv (txd [wRows, wRows, wRows, wRows, wRows, wRows]) (txd (List.replicate 6 wRows))) = false by decide +kernel]
    refine ⟨_, rfl, iteF ?_⟩
    have x11 := e10.trans (ExtN.of s11)
    have hd11 := exn_dice x11 hd9
    have rn11 := rn9.trans (RlN.ex hd9 x11)
    have tb11 := tb10.ext s11
    have od11 := (Ko.ext x11).odR od9
    have on11 := (Ko.ext x11).odN on9
    have om11 := (Ko.ext x11).odN om9
    have dr11 := dr9.ext x11
    clear dr8 dr9 od8 od9 on8 on9 om8 om9 tb8 tb9 tb10 hd8 hd9
    -- told
    dsimp only [tSeq]
    refine ⟨tb11, fun H12 e12 tb12 => ?_⟩
    refine tt_word wd_r (cm_cr od11.rs) e12 tb12 (fun E Q h => ⟨_, rfl, h⟩) fun H13 e13 tb13 => ?_
    have x13 := e12.trans e13
    refine ⟨small1000 (Nat.le_of_ble_eq_true rfl), fun l14 hl14 => ?_⟩
    have nl : Fr0 H11 l14 := exn_free x13 hl14
    have s14 := same_new (o := .lst [V.str wRows]) hl14
    have hl14' : upd H13 l14 (.lst [V.str wRows]) l14 = some (.lst (txs [wRows])) := upd_same
    have x14 := x13.trans (ExtN.of s14)
    have tb14 := tb13.ext s14
    generalize upd H13 l14 (.lst [V.str wRows]) = H14 at hl14' x14 tb14 ⊢
    refine ⟨_, rfl, .inl ⟨rfl, _, SqL.of hl14'⟩, tb14, fun H15 e15 tb15 => ?_⟩
    refine tt_word wd_r (cm_r (cm_sq1 od11.rs)) (x14.trans e15) tb15 (fun E Q h => ⟨_, rfl, h⟩) fun H16 e16 tb16 => ?_
    have x16 := (x14.trans e15).trans e16
    have hl16 := exn_lst e16 (exn_lst e15 hl14')
    refine ⟨l14, _, _, rfl, rfl, hl16, small1000 (Nat.le_of_ble_eq_true rfl), ?_⟩
    have hl17 : upd H16 l14 (.lst (txs [wRows] ++ [V.str wRows])) l14 = some (.lst (txs [wRows, wRows])) := upd_same
    have tb17 := tabs_updl (o := .lst (txs [wRows] ++ [V.str wRows])) tb16 hl16
    have x17 : ExtN H11 (upd H16 l14 (.lst (txs [wRows] ++ [V.str wRows]))) := exn_upd x16 nl
    generalize upd H16 l14 (.lst (txs [wRows] ++ [V.str wRows])) = H17 at hl17 tb17 x17 ⊢
    refine ⟨_, rfl, .inl ⟨rfl, _, SqL.of hl17⟩, tb17, fun H18 e18 tb18 => ?_⟩
    refine tt_word wd_r (cm_sq2 od11.rs) (x17.trans e18) tb18 (fun E Q h => ⟨_, rfl, h⟩) fun H19 e19 tb19 => ?_
    have x19 := (x17.trans e18).trans e19
    have hl19 := exn_lst e19 (exn_lst e18 hl17)
    refine ⟨l14, _, _, rfl, rfl, hl19, small1000 (Nat.le_of_ble_eq_true rfl), ?_⟩
    have hl20 : upd H19 l14 (.lst (txs [wRows, wRows] ++ [V.str wRows])) l14 = some (.lst (txs [wRows, wRows, wRows])) := upd_same
    have tb20 := tabs_updl (o := .lst (txs [wRows, wRows] ++ [V.str wRows])) tb19 hl19
    have x20 : ExtN H11 (upd H19 l14 (.lst (txs [wRows, wRows] ++ [V.str wRows]))) := exn_upd x19 nl
    generalize upd H19 l14 (.lst (txs [wRows, wRows] ++ [V.str wRows])) = H20 at hl20 tb20 x20 ⊢
    -- told; columns of another form
    refine ⟨_, rfl, ?_⟩
    refine rd_ne (n := 3) (z := wRows) hl20 (by omega) (by decide +kernel) (by decide +kernel) fun H21 s21 => ?_
    rw [show (!PyData.eqv (txd [wRows, wRows, wRows]) (txd (List.replicate 3 wRows))) = false by decide +kernel]
    refine ⟨_, rfl, iteF ?_⟩
    have x21 := x20.trans (ExtN.of s21)
    have tb21 := tb20.ext s21
    have hd21 := exn_dice x21 hd11
    have rn21 := rn11.trans (RlN.ex hd11 x21)
    have od21 := (Ko.ext x21).odR od11
    have on21 := (Ko.ext x21).odN on11
    have om21 := (Ko.ext x21).odN om11
    have dr21 := dr11.ext x21
    clear dr11 od11 on11 om11 tb11 hd11 x20 x19 x17 x16 x14 x13
    have SX : SixC K C IR IO Tt _ _ _ _ _ _ _ _ _ _ := six_cols dr21.tm dr21.ak.rs on21 om21
    refine ⟨_, rfl, _, rfl, _, rfl, _, _, _, _, _, _, _, _, _, rfl, tb21, SX.wd, SX.c1, SX.c2, SX.c3, SX.c4, SX.c5, SX.c6, fun l H22 e22 tb22 hl22 => ?_⟩
    refine rd_ne (n := 6) (z := wRows) hl22 (by omega) (by decide +kernel) (by decide +kernel) fun H23 s23 => ?_
    rw [show (!PyData.eqv (txd [wRows, wRows, wRows, wRows, wRows, wRows]) (txd (List.replicate 6 wRows))) = false by decide +kernel]
    refine ⟨_, rfl, iteF ?_⟩
    have x23 := e22.trans (ExtN.of s23)
    have tb23 := tb22.ext s23
    have hd23 := exn_dice x23 hd21
    have rn23 := rn21.trans (RlN.ex hd21 x23)
    have od23 := (Ko.ext x23).odR od21
    have on23 := (Ko.ext x23).odN on21
    have dr23 := dr21.ext x23
    -- what returns
    have SX : SixC K C IR IO Tt _ _ _ _ _ _ _ _ _ _ := six_ok dr23
    refine ⟨_, rfl, _, rfl, _, rfl, _, _, _, _, _, _, _, _, _, rfl, tb23, SX.wd, SX.c1, SX.c2, SX.c3, SX.c4, SX.c5, SX.c6, fun l H24 e24 tb24 hl24 => ?_⟩
    refine rd_ne (n := 6) (z := wRet) hl24 (by omega) (by decide +kernel) (by decide +kernel) fun H25 s25 => ?_
    rw [show (!PyData.eqv (txd [wRet, wRet, wRet, wRet, wRet, wRet]) (txd (List.replicate 6 wRet))) = false by decide +kernel]
    refine ⟨_, rfl, iteF ?_⟩
    have x25 := e24.trans (ExtN.of s25)
    have tb25 := tb24.ext s25
    have hd25 := exn_dice x25 hd23
    have rn25 := rn23.trans (RlN.ex hd23 x25)
    have od25 := (Ko.ext x25).odR od23
    have on25 := (Ko.ext x25).odN on23
    have dr25 := dr23.ext x25
    have SX : SixC K C IR IO Tt _ _ _ _ _ _ _ _ _ _ := six_mix dr25 on25
    refine ⟨_, rfl, _, rfl, _, rfl, _, _, _, _, _, _, _, _, _, rfl, tb25, SX.wd, SX.c1, SX.c2, SX.c3, SX.c4, SX.c5, SX.c6, fun l H26 e26 tb26 hl26 => ?_⟩
    refine ⟨_, rfl, _, rfl, l, _, rfl, SqL.of hl26, fun l27 nl27 => ?_⟩
    have s27 := same_new (o := .lst (cutV (txs [wRows, wRet, wRet, wRet, wRet, wRet]) (some 1) (some 4))) nl27
    have hl27 : upd H26 l27 (.lst (cutV (txs [wRows, wRet, wRet, wRet, wRet, wRet]) (some 1) (some 4))) l27 = some (.lst (txs [wRet, wRet, wRet])) := upd_same
    have tb27 := tb26.ext s27
    generalize upd H26 l27 (.lst (cutV (txs [wRows, wRet, wRet, wRet, wRet, wRet]) (some 1) (some 4))) = H27 at s27 hl27 tb27 ⊢
    refine rd_ne (n := 3) (z := wRet) hl27 (by omega) (by decide +kernel) (by decide +kernel) fun H28 s28 => ?_
    rw [show (!PyData.eqv (txd [wRet, wRet, wRet]) (txd (List.replicate 3 wRet))) = false by decide +kernel]
    refine ⟨_, rfl, iteF ?_⟩
    have x28 := (e26.trans (ExtN.of s27)).trans (ExtN.of s28)
    have tb28 := tb27.ext s28
    have hd28 := exn_dice x28 hd25
    have rn28 := rn25.trans (RlN.ex hd25 x28)
    have od28 := (Ko.ext x28).odR od25
    have on28 := (Ko.ext x28).odN on25
    have dr28 := dr25.ext x28
    -- the judges
    refine ⟨_, rfl, _, rfl, _, rfl, a, tp2, v, pss, n, onP pss.length, rfl, dr28.tm, dr28.ak.rs, dr28.tt, onP_len _, .inr ⟨od28.told _ _, od28.told _ _, fun H29 s29 => ?_⟩⟩
    have dr29 := dr28.ext (ExtN.of s29)
    have on29 := (Ko.same s29).odN on28
    refine ⟨_, rfl, _, rfl, _, rfl, a, tp2, u, pss, n, onP pss.length, rfl, dr29.tm, dr29.ak.rs, dr29.tt, onP_len _, .inr ⟨on29.told (by decide +kernel) _, on29.told (by decide +kernel) _, fun H30 s30 => ?_⟩⟩
    refine ⟨small1000 (Nat.le_of_ble_eq_true rfl), fun p1 hp1 => ?_⟩
    have s31 := same_new (o := .lst [V.bl false, V.bl false]) hp1
    refine ⟨small1000 (Nat.le_of_ble_eq_true rfl), fun p2 hp2 => ?_⟩
    have s32 := same_new (o := .lst [V.bl false, V.bl false]) hp2
    refine ⟨.list [.bool false, .bool false], .list [.bool false, .bool false], .lst (SqL.of (s32 _ _ upd_same)) (.cons (.bl _) (.cons (.bl _) .nil)), .lst (SqL.of upd_same) (.cons (.bl _) (.cons (.bl _) .nil)), by decide +kernel, by decide +kernel, ?_⟩
    rw [show PyData.eqv (.list [.bool false, .bool false]) (.list [.bool false, .bool false]) = true by decide +kernel]
    have sE := ((s29.trans s30).trans s31).trans s32
    exact q _ (rn28.trans (RlN.ex hd28 (ExtN.of sE))) (tb28.ext sE)
end
end FR
set_option Elab.async false
set_option linter.all false
set_option maxRecDepth 100000
set_option maxHeartbeats 4000000
/-! _law_square_right -/
namespace FR
open PySem PySem.Spec PyProof.Rows L2 LD RF CN LK LamX NdefX RZ
abbrev sSq8 : Stmt := top 70
abbrev NSq8 : List Str := ["_law_dice_here", "_law_size", "_law_row", "_law_below", "_law_told", "_law_some", "_law_place"]
theorem scSq8 : FnScope NSq8 ["_law_dice_here"] (defScope sSq8) := ⟨rfl, rfl, rfl, by decide +kernel, rfl, by decide +kernel, by decide +kernel⟩
def qSq8 : Str := "_law_square_right.<locals>.<lambda>"
theorem wd_o : Wd wOp := .inr (.inr rfl)
theorem tx_snoc (w : Str) (k : Nat) : txs (List.replicate k w) ++ [V.str w] = txs (List.replicate (k + 1) w) := by
  unfold txs
  rw [List.map_replicate, List.map_replicate, List.replicate_succ']
theorem cut_last (xs : List V) (h : 0 < xs.length) : cutV xs none (some (-1)) = xs.take (xs.length - 1) ∧ ¬ (HT.sIx xs.length 0 none = 0 ∧ HT.sIx xs.length xs.length (some (-1)) = xs.length) := by
  have e : HT.sIx xs.length xs.length (some (-1)) = xs.length - 1 := by
    show (if (-1 : Int) < 0 then ((-1 : Int) + (xs.length : Int)).toNat else min (-1 : Int).toNat xs.length) = _
    rw [if_pos (by decide)]
    omega
  refine ⟨?_, fun z => ?_⟩
  · unfold cutV
    rw [HT.sIx_none, e]
    simp
  · rw [e] at z
    omega
/-! ### rows made of one -/
def ipP (rs : List Int) : List PI := rs.map fun i => (i, 1)
theorem ip_fvs {C : Addr} {H : Hp} : ∀ rs : List Int, FVs C H (rs.map V.int) (ipP rs)
  | [] => A2.nil
  | i :: r => A2.cons (.inr ⟨rfl, rfl⟩) (ip_fvs r)
theorem A2.app {R : V → PI → Prop} : ∀ {xs ys : List V} {as bs : List PI}, A2 R xs as → A2 R ys bs → A2 R (xs ++ ys) (as ++ bs)
  | [], ys, [], bs, _, g => g
  | [], _, _ :: _, _, h, _ => by simp [A2] at h
  | _ :: _, _, [], _, h, _ => by simp [A2] at h
  | x :: xs, ys, a :: as, bs, h, g => by
    obtain ⟨r, h⟩ := A2.uncons h
    exact A2.cons r (A2.app h g)
theorem rs_of {pss : List (List PI)} {n : Nat} (l1 : 0 < pss.length) (l80 : pss.length ≤ 80) (n1 : 0 < n) (n12 : n ≤ 12) (hz : ∀ ps ∈ pss, ps.length = n ∧ ∀ p ∈ ps, Q12 112 p) : Rs pss n := ⟨l1, l80, n1, n12, fun ps m => (hz ps m).1, fun ps m => (cd_12 (hz ps m).2).lf, fun ps m => (cd_12 (hz ps m).2).shr (by omega)⟩
/-- a tuple of such rows -/
theorem tm_of {C : Addr} {H : Hp} {a : Addr} {vs : List V} {pss : List (List PI)} (ha : H a = some (.tup vs)) (h : AG (fun v ps => ∃ q, v = .ref q ∧ TV C H q ps) vs pss) (hz : ∀ ps ∈ pss, ps.length ≤ 80 ∧ ∀ p ∈ ps, Q12 112 p) : TMx C H a pss := TT.mx ⟨vs, ha, h⟩ fun ps m => ⟨(hz ps m).1, (cd_12 (hz ps m).2).lf, (cd_12 (hz ps m).2).shr (by omega)⟩
theorem ag_same {C : Addr} {H : Hp} {q : Addr} {ps : List PI} (h : TV C H q ps) (k : Nat) : AG (fun v ps => ∃ q, v = V.ref q ∧ TV C H q ps) (List.replicate k (V.ref q)) (List.replicate k ps) := by
  refine ⟨by rw [List.length_replicate, List.length_replicate], fun i v hv => ?_⟩
  rw [List.getElem?_replicate] at hv ⊢
  split at hv
  · next z =>
    rw [if_pos z]
    cases hv
    exact ⟨_, rfl, _, rfl, h⟩
  · cases hv
theorem Ko.mx {C : Addr} {H H' : Hp} (k : Ko H H') {a : Addr} {pss : List (List PI)} (h : TMx C H a pss) : TMx C H' a pss := by
  obtain ⟨vs, e, f⟩ := h
  exact ⟨vs, k.tup e, f.imp fun _ _ ⟨q, e, t⟩ => ⟨q, e, k.tv t.at_, t.few, t.lf, t.sz⟩⟩
theorem Ko.sq {C : Addr} {H H' : Hp} (k : Ko H H') {v : V} (h : SqX C H v) : SqX C H' v := by
  obtain ⟨a, pss, n, e, tm, R, b⟩ := h
  exact ⟨a, pss, n, e, k.mx tm, R, b⟩
theorem tt_tupz {T : List (Addr × Str)} {IR IO : Addr} {sp : Sp} {v c : V} {z w : Str} {H1 : Hp} {Q : VK} {tl : XK → Hp → VK → Prop} (hw : Wd w) (h : ∀ p H2, ExtN H1 H2 → Comes T IR IO sp [v, .ref p] w H2) (tb : Tabs T H1)
    (ht : ∀ E Q, (∀ p, H1 p = none → sp [v, .ref p] (upd H1 p (.tup [.str z, c])) Q E) → tl E H1 Q) (q : ∀ H', ExtN H1 H' → Tabs T H' → Q (.str w) H') : TTword IR IO tl H1 Q :=
  ht _ _ fun p hp => by
    have s := same_new (o := .tup [.str z, c]) hp
    exact comes_word hw (h p _ (ExtN.of s)) _ (ExtN.refl _) (tb.ext s) fun H' e' t' => q H' ((ExtN.of s).trans e') t'
theorem tt_any {T : List (Addr × Str)} {IR IO : Addr} {sp : Sp} {G : Addr → Hp → Prop} {w : Str} {H1 : Hp} {Q : VK} {tl : XK → Hp → VK → Prop} (hw : Wd w) (h : ∀ p H2, Same H1 H2 → G p H2 → Comes T IR IO sp [.ref p] w H2) (tb : Tabs T H1)
    (ht : ∀ E Q, (∀ p H2, Same H1 H2 → G p H2 → sp [.ref p] H2 Q E) → tl E H1 Q) (q : ∀ H', ExtN H1 H' → Tabs T H' → Q (.str w) H') : TTword IR IO tl H1 Q :=
  ht _ _ fun p H2 s g => comes_word hw (h p H2 s g) H2 (ExtN.refl _) (tb.ext s) fun H' e' t' => q H' ((ExtN.of s).trans e') t'
section
variable {P : Program} {w : World} {K : PySem.W.Frag} {mg : Str → Option Value} {base : Heap} {C IR IO EE fI pT gT pB gB : Addr} {fdI fdT fdB : FuncData} {Tt : List (Addr × Str)}
theorem ok_sq8 {f cc Pt g : Addr} {fd : FuncData} (F : FunC K "_law_square_right" "_law_square_right" sSq8 f fd cc) (k : FrK P w K mg base C fI pT gT pB gB fdI fdT fdB) (Wt : WordT K mg g IR IO EE) (B : TabB base mg cc Pt) (mT : (Pt, qSq8) ∈ Tt) (uT : ∀ p ∈ Tt, p.1 = Pt → p.2 = qSq8)
    (gR : Glo P w K mg base "_law_roll" 1 ["_law_dice_here", "_law_total"] spRoll) (gFl : GloX P w K mg base "falling" 7 ["rows"] (spFlB K C IR IO Tt)) (gIg : GloX P w K mg base "is_falling" 8 ["rows", "value"] (spSq2 K C IR IO)) (mR : mg "range" = none) (mTu : mg "tuple" = none) : FnOk P w K mg base CX0 12 f fd ["_law_dice_here"] (spRi Tt) := by
  refine F.ok scSq8 (fun vs H Q E h => ?_) (fun A outer s H vs Q E hr h => ?_)
  · obtain ⟨d, rfl, _⟩ := h
    rfl
  · obtain ⟨d, rfl, hd, tb, q⟩ := h
    refine ⟨_, (pss_cons (ps_set (i := 1) scSq8.nd rfl (Or.inr rfl) (pe_op op_add pe_int (pe_call gR.G (hr.mono (by decide)) (by rfl) gR.m gR.k gR.b .nil pass0 (pa_cons (pv 0) (pa_cons pe_int pa_nil)))))
      (pss_cons (ps_set (i := 2) scSq8.nd rfl (Or.inr rfl) (pe_callTy call_tuple_of (by rfl) mTu (by decide +kernel) (pa_cons (pe_lc (X := (cxOf CX0 P w K mg base NSq8 "_law_square_right" (defScope sSq8) f (.ref cc) A outer s H E).nox) (own := [("_law_place", 6)]) (g := (gName 6)) (tt := tYes) rfl scSq8.nd (pi_range1 (by rfl) mR (pa_cons (pv 1) pa_nil)) (blkOk_by (N := NSq8) (sc := defScope sSq8) (by decide +kernel)) (fun _ _ _ _ _ => (pg_name (i := 6) scSq8.nd rfl (.inl rfl))) (fun _ _ _ _ _ => pts_nil) (fun _ _ _ _ _ => (pe_call gR.G (hr.mono (by decide)) (by rfl) gR.m gR.k gR.b .nil pass0 (pa_cons (pv 0) (pa_cons pe_int pa_nil))))) pa_nil)))
      (pss_cons (ps_set (i := 3) scSq8.nd rfl (Or.inl rfl) (pe_op op_catA (pe_op op_repX (pe_tup (pa_cons (pv 2) pa_nil)) (pe_op op_sub (pv 1) pe_int)) (pe_tup (pa_cons (pe_op op_catA (pe_slice sl_tupA (pv 2) po_none (po_some (pe_un un_neg pe_int))) (pe_tup (pa_cons (pe_make k.M k.GI (hr.mono (by decide)) (by rfl) k.T.mC k.b2 .nil pass0 (pa_cons (pe_un un_neg pe_int) (pa_cons pe_int pa_nil))) pa_nil))) pa_nil))))
      (pss_cons (ps_set (i := 4) scSq8.nd rfl (Or.inl rfl) (pe_lst pa_nil))
      (pss_cons (ps_for PassesOwn.never rfl (pi_tup (pe_tup (pa_cons (pe_op op_repX (pe_tup (pa_cons (pv 2) pa_nil)) (pe_op op_add (pv 1) pe_int)) (pa_cons (pe_op op_repX (pe_tup (pa_cons (pe_op op_catA (pv 2) (pe_tup (pa_cons pe_int pa_nil))) pa_nil)) (pv 1)) (pa_cons (pv 3) pa_nil))))) (pg_name (i := 5) scSq8.nd rfl (.inr rfl)) (pss_cons (ps_expr (pe_bm PySem.F.plainAttrs_list PySem.F.slot_list_append PySem.F.type_list_append mt_append (pv 4) (pa_cons (pe_word (X := (cxOf CX0 P w K mg base NSq8 "_law_square_right" (defScope sSq8) f (.ref cc) A outer s H E).nox) (T := Tt) (c := cc) (P := Pt) (k := 7) (t := fun E => tCall (spFlB K C IR IO Tt) [] E (tCons (tVar 5) tNil)) Wt (by rfl) B rfl mT uT (hr.mono (by decide)) (lamS_by (by show lamSB (defScope sSq8) _ = true; decide +kernel)) rfl (fun _ _ _ _ _ => rfl) (fun A2 outer2 s2 H2 E2 f2 c2 hr2 => pe_call gFl.G hr2 (by rfl) gFl.m gFl.k gFl.b .nil (passes_call (takes_of rfl rfl rfl rfl) fun _ _ _ _ h => h) (pa_cons (pv 5) pa_nil))) pa_nil))) (pss_one (ps_expr (pe_bm PySem.F.plainAttrs_list PySem.F.slot_list_append PySem.F.type_list_append mt_append (pv 4) (pa_cons (pe_word (X := (cxOf CX0 P w K mg base NSq8 "_law_square_right" (defScope sSq8) f (.ref cc) A outer s H E).nox) (T := Tt) (c := cc) (P := Pt) (k := 8) (t := fun E => tCall (spSq2 K C IR IO) [] E (tCons (tVar 5) (tCons (tTup (tCons (tC (.str "kept")) (tCons (tVar 2) tNil))) tNil))) Wt (by rfl) B rfl mT uT (hr.mono (by decide)) (lamS_by (by show lamSB (defScope sSq8) _ = true; decide +kernel)) rfl (fun _ _ _ _ _ => rfl) (fun A2 outer2 s2 H2 E2 f2 c2 hr2 => pe_call gIg.G hr2 (by rfl) gIg.m gIg.k gIg.b .nil (passes_call (takes_of rfl rfl rfl rfl) fun _ _ _ _ h => h) (pa_cons (pv 5) (pa_cons (pe_tup (pa_cons pe_str (pa_cons (pv 2) pa_nil))) pa_nil)))) pa_nil))))))
      (pss_one (ps_ret (pe_and (pe_cmpR (op_eqD hr.units) (pv 4) (pe_op op_rep (pe_lst (pa_cons pe_str pa_nil)) pe_int) (nomark _)) (pe_one (pe_cmpR op_eq (pe_word (X := (cxOf CX0 P w K mg base NSq8 "_law_square_right" (defScope sSq8) f (.ref cc) A outer s H E).nox) (T := Tt) (c := cc) (P := Pt) (k := 7) (t := fun E => tCall (spFlB K C IR IO Tt) [] E (tCons (tOp (rRepX K) (tTup (tCons (tVar 2) tNil)) (tVar 1)) tNil)) Wt (by rfl) B rfl mT uT (hr.mono (by decide)) (lamS_by (by show lamSB (defScope sSq8) _ = true; decide +kernel)) rfl (fun _ _ _ _ _ => rfl) (fun A2 outer2 s2 H2 E2 f2 c2 hr2 => pe_call gFl.G hr2 (by rfl) gFl.m gFl.k gFl.b .nil (passes_call (takes_of rfl rfl rfl rfl) fun _ _ _ _ h => h) (pa_cons (pe_op op_repX (pe_tup (pa_cons (pv 2) pa_nil)) (pv 1)) pa_nil))) pe_str (nomark _))))))))))), ?_⟩
    -- the size
    refine ⟨_, rfl, d, 4, rfl, hd, by decide, by decide, fun r x y u r0 r4 => ?_⟩
    have R1 : Rl d H (upd H d (.lst (dxs x y u))) := (Rl.refl hd).roll
    generalize upd H d _ = H1 at R1 ⊢
    obtain ⟨n, hn, n1, n4⟩ : ∃ n : Nat, (1 : Int) + r = (n : Int) ∧ 1 ≤ n ∧ n ≤ 4 := ⟨(1 + r).toNat, by omega, by omega, by omega⟩
    have he : (fun i j : Int => V.int (i + j)) 1 r = V.int (n : Int) := by show V.int (1 + r) = _; rw [hn]
    refine ⟨_, _, rfl, rfl, ?_⟩
    rw [he]
    -- the row
    refine ⟨_, rfl, (n : Int), rfl, by omega, by omega, fun D hD => ?_⟩
    have natn : ((n : Int)).toNat = n := by omega
    rw [natn]
    have Dd := dice_ne R1.1 hD
    refine lc_range (lo := 0) (n := n) (fun j Hx => Rl d H1 Hx ∧ ∃ rs : List Int, Hx D = some (.lst (rs.map V.int)) ∧ rs.length = j ∧ ∀ i ∈ rs, 0 ≤ i ∧ i ≤ 2) ⟨(Rl.refl R1.1).grow hD Dd, [], upd_same, rfl, fun _ m => (by cases m)⟩ ?_ ?_
    · rintro j Hx hj ⟨rx, rs, hDx, lj, hq⟩
      refine ⟨rfl, _, rfl, d, 3, rfl, rx.1, by decide, by decide, fun z x2 y2 u2 z0 z3 => ?_⟩
      have rr : Rl d Hx (upd Hx d (.lst (dxs x2 y2 u2))) := (Rl.refl rx.1).roll
      have e : upd Hx d (.lst (dxs x2 y2 u2)) D = some (.lst (rs.map V.int)) := by rw [upd_ne Dd]; exact hDx
      refine ⟨rs.map V.int, e, small1000 (by rw [List.length_map]; omega), (rx.trans rr).grow hD Dd, rs ++ [z], ?_, by rw [List.length_append, lj]; rfl, fun i m => ?_⟩
      · rw [List.map_append]; exact upd_same
      · rcases List.mem_append.mp m with m | m
        · exact hq i m
        · rw [List.mem_singleton.mp m]; omega
    rintro H2 ⟨r2, rs, hD2, lrs, hrs⟩
    refine ⟨D, _, rfl, .inl ⟨SqL.of hD2, fun rw_ nrw => ?_⟩⟩
    have s3 := same_new (o := .tup (rs.map V.int)) nrw
    have hrw : upd H2 rw_ (.tup (rs.map V.int)) rw_ = some (.tup (rs.map V.int)) := upd_same
    have hd3 := dice_same s3 r2.1
    have rn3 := ((RlN.of R1).trans (RlN.of r2)).trans (RlN.ex r2.1 (ExtN.of s3))
    have tb3 := (Tabs.rl (Tabs.rl tb hd R1) R1.1 r2).ext s3
    generalize upd H2 rw_ (.tup (rs.map V.int)) = H3 at hrw hd3 tb3 rn3 ⊢
    have qrs : ∀ p ∈ ipP rs, Q12 112 p := fun p m => by
      obtain ⟨i, mi, rfl⟩ := List.mem_map.mp m
      have := hrs i mi
      exact ⟨Lf.one i, ⟨12, by show (12 : Int) = 1 * 12; decide⟩, by show i.natAbs ≤ 112 * 1; omega⟩
    have lip : (ipP rs).length = n := by unfold ipP; rw [List.length_map, lrs]
    have lv : (rs.map V.int).length = n := by rw [List.length_map, lrs]
    -- below
    refine ⟨_, rfl, small1000 (Nat.le_of_ble_eq_true rfl), fun p1 hp1 => ?_⟩
    have s4 := same_new (o := .tup [V.ref rw_]) hp1
    refine ⟨_, rfl, _, _, rfl, rfl, ?_⟩
    have he2 : (fun i j : Int => V.int (i - j)) (n : Int) 1 = V.int ((n - 1 : Nat) : Int) := by show V.int ((n : Int) - 1) = _; congr 1; omega
    rw [he2]
    refine repX_any (n := n - 1) upd_same (by omega) fun p2 H5 s5 h5 => ?_
    have s45 := s4.trans s5
    have hrw5 := s45 _ _ hrw
    obtain ⟨ec, ew⟩ := cut_last (rs.map V.int) (by omega)
    refine ⟨_, rfl, _, rfl, _, rfl, rw_, _, rfl, SqT.of hrw5, fun z => (ew z).elim, fun _ p3 hp3 => ?_⟩
    rw [ec]
    have s6 := same_new (o := .tup ((rs.map V.int).take ((rs.map V.int).length - 1))) hp3
    have h6 : upd H5 p3 (.tup ((rs.map V.int).take ((rs.map V.int).length - 1))) p3 = some (.tup ((rs.map V.int).take ((rs.map V.int).length - 1))) := upd_same
    generalize upd H5 p3 (.tup ((rs.map V.int).take ((rs.map V.int).length - 1))) = H6 at s6 h6 ⊢
    refine ⟨_, rfl, fun xf dx nx nd ne => ⟨xf, dx, -1, 3, rfl, upd_same, by decide, dv8 (by decide) (by decide), fun H7 hf7 hs7 => ⟨rfl, ?_⟩⟩⟩
    have s7 : Same H6 H7 := same_make (C := C) nx nd hs7
    refine ⟨small1000 (Nat.le_of_ble_eq_true rfl), fun p4 hp4 => ?_⟩
    have s8 := same_new (o := .tup [V.ref xf]) hp4
    refine catX_any ((s7.trans s8) _ _ h6) upd_same (by rw [List.length_take, lv]; show _ + 1 ≤ 1000; omega) (by simp) fun p5 H9 s9 h9 => ?_
    have s79 := (s7.trans s8).trans s9
    refine ⟨small1000 (Nat.le_of_ble_eq_true rfl), fun p6 hp6 => ?_⟩
    have s10 := same_new (o := .tup [V.ref p5]) hp6
    have s5x := ((s6.trans s79).trans s10)
    refine catX_any (s5x _ _ h5) upd_same (by rw [List.length_replicate]; show _ + 1 ≤ 1000; omega) (by simp) fun pb H11 s11 h11 => ?_
    have s3x := (s45.trans s5x).trans s11
    have hd11 := dice_same s3x hd3
    have rn11 := rn3.trans (RlN.ex hd3 (ExtN.of s3x))
    have tb11 := tb3.ext s3x
    have hrw11 := s3x _ _ hrw
    have tvr : TV C H11 rw_ (ipP rs) := ⟨_, hrw11, ip_fvs rs⟩
    have fx11 : FrAt C H11 xf (-1) 3 := ((hf7.same (((s8.trans s9).trans s10).trans s11)) : FrAt C H11 xf (nT (-1) 3) (nB (-1) 3))
    have tvl : TV C H11 p5 ((ipP rs).take (n - 1) ++ [(-1, 3)]) := by
      refine ⟨_, (s10.trans s11) _ _ h9, A2.app ?_ (A2.cons (.inl ⟨xf, rfl, fx11⟩) A2.nil)⟩
      rw [lv]
      have e : (ipP rs).take (n - 1) = ipP (rs.take (n - 1)) := by unfold ipP; rw [List.map_take]
      rw [e, ← List.map_take]
      exact ip_fvs _
    have qbl : ∀ p ∈ (ipP rs).take (n - 1) ++ [((-1 : Int), (3 : Int))], Q12 112 p := fun p m => by
      rcases List.mem_append.mp m with m | m
      · exact qrs p (List.mem_of_mem_take m)
      · rw [List.mem_singleton.mp m]
        exact ⟨⟨by decide, by decide⟩, ⟨4, by decide⟩, by decide⟩
    have lbl : ((ipP rs).take (n - 1) ++ [((-1 : Int), (3 : Int))]).length = n := by rw [List.length_append, List.length_take, lip]; show min (n - 1) n + 1 = n; omega
    have sqB : SqX C H11 (.ref pb) := by
      have hz : ∀ ps ∈ List.replicate (n - 1) (ipP rs) ++ [(ipP rs).take (n - 1) ++ [((-1 : Int), (3 : Int))]], ps.length = n ∧ ∀ p ∈ ps, Q12 112 p := fun ps m => by
        rcases List.mem_append.mp m with m | m
        · rw [List.eq_of_mem_replicate m]; exact ⟨lip, qrs⟩
        · rw [List.mem_singleton.mp m]; exact ⟨lbl, qbl⟩
      have ll : (List.replicate (n - 1) (ipP rs) ++ [(ipP rs).take (n - 1) ++ [((-1 : Int), (3 : Int))]]).length = n := by rw [List.length_append, List.length_replicate]; show n - 1 + 1 = n; omega
      refine ⟨pb, _, n, rfl, tm_of h11 (AG.app (ag_same tvr (n - 1)) (AG.consA ⟨p5, rfl, tvl⟩ AG.nil)) fun ps m => ⟨by rw [(hz ps m).1]; omega, (hz ps m).2⟩, rs_of (by omega) (by omega) (by omega) (by omega) hz, .inr ?_⟩
      unfold negR
      rw [List.any_eq_true]
      refine ⟨_, List.mem_append_right _ (List.mem_singleton.mpr rfl), ?_⟩
      unfold negB
      rw [List.any_eq_true]
      exact ⟨(-1, 3), List.mem_append_right _ (List.mem_singleton.mpr rfl), by decide⟩
    clear s3x s5x s79 s45 h9 h11 h5 h6 s4 s5 s6 s7 s8 s9 s10 s11 tvl hf7 hs7 fx11 qbl lbl hrw5 ec ew nx nd ne tb3 hd3 hrw
    -- told
    refine ⟨Nat.zero_le _, fun l nl => ?_⟩
    have s12 := same_new (o := .lst []) nl
    have hl12 : upd H11 l (.lst []) l = some (.lst []) := upd_same
    have hd12 := dice_same s12 hd11
    have tb12 := tb11.ext s12
    have tvr12 := tvr.same s12
    have sqB12 := (Ko.same s12).sq sqB
    have hrw12 := s12 _ _ hrw11
    have kl12 : Kl d l H11 (upd H11 l (.lst [])) := fun q o _ _ e _ => s12 _ _ e
    generalize upd H11 l (.lst []) = H12 at hl12 hd12 tb12 tvr12 sqB12 hrw12 kl12 ⊢
    have ld : l ≠ d := fun z => by
      obtain ⟨_, _, _, h9⟩ := hd11
      rw [z, h9] at nl
      cases nl
    -- the three
    refine ⟨_, rfl, small1000 (Nat.le_of_ble_eq_true rfl), fun q1 hq1 => ?_⟩
    have t1 := same_new (o := .tup [V.ref rw_]) hq1
    refine ⟨_, rfl, _, _, rfl, rfl, ?_⟩
    have he3 : (fun i j : Int => V.int (i + j)) (n : Int) 1 = V.int ((n + 1 : Nat) : Int) := by show V.int ((n : Int) + 1) = _; congr 1
    rw [he3]
    refine repX_any (n := n + 1) upd_same (by omega) fun qa H14 t2 ha14 => ?_
    have t12 := t1.trans t2
    refine ⟨_, rfl, small1000 (Nat.le_of_ble_eq_true rfl), fun q2 hq2 => ?_⟩
    have t3 := same_new (o := .tup [V.int 1]) hq2
    refine catX_any ((t12.trans t3) _ _ hrw12) upd_same (by rw [lv]; show n + 1 ≤ 1000; omega) (by simp) fun q3 H16 t4 h16 => ?_
    refine ⟨small1000 (Nat.le_of_ble_eq_true rfl), fun q4 hq4 => ?_⟩
    have t5 := same_new (o := .tup [V.ref q3]) hq4
    refine ⟨_, rfl, ?_⟩
    refine repX_any (n := n) upd_same (by omega) fun qb H18 t6 hb18 => ?_
    refine ⟨_, rfl, small1000 (Nat.le_of_ble_eq_true rfl), fun q5 hq5 => ?_⟩
    have t7 := same_new (o := .tup [V.ref qa, V.ref qb, V.ref pb]) hq5
    have h19 : upd H18 q5 (.tup [V.ref qa, V.ref qb, V.ref pb]) q5 = some (.tup [V.ref qa, V.ref qb, V.ref pb]) := upd_same
    have u4 := (t3.trans t4).trans ((t5.trans t6).trans t7)
    have u0 := t12.trans u4
    have hd19 := dice_same u0 hd12
    have tb19 := tb12.ext u0
    have hl19 := u0 _ _ hl12
    have kl19 := kl12.ext (ExtN.of u0)
    have tv19 := tvr12.same u0
    have sB19 := (Ko.same u0).sq sqB12
    have ha19 := u4 _ _ ha14
    have hb19 := t7 _ _ hb18
    have h16' := ((t5.trans t6).trans t7) _ _ h16
    generalize upd H18 q5 (.tup [V.ref qa, V.ref qb, V.ref pb]) = H19 at h19 hd19 tb19 hl19 tv19 sB19 ha19 hb19 h16' kl19 ⊢
    have sA19 : SqX C H19 (.ref qa) := by
      have hz : ∀ ps ∈ List.replicate (n + 1) (ipP rs), ps.length = n ∧ ∀ p ∈ ps, Q12 112 p := fun ps m => by rw [List.eq_of_mem_replicate m]; exact ⟨lip, qrs⟩
      refine ⟨qa, _, n, rfl, tm_of ha19 (ag_same tv19 (n + 1)) fun ps m => ⟨by rw [(hz ps m).1]; omega, (hz ps m).2⟩, rs_of (by rw [List.length_replicate]; omega) (by rw [List.length_replicate]; omega) (by omega) (by omega) hz, .inl ?_⟩
      rw [List.length_replicate]; omega
    have sC19 : SqX C H19 (.ref qb) := by
      have tv3 : TV C H19 q3 (ipP (rs ++ [1])) := ⟨_, h16', by
        have := ip_fvs (C := C) (H := H19) (rs ++ [1])
        rw [List.map_append] at this
        exact this⟩
      have l3 : (ipP (rs ++ [1])).length = n + 1 := by unfold ipP; rw [List.length_map, List.length_append, lrs]; rfl
      have q3' : ∀ p ∈ ipP (rs ++ [1]), Q12 112 p := fun p m => by
        obtain ⟨i, mi, rfl⟩ := List.mem_map.mp m
        have : 0 ≤ i ∧ i ≤ 2 := by
          rcases List.mem_append.mp mi with m | m
          · exact hrs i m
          · rw [List.mem_singleton.mp m]; omega
        exact ⟨Lf.one i, ⟨12, by show (12 : Int) = 1 * 12; decide⟩, by show i.natAbs ≤ 112 * 1; omega⟩
      have hz : ∀ ps ∈ List.replicate n (ipP (rs ++ [1])), ps.length = n + 1 ∧ ∀ p ∈ ps, Q12 112 p := fun ps m => by rw [List.eq_of_mem_replicate m]; exact ⟨l3, q3'⟩
      refine ⟨qb, _, n + 1, rfl, tm_of hb19 (ag_same tv3 n) fun ps m => ⟨by rw [(hz ps m).1]; omega, (hz ps m).2⟩, rs_of (by rw [List.length_replicate]; omega) (by rw [List.length_replicate]; omega) (by omega) (by omega) hz, .inl ?_⟩
      rw [List.length_replicate]; omega
    have sqs : ∀ (i : Nat) v, [V.ref qa, V.ref qb, V.ref pb][i]? = some v → SqX C H19 v := fun i v hv => by
      have m := List.mem_of_getElem? hv
      rcases List.mem_cons.mp m with e | m
      · rw [e]; exact sA19
      rcases List.mem_cons.mp m with e | m
      · rw [e]; exact sC19
      · rw [List.mem_singleton.mp m]; exact sB19
    refine ⟨q5, rfl, ⟨_, SqT.of h19⟩, ?_⟩
    refine for_tup (xs := [V.ref qa, V.ref qb, V.ref pb]) (fun i σ Hc => Kl d l H11 Hc ∧ Ko H19 Hc ∧ DiceAt Hc d ∧ Tabs Tt Hc ∧ Hc l = some (.lst (txs (List.replicate (2 * i) wOp))) ∧ ∃ x5 : Option V, σ = [some (.ref d), some (.int (n : Nat)), some (.ref rw_), some (.ref pb), some (.ref l), x5, none]) ⟨kl19, Ko.refl _, hd19, tb19, hl19, none, rfl⟩ (fun i σ Hc _ p => SqT.of (p.2.1.tup h19)) ?_ ?_
    · rintro i v σ Hc hvi ⟨kl, ko, hdc, tbc, hlc, x5, rfl⟩
      have il : i < 3 := (List.getElem?_eq_some_iff.mp hvi).1
      have sqv := ko.sq (sqs i v hvi)
      have lt : ∀ k, (txs (List.replicate k wOp)).length = k := fun k => by unfold txs; rw [List.length_map, List.length_replicate]
      refine ⟨_, rfl, .inl ⟨rfl, _, SqL.of hlc⟩, tbc, fun Ha ea tba => ?_⟩
      refine tt_word wd_o (cm_r (cm_op1 sqv)) ea tba (fun E Q h => ⟨_, rfl, h⟩) fun Hb eb tbb => ?_
      have eab := ea.trans eb
      have hlb := exn_lst eab hlc
      refine ⟨l, _, _, rfl, rfl, hlb, small1000 (by rw [lt]; omega), ?_⟩
      have kb := (Ko.ext eab).trans (Ko.upd (ys := txs (List.replicate (2 * i) wOp) ++ [V.str wOp]) hlb)
      have klb : Kl d l H11 (upd Hb l (.lst (txs (List.replicate (2 * i) wOp) ++ [V.str wOp]))) := (kl.ext eab).upd
      have hlb1 : upd Hb l (.lst (txs (List.replicate (2 * i) wOp) ++ [V.str wOp])) l = some (.lst (txs (List.replicate (2 * i + 1) wOp))) := by rw [upd_same, tx_snoc]
      have tb1 := tabs_updl (o := .lst (txs (List.replicate (2 * i) wOp) ++ [V.str wOp])) tbb hlb
      have hdb1 : DiceAt (upd Hb l (.lst (txs (List.replicate (2 * i) wOp) ++ [V.str wOp]))) d := by
        obtain ⟨a1, a2, a3, h9⟩ := exn_dice eab hdc
        exact ⟨a1, a2, a3, by rw [upd_ne (Ne.symm ld)]; exact h9⟩
      generalize upd Hb l (.lst (txs (List.replicate (2 * i) wOp) ++ [V.str wOp])) = Hd at kb hlb1 tb1 hdb1 klb ⊢
      have sqd := kb.sq sqv
      refine ⟨_, rfl, .inl ⟨rfl, _, SqL.of hlb1⟩, tb1, fun He ee tbe => ?_⟩
      have sqe := sqd.ext ee
      refine tt_tupz (c := .ref rw_) wd_o (fun p H2 e => cm_op2 (sqe.ext e)) tbe (fun E Q h => ⟨_, rfl, _, rfl, small1000 (Nat.le_of_ble_eq_true rfl), h⟩) fun Hf ef tbf => ?_
      have eef := ee.trans ef
      have hlf := exn_lst eef hlb1
      refine ⟨l, _, _, rfl, rfl, hlf, small1000 (by rw [lt]; omega), ?_⟩
      have kf := (Ko.ext eef).trans (Ko.upd (ys := txs (List.replicate (2 * i + 1) wOp) ++ [V.str wOp]) hlf)
      refine ⟨(klb.ext eef).upd, (ko.trans kb).trans kf, ?_, tabs_updl tbf hlf, by rw [upd_same, tx_snoc]; rfl, _, rfl⟩
      obtain ⟨a1, a2, a3, h9⟩ := exn_dice eef hdb1
      exact ⟨a1, a2, a3, by rw [upd_ne (Ne.symm ld)]; exact h9⟩
    rintro σ HN ⟨kl, ko, hdN, tbN, hlN, x5, rfl⟩
    refine ⟨_, rfl, ?_⟩
    have hlN : HN l = some (.lst (txs (List.replicate 6 wOp))) := hlN
    refine rd_eq (n := 6) (z := wOp) hlN (by omega) (by decide +kernel) (by decide +kernel) fun HO sO => ?_
    rw [show PyData.eqv (txd (List.replicate 6 wOp)) (txd (List.replicate 6 wOp)) = true by decide +kernel]
    refine ⟨_, rfl, iteT ?_⟩
    have tbO := tbN.ext sO
    have hdO := dice_same sO hdN
    have tvO := (ko.trans (Ko.same sO)).tv tv19
    refine ⟨tbO, fun HP eP tbP => ?_⟩
    have tvP := exn_tv eP tvO
    refine tt_any (sp := spFlB K C IR IO Tt) (G := fun p Hx => Hx p = some (.tup (List.replicate n (.ref rw_)))) wd_t (fun p Hx sx gx => ?_) tbP (fun E Q h => ⟨_, rfl, small1000 (Nat.le_of_ble_eq_true rfl), fun p hp => ⟨_, rfl, repX_any (n := n) upd_same (by omega) fun p2 H2 s2 h2 => h p2 H2 ((same_new hp).trans s2) h2⟩⟩) fun HR eR tbR => ?_
    · refine cm_n fun H1 Q E e tb q => ?_
      have tvx := exn_tv e (tvP.same sx)
      refine ⟨p, List.replicate n (ipP rs), 1, 2, 20, 107, rfl, tm_of (exn_tup e gx) (ag_same tvx n) fun ps m => ⟨by rw [List.eq_of_mem_replicate m, lip]; omega, by rw [List.eq_of_mem_replicate m]; exact qrs⟩, ?_, tb, q⟩
      have ll : (List.replicate n (ipP rs)).length = n := List.length_replicate
      refine ⟨by omega, by omega, fun ps m => by rw [List.eq_of_mem_replicate m, ll, lip], by decide, fun ps m p mp => ?_, fun ps m p mp => ?_, by decide, ?_, by omega, by omega, by omega⟩
      · rw [List.eq_of_mem_replicate m] at mp
        obtain ⟨i, mi, rfl⟩ := List.mem_map.mp mp
        have := hrs i mi
        exact ⟨i, by omega, by rw [nT_one, nB_one]⟩
      · rw [List.eq_of_mem_replicate m] at mp
        obtain ⟨i, mi, rfl⟩ := List.mem_map.mp mp
        exact (hrs i mi).1
      · rw [ll]
        have : n = 1 ∨ n = 2 ∨ n = 3 ∨ n = 4 := by omega
        rcases this with e | e | e | e <;> rw [e] <;> decide
    refine ⟨rfl, ?_⟩
    have er : decide (V.str wRet = V.str (Str.ofString "returned")) = true := decide_eq_true rfl
    rw [er]
    have klR := (kl.ext (ExtN.of sO)).ext (eP.trans eR)
    exact q HR ⟨exn_dice (eP.trans eR) hdO, fun q o nq e z => by
      have e1 := rn11.2 q o nq e z
      exact klR q o nq (ne_of_none e1 nl) e1 z⟩ tbR
end
end FR
set_option Elab.async false
set_option linter.all false
set_option maxRecDepth 100000
set_option maxHeartbeats 1000000
/-! law -/
namespace FR
open PySem PySem.Spec PyProof.Rows L2 LD RF CN LK LamX NdefX RZ
abbrev sLaw : Stmt := top 71
abbrev NLaw : List Str := ["_law_script", "_law_at", "_law_dice_here", "_law_turn", "_law_one"]
theorem scLaw : FnScope NLaw ["_law_script"] (defScope sLaw) := ⟨rfl, rfl, rfl, by decide +kernel, rfl, by decide +kernel, by decide +kernel⟩
/-- rows, or none -/
def VB (K : PySem.W.Frag) (C : Addr) : Bool → Hp → V → Prop
  | false => OdR K C
  | true => fun H v => ∃ a q, v = .ref a ∧ H a = some (.tup [.ref q]) ∧ H q = some (.tup [.int 1])
section
variable {K : PySem.W.Frag} {C : Addr} {σ : L2.St}
theorem mk_vb : ∀ b, Mk0 (VB K C b)
  | false => mk_r
  | true => fun _ _ _ k ⟨a, q, e, h1, h2⟩ => ⟨a, q, e, k.tup h1, k.tup h2⟩
theorem vb_no {te : TE} (h : EvS (OdR K C) te σ) : EvS (VB K C false) te σ := h
theorem vb_ok : EvS (VB K C true) (tTup (tCons (tTup (tCons (tC (.int 1)) tNil)) tNil)) σ := fun H Q q =>
  ⟨small1000 (Nat.le_of_ble_eq_true rfl), fun p hp => by
    have s := same_new (o := .tup [V.int 1]) hp
    refine ⟨small1000 (Nat.le_of_ble_eq_true rfl), fun p2 hp2 => ?_⟩
    have s2 := same_new (o := .tup [V.ref p]) hp2
    exact q _ _ (s.trans s2) ⟨p2, p, rfl, upd_same, s2 _ _ upd_same⟩⟩
abbrev spIrsB (K : PySem.W.Frag) (C : Addr) : Sp := fun vs H Q E => spIrsX K C vs H Q E ∨ spIrs C vs H Q E
theorem irs_vb {H : Hp} {v : V} {Q : VK} {E : XK} : ∀ {b : Bool}, VB K C b H v → (∀ H', Same H H' → Q (.bl b) H') → spIrsB K C [v] H Q E
  | false, r, q => .inl ⟨v, rfl, OdR.rs r, q⟩
  | true, ⟨a, p, e, h1, h2⟩, q => by
    subst e
    have tv : TV C H p (ipP [1]) := ⟨_, h2, ip_fvs [1]⟩
    have hz : ∀ ps ∈ [ipP [1]], ps.length = 1 ∧ ∀ p ∈ ps, Q12 112 p := fun ps m => by
      rw [List.mem_singleton.mp m]
      exact ⟨rfl, on_q (n := 1)⟩
    exact .inr ⟨a, [ipP [1]], 1, rfl, tm_of h1 (AG.consA ⟨p, rfl, tv⟩ AG.nil) fun ps m => ⟨by rw [(hz ps m).1]; omega, (hz ps m).2⟩, rs_of (by decide) (by decide) (by decide) (by decide) hz, q⟩
end
section
variable {P : Program} {w : World} {K : PySem.W.Frag} {mg : Str → Option Value} {base : Heap} {C : Addr} {Tt : List (Addr × Str)}
def spLaw (K : PySem.W.Frag) (Tt : List (Addr × Str)) : Sp := fun vs H Q _ => ∃ (a : Addr) (ns : List Int), vs = [.ref a] ∧ SqL K H a (ns.map V.int) ∧ Tabs Tt H ∧ ∀ H', Q (.bl true) H'
theorem rd_op {r : R2} {t1 t2 : TE} {σ : L2.St} {H : Hp} {Q : VK} (k : t1 σ H fun x H1 => t2 σ H1 fun y H2 => r x y H2 Q) : tOp r t1 t2 σ H Q := k
theorem dp_blA {K : PySem.W.Frag} {H : Hp} : ∀ bs : List Bool, DpAll K H (bs.map V.bl) (bs.map PyData.bool)
  | [] => .nil
  | b :: r => .cons (.bl b) (dp_blA r)
theorem ok_law {f : Addr} {fd : FuncData} (F : Fun K "law" "law" sLaw f fd) (gD : Glo P w K mg base "_law_dice" 1 ["_law_script", "_law_at"] (spDice K)) (gG : Glo P w K mg base "_law_right" 12 ["_law_dice_here"] (spRi Tt)) (gS : Glo P w K mg base "_law_square_right" 12 ["_law_dice_here"] (spRi Tt)) (gIrs : Glo P w K mg base "is_rows" 4 ["value"] (spIrsB K C))
    (mR : mg "range" = none) (mMax : mg "max" = none) (mMin : mg "min" = none) (mL : mg "len" = none) : FnOk P w K mg base CX0 13 f fd ["_law_script"] (spLaw K Tt) := by
  refine F.ok scLaw (fun vs H Q E h => ?_) (fun cdv A outer s H vs Q E hr h => ?_)
  · obtain ⟨a, ns, rfl, _⟩ := h
    rfl
  · obtain ⟨a, ns, rfl, hs, tb, q⟩ := h
    refine ⟨_, (pss_cons (ps_for PassesOwn.never rfl (pi_range1 (by rfl) mR (pa_cons (pe_callB (call_max2 rfl) (by rfl) mMax (by decide +kernel) (pa_cons pe_int (pa_cons (pe_callB (call_min2 rfl) (by rfl) mMin (by decide +kernel) (pa_cons pe_int (pa_cons (pe_callB call_len_seq (by rfl) mL PySem.boot_len (pa_cons (pv 0) pa_nil)) pa_nil))) pa_nil))) pa_nil)) (pg_name (i := 1) scLaw.nd rfl (.inl rfl))
        (pss_cons (ps_set (i := 2) scLaw.nd rfl (Or.inl rfl) (pe_call gD.G (hr.mono (by decide)) (by rfl) gD.m gD.k gD.b .nil pass0 (pa_cons (pv 0) (pa_cons (pv 1) pa_nil))))
        (pss_one (ps_for PassesOwn.never rfl (pi_range1 (by rfl) mR (pa_cons pe_int pa_nil)) (pg_name (i := 3) scLaw.nd rfl (.inl rfl))
          (pss_one (ps_if (PW.pt (pw_or (pt_not (pt_val (pe_call gG.G (hr.mono (by decide)) (by rfl) gG.m gG.k gG.b .nil pass0 (pa_cons (pv 2) pa_nil)))) (pw_or1 (pt_not (pt_val (pe_call gS.G (hr.mono (by decide)) (by rfl) gS.m gS.k gS.b .nil pass0 (pa_cons (pv 2) pa_nil))))))) (pss_one (ps_ret pe_bl)) pss_nil))))))
      (pss_one (ps_ret (pe_cmpR (op_eqD hr.units) (pe_lc (X := (cxOf CX0 P w K mg base NLaw "law" (defScope sLaw) f cdv A outer s H E).nox) (own := [("_law_one", 4)]) (g := (gName 4)) (tt := tYes) rfl scLaw.nd (pi_tup (pe_tup (pa_cons (pe_tup (pa_cons (pe_tup (pa_cons pe_bl pa_nil)) pa_nil)) (pa_cons (pe_op op_repX (pe_tup (pa_cons (pe_tup (pa_cons pe_int pa_nil)) pa_nil)) pe_int) (pa_cons (pe_tup (pa_cons (pe_tup pa_nil) pa_nil)) (pa_cons (pe_lst (pa_cons (pe_tup (pa_cons pe_int pa_nil)) pa_nil)) (pa_cons (pe_tup (pa_cons (pe_tup (pa_cons pe_int pa_nil)) pa_nil)) pa_nil))))))) (blkOk_by (N := NLaw) (sc := defScope sLaw) (by decide +kernel)) (fun _ _ _ _ _ => (pg_name (i := 4) scLaw.nd rfl (.inl rfl))) (fun _ _ _ _ _ => pts_nil) (fun _ _ _ _ _ => (pe_call gIrs.G (hr.mono (by decide)) (by rfl) gIrs.m gIrs.k gIrs.b .nil pass0 (pa_cons (pv 4) pa_nil)))) (pe_op op_cat (pe_op op_rep (pe_lst (pa_cons pe_bl pa_nil)) pe_int) (pe_lst (pa_cons pe_bl pa_nil))) (nomark _))))), ?_⟩
    refine ⟨_, rfl, a, _, rfl, .inl hs, _, _, rfl, _, _, rfl, _, rfl, by split <;> (try split) <;> omega, by split <;> (try split) <;> omega, ?_⟩
    refine for_range (fun i σ Hc => (∃ x1 x2 x3 : Option V, σ = [some (.ref a), x1, x2, x3, none]) ∧ ExtN H Hc ∧ Tabs Tt Hc) ⟨⟨_, _, _, rfl⟩, ExtN.refl H, tb⟩ ?_ ?_
    · rintro i σ Hc hi ⟨⟨x1, x2, x3, rfl⟩, sm, tbc⟩
      refine ⟨_, rfl, _, rfl, a, ns, i, _, rfl, by omega, LK.sqL_extN hs sm, fun d x y z nd => ?_⟩
      have d0 : DiceAt (upd Hc d (.lst (dxs x y z))) d := ⟨_, _, _, upd_same⟩
      have tb0 := tbc.ext (same_new (o := .lst (dxs x y z)) nd)
      refine ⟨4, rfl, by decide, by decide, ?_⟩
      refine for_range (n := 4) (fun j σ Hd => (∃ x3 : Option V, σ = [some (.ref a), some (.int (0 + (i : Int))), some (.ref d), x3, none]) ∧ RlN d (upd Hc d (.lst (dxs x y z))) Hd ∧ Tabs Tt Hd) ⟨⟨_, rfl⟩, RlN.of (Rl.refl d0), tb0⟩ ?_ ?_
      · rintro j σ Hd hj ⟨⟨x3, rfl⟩, r, tbd⟩
        refine ⟨_, rfl, d, rfl, r.1, tbd, fun H1 r1 tb1 => ?_⟩
        refine ⟨_, rfl, iteF ?_⟩
        refine ⟨_, rfl, d, rfl, r1.1, tb1, fun H2 r2 tb2 => ?_⟩
        exact ⟨_, rfl, iteF ⟨⟨_, rfl⟩, (r.trans r1).trans r2, tb2⟩⟩
      · rintro σ Hd ⟨⟨x3, rfl⟩, r, tbd⟩
        refine ⟨⟨_, _, _, rfl⟩, fun b o e z => ?_, tbd⟩
        have e1 := sm b o e z
        exact r.2 b o (ne_of_none e1 nd) (same_new nd _ _ e1) z
    rintro σ H0 ⟨⟨x1, x2, x3, rfl⟩, _, _⟩
    have hE : EvSL (RsA (VB K C) [false, false, false, false, true]) _ [some (.ref a), x1, x2, x3, none] := (el_cons (mk_vb false) (vb_no (or_tr (zs := [(false, 1)]) (by decide +kernel) (es_tup mk_rw (by decide) (el_cons (mk_rw _) (rw_te (rs := [false]) (by decide) (es_tup mk_en (by decide) (el_cons (mk_en _) (en_bl true) el_nil))) el_nil)))) (el_cons (mk_vb false) (vb_no (or_tr (zs := List.replicate 81 (true, 1)) (by decide +kernel) (es_repA (K := K) (R := Rw K C) (a := (true, 1)) (n := 81) (mk_rw _) (by decide) (rw_te (rs := [true]) (by decide) (es_tup mk_en (by decide) (el_cons (mk_en _) (en_int 1) el_nil))) (es_c fun H => rfl)))) (el_cons (mk_vb false) (vb_no (or_tr (zs := [(true, 0)]) (by decide +kernel) (es_tup mk_rw (by decide) (el_cons (mk_rw _) (rw_te (rs := []) (by decide) (es_tup mk_en (by decide) el_nil)) el_nil)))) (el_cons (mk_vb false) (vb_no (or_nt (nt_lst (mk_rw (K := K) (C := C)) (by decide) (el_cons (mk_rw _) (rw_te (rs := [true]) (by decide) (es_tup mk_en (by decide) (el_cons (mk_en _) (en_int 1) el_nil))) el_nil)))) (el_cons (mk_vb true) (vb_ok) el_nil)))))
    dsimp only [tNext]
    dsimp only [tRet]
    refine rd_op ?_
    dsimp only [tLc]
    dsimp only [iTup]
    refine es_tup mk_vb (by decide) hE H0 _ fun v H1 s1 ⟨t, xs, ev, ht, od⟩ => ?_
    subst ev
    have lx : xs.length = 5 := od.1
    refine ⟨t, rfl, ⟨_, SqT.of ht⟩, fun D hD => ?_⟩
    refine lc_tup (xs := xs) (fun i Hc => Same H1 Hc ∧ Hc D = some (.lst (([false, false, false, false, true].take i).map V.bl))) ⟨same_new hD, upd_same⟩ (fun i Hc _ p => SqT.of (p.1 _ _ ht)) ?_ ?_
    · rintro i v Hc hvi ⟨sm, hDc⟩
      obtain ⟨b, hb, rb⟩ := od.2 i v hvi
      have il := (List.getElem?_eq_some_iff.mp hvi).1
      refine ⟨rfl, _, rfl, irs_vb (mk_vb b _ _ _ (Ko.same sm) rb) fun H2 s2 => ?_⟩
      refine ⟨_, s2 _ _ hDc, small1000 (by rw [List.length_map, List.length_take]; omega), same_upd hD (sm.trans s2), ?_⟩
      rw [take_snoc hb, List.map_append]
      exact upd_same
    rintro H3 ⟨s3, hD3⟩
    rw [List.take_of_length_le (by rw [lx]; decide)] at hD3
    refine ⟨small1000 (Nat.le_of_ble_eq_true rfl), fun p1 hp1 => ?_⟩
    have s4 := same_new (o := .lst [V.bl false]) hp1
    refine ⟨p1, 4, _, rfl, rfl, upd_same, by decide, by decide, Nat.le_of_lt (small1000 (by decide)), fun p2 hp2 => ?_⟩
    have s5 := same_new (o := .lst (List.replicate (4 : Int).toNat [V.bl false]).flatten) hp2
    refine ⟨small1000 (Nat.le_of_ble_eq_true rfl), fun p3 hp3 => ?_⟩
    have s6 := same_new (o := .lst [V.bl true]) hp3
    refine ⟨p2, p3, _, _, rfl, rfl, s6 _ _ upd_same, upd_same, Nat.le_of_lt (small1000 (by decide)), fun p4 hp4 => ?_⟩
    have s7 := same_new (o := .lst ((List.replicate (4 : Int).toNat [V.bl false]).flatten ++ [V.bl true])) hp4
    refine ⟨.list ([false, false, false, false, true].map PyData.bool), .list ([false, false, false, false, true].map PyData.bool), .lst (SqL.of ((((s4.trans s5).trans s6).trans s7) _ _ hD3)) (dp_blA _), .lst (SqL.of (show _ = some (.lst ([false, false, false, false, true].map V.bl)) from upd_same)) (dp_blA _), by decide +kernel, by decide +kernel, ?_⟩
    rw [show PyData.eqv (.list ([false, false, false, false, true].map PyData.bool)) (.list ([false, false, false, false, true].map PyData.bool)) = true by decide +kernel]
    exact q _
end
end FR
set_option Elab.async false
set_option linter.all false
set_option maxRecDepth 100000
set_option maxHeartbeats 4000000
set_option exponentiation.threshold 9000
namespace FR
open PySem PySem.Spec PyProof.Rows L2 LD RF CN LamX
section
variable {P : Program} {w : World} {K : PySem.W.Frag} {mg : Str → Option Value} {base : Heap} {C fI pT gT pB gB : Addr} {fdI fdT fdB : FuncData}
abbrev sSub : Stmt := inClass sFrac 5
theorem scSub : FnScope ["self", "other", "less"] ["self", "other"] (defScope sSub) := ⟨rfl, rfl, rfl, by decide +kernel, rfl, by decide +kernel, by decide +kernel⟩
theorem ok_sub {f fA : Addr} {fd fdA : FuncData} (F : Fun K "__sub__" "Fraction.__sub__" sSub f fd) (k : FrK P w K mg base C fI pT gT pB gB fdI fdT fdB) (GA : FnOk P w K mg base CX0 4 fA fdA ["value"] (spAs C)) (mA : mg "as_fraction" = some (.ref fA))
    (kA : PySem.W.keepIn K (.ref fA) = true) (bA : Binds K fdA ["value"] []) : FnOk P w K mg base CX0 5 f fd ["self", "other"] (spOp C fSub) := by
  refine F.ok scSub (fun vs H Q E h => ?_) (fun cdv A outer s H vs Q E hr h => ?_)
  · obtain ⟨p, v, t, b, t', b', rfl, _⟩ := h
    rfl
  · obtain ⟨p, v, t, b, t', b', rfl, ⟨dp, hp⟩, hv, z1, z2, q⟩ := h
    obtain ⟨m1, m2, m3, m4, m5, m6⟩ := z1.mul z2
    refine ⟨_, pss_cons (ps_set (i := 2) scSub.nd rfl (Or.inl rfl) (pe_call GA hr (by rfl) mA kA bA .nil pass0 (pa_cons (pv 1) pa_nil)))
      (pss_one (ps_ret (pe_make k.M k.GI (hr.mono (by decide)) (by rfl) k.T.mC k.b2 .nil pass0 (pa_cons (pe_op op_sub (pe_op op_mulW (pe_prop (pv 0) k.T.cl k.oT k.GT (hr.mono (by decide)) k.bT .nil pass0 rfl) (pe_prop (pv 2) k.T.cl k.oB k.GB (hr.mono (by decide)) k.bB .nil pass0 rfl)) (pe_op op_mulW (pe_prop (pv 2) k.T.cl k.oT k.GT (hr.mono (by decide)) k.bT .nil pass0 rfl) (pe_prop (pv 0) k.T.cl k.oB k.GB (hr.mono (by decide)) k.bB .nil pass0 rfl))) (pa_cons (pe_op op_mulW (pe_prop (pv 0) k.T.cl k.oB k.GB (hr.mono (by decide)) k.bB .nil pass0 rfl) (pe_prop (pv 2) k.T.cl k.oB k.GB (hr.mono (by decide)) k.bB .nil pass0 rfl)) pa_nil))))), ?_⟩
    refine ⟨_, rfl, v, t', b', rfl, hv, fun m H1 ⟨dm, hm⟩ sm => ?_⟩
    have hp := sm _ _ hp
    refine ⟨_, rfl, p, dp, _, rfl, hp, p, dp, _, _, rfl, hp, fl_top _ _, _, rfl, m, dm, _, rfl, hm, m, dm, _, _, rfl, hm, fl_bot _ _, _, _, rfl, rfl, m2, _, rfl, m, dm, _, rfl, hm, m, dm, _, _, rfl, hm, fl_top _ _, _, rfl, p, dp, _, rfl, hp, p, dp, _, _, rfl, hp, fl_bot _ _, _, _, rfl, rfl, m3, _, _, rfl, rfl, _, rfl, p, dp, _, rfl, hp, p, dp, _, _, rfl, hp, fl_bot _ _, _, rfl, m, dm, _, rfl, hm, m, dm, _, _, rfl, hm, fl_bot _ _, _, _, rfl, rfl, m4, fun x dx nx nd ne => ?_⟩
    refine ⟨x, dx, _, _, rfl, upd_same, m6, dv8 m6 m5, fun H' hf hs => ⟨rfl, ?_⟩⟩
    exact q x H' hf (sm.trans (same_make (C := C) nx nd hs)) (Same.free sm nx)
end
end FR
set_option Elab.async false
set_option linter.all false
set_option maxRecDepth 100000
set_option maxHeartbeats 4000000
namespace FR
open PySem PySem.Spec PyProof.Rows L2 LD RF CN LK LamX NdefX RZ
/-! ### what the written part says of the classes, by computation -/
def oddB (K : PySem.W.Frag) (C : Addr) (T : String) : Bool := (PySem.W.kitOne K (.type T) (.ref C) == some false) && ((PySem.W.subIn K (.ref C) (.type T) == some false) && PySem.W.notFirst K C (.type T))
theorem odd_of {K : PySem.W.Frag} {C : Addr} {T : String} (h : oddB K C T = true) : OddC K C T := by
  simp only [oddB, Bool.and_eq_true, beq_iff_eq] at h
  exact ⟨h.1, h.2.1, h.2.2⟩
def clsB (K : PySem.W.Frag) (C : Addr) : Bool := PySem.W.plainGet K C Str.empty && (PySem.W.hasDictIn K C && (PySem.W.plainOver K C && (PySem.W.findIn K (.ref C) "__setattr__" == some (some (.builtin "object.__setattr__")))))
theorem cls_of {K : PySem.W.Frag} {C : Addr} (h : clsB K C = true) : Cls K C := by
  simp only [clsB, Bool.and_eq_true, beq_iff_eq] at h
  exact ⟨h.1, h.2.1, h.2.2.1, h.2.2.2⟩
def refOr : Option (Option Value) → Bool
  | some none => true
  | some (some (.ref _)) => true
  | _ => false
theorem refOr_of {x : Option (Option Value)} (h : refOr x = true) : ∃ rc, x = some rc ∧ (rc = none ∨ ∃ g : Addr, rc = some (.ref g)) := by
  match x, h with
  | some none, _ => exact ⟨_, rfl, .inl rfl⟩
  | some (some (.ref g)), _ => exact ⟨_, rfl, .inr ⟨g, rfl⟩⟩
theorem isSome_of {α : Type} {x : Option α} (h : x.isSome = true) : ∃ y, x = some y := Option.isSome_iff_exists.mp h
def opB (K : PySem.W.Frag) (C : Addr) (nm : String) : Bool := refOr (PySem.W.findIn K (.ref C) (dunderR nm)) && ((PySem.W.findIn K (.type "int") (PySem.dunder nm)).isSome && ((PySem.W.findIn K (.type "int") (dunderR nm)).isSome && (PySem.W.subIn K (.type "int") (.ref C) == some false)))
theorem op_of {K : PySem.W.Frag} {C : Addr} {nm : String} (h : opB K C nm = true) : IntOp K C nm := by
  simp only [opB, Bool.and_eq_true, beq_iff_eq] at h
  exact ⟨refOr_of h.1, isSome_of h.2.1, isSome_of h.2.2.1, h.2.2.2⟩
def rowB (K : PySem.W.Frag) (C : Addr) : Bool :=
  (PySem.W.findIn K (.ref C) "_top" == some none) && ((PySem.W.findIn K (.ref C) "_bottom" == some none) && ((PySem.W.findIn K (.ref C) "__class__" == some (some (.builtin "object.__class__"))) &&
  ((PySem.W.specialIn K (.builtin "object.__class__") "__get__" == some (some (.builtin "getset_descriptor.__get__"))) && ((PySem.W.takesIn K (.builtin "object.__class__") == some true) && ((PySem.W.mroIn K C (.type "object") == some true) &&
  ((PySem.W.makesIn K C) && (PySem.W.keepIn K (.ref C) && ((PySem.W.kitOne K (.ref C) (.type "int") == some false) && PySem.W.selfFirst K C))))))))
def echB (K : PySem.W.Frag) (C : Addr) : Bool :=
  (PySem.W.findIn K (.ref C) "width" == some none) && ((PySem.W.findIn K (.ref C) "rows" == some none) && ((PySem.W.findIn K (.ref C) "places" == some none) && ((PySem.W.findIn K (.ref C) "divisor" == some none) && (PySem.W.makesIn K C && PySem.W.keepIn K (.ref C)))))
def corB (K : PySem.W.Frag) (C : Addr) : Bool :=
  (PySem.W.findIn K (.ref C) "lines" == some none) && ((PySem.W.findIn K (.ref C) "width" == some none) && ((PySem.W.findIn K (.ref C) "gaps" == some none) && ((PySem.W.findIn K (.ref C) "rows" == some none) && ((PySem.W.findIn K (.ref C) "divisor" == some none) && (PySem.W.makesIn K C && PySem.W.keepIn K (.ref C))))))
def excB (K : PySem.W.Frag) (I : Addr) : Bool := PySem.W.excIn K I veB "ValueError.__new__" && (PySem.W.keepIn K (.ref I) && ((PySem.W.subIn K (.ref I) (.type "BaseException") == some true) && (PySem.W.typeIn K (.ref I) == some (.type "type"))))
theorem exc_of {K : PySem.W.Frag} {mg : Str → Option Value} {nm : Str} {I : Addr} (h : excB K I = true) (g : mg nm = some (.ref I)) : ExcC K mg nm I := by
  simp only [excB, Bool.and_eq_true, beq_iff_eq] at h
  exact ⟨h.1, g, h.2.1, h.2.2.1, h.2.2.2⟩
def exmB (K : PySem.W.Frag) (IR IO : Addr) : Bool := (PySem.W.exmOne K (.ref IR) (.ref IR) == some true) && ((PySem.W.exmOne K (.ref IO) (.ref IR) == some false) && (PySem.W.exmOne K (.ref IO) (.ref IO) == some true))
theorem uniq4 {P1 P2 P3 P4 : Addr} {q1 q2 q3 q4 : Str} (h : (decide (P1 ≠ P2) && (decide (P1 ≠ P3) && (decide (P1 ≠ P4) && (decide (P2 ≠ P3) && (decide (P2 ≠ P4) && decide (P3 ≠ P4)))))) = true) :
    (∀ p ∈ [(P1, q1), (P2, q2), (P3, q3), (P4, q4)], p.1 = P1 → p.2 = q1) ∧ (∀ p ∈ [(P1, q1), (P2, q2), (P3, q3), (P4, q4)], p.1 = P2 → p.2 = q2) ∧ (∀ p ∈ [(P1, q1), (P2, q2), (P3, q3), (P4, q4)], p.1 = P3 → p.2 = q3) ∧ (∀ p ∈ [(P1, q1), (P2, q2), (P3, q3), (P4, q4)], p.1 = P4 → p.2 = q4) := by
  simp only [Bool.and_eq_true, decide_eq_true_eq] at h
  obtain ⟨n12, n13, n14, n23, n24, n34⟩ := h
  have mem : ∀ p ∈ [(P1, q1), (P2, q2), (P3, q3), (P4, q4)], p = (P1, q1) ∨ p = (P2, q2) ∨ p = (P3, q3) ∨ p = (P4, q4) := fun p hp => by simpa using hp
  refine ⟨fun p hp e => ?_, fun p hp e => ?_, fun p hp e => ?_, fun p hp e => ?_⟩ <;> rcases mem p hp with z | z | z | z <;> subst z
  all_goals first
    | rfl
    | exact absurd e n12
    | exact absurd e n13
    | exact absurd e n14
    | exact absurd e n23
    | exact absurd e n24
    | exact absurd e n34
    | exact absurd e.symm n12
    | exact absurd e.symm n13
    | exact absurd e.symm n14
    | exact absurd e.symm n23
    | exact absurd e.symm n24
    | exact absurd e.symm n34
theorem all4 {α : Type} {a b c d : α} {R : α → Prop} (h1 : R a) (h2 : R b) (h3 : R c) (h4 : R d) : ∀ p ∈ [a, b, c, d], R p := fun p hp => by
  have : p = a ∨ p = b ∨ p = c ∨ p = d := by simpa using hp
  rcases this with e | e | e | e <;> rw [e] <;> assumption
theorem all_mk {l : PySem.W.OpenLaw} {w : World} {K : PySem.W.Frag} {h : Heap} {mg : Str → Option Value} {fa C D D2 IR IO EE cW Pt cA Pa cB Pb cE Pd : Addr} (X : K.In h) (G : h.Ns mainGlobals mg) (hfa : mg "law" = some (.ref fa))
    (aC : PySem.W.nsIn K mainGlobals "Fraction" = some (some (.ref C)))
    (aD : PySem.W.nsIn K mainGlobals "Corner" = some (some (.ref D)))
    (agcd : PySem.W.nsIn K mainGlobals "gcd" = some (some (.builtin "math.gcd")))
    (alcm : PySem.W.nsIn K mainGlobals "lcm" = some (some (.builtin "math.lcm")))
    {tkR tkW : Tok}
    (aMR : PySem.W.nsIn K mainGlobals "MAX_ROWS" = some (some (.int 80 tkR)))
    (aMW : PySem.W.nsIn K mainGlobals "MAX_WIDTH" = some (some (.int 12 tkW)))
    (aD2 : PySem.W.nsIn K mainGlobals "Echelon" = some (some (.ref D2)))
    (aIR : PySem.W.nsIn K mainGlobals "InvalidRows" = some (some (.ref IR)))
    (aIO : PySem.W.nsIn K mainGlobals "InvalidOperation" = some (some (.ref IO)))
    (aEE : PySem.W.nsIn K mainGlobals "EndError" = some (some (.ref EE)))
    {f_clr : Addr} {oc_clr kV_clr dc_clr pm_clr cd_clr ct_clr : Value} {od_clr an_clr : Option Addr} {sl_clr : Array (Option Value)}
    (n_clr : PySem.W.nsIn K mainGlobals "cleared_by" = some (some (.ref f_clr)))
    (l_clr : K.lookup f_clr = some ⟨oc_clr, od_clr, .func (PySem.W.fnOf "cleared_by" "cleared_by" (defArgs sClr) (defBody sClr) (defScope sClr) .none kV_clr dc_clr pm_clr an_clr cd_clr ct_clr), sl_clr⟩)
    (d_clr : PySem.W.codeIn K cd_clr "cleared_by" = true)
    (k_clr : PySem.W.keepIn K (.ref f_clr) = true)
    {f_plain : Addr} {oc_plain kV_plain dc_plain pm_plain cd_plain ct_plain : Value} {od_plain an_plain : Option Addr} {sl_plain : Array (Option Value)}
    (n_plain : PySem.W.nsIn K mainGlobals "is_plain_integer" = some (some (.ref f_plain)))
    (l_plain : K.lookup f_plain = some ⟨oc_plain, od_plain, .func (PySem.W.fnOf "is_plain_integer" "is_plain_integer" (defArgs sPlain) (defBody sPlain) (defScope sPlain) .none kV_plain dc_plain pm_plain an_plain cd_plain ct_plain), sl_plain⟩)
    (d_plain : PySem.W.codeIn K cd_plain "is_plain_integer" = true)
    (k_plain : PySem.W.keepIn K (.ref f_plain) = true)
    {f_bet : Addr} {oc_bet kV_bet dc_bet pm_bet cd_bet ct_bet : Value} {od_bet an_bet : Option Addr} {sl_bet : Array (Option Value)}
    (n_bet : PySem.W.nsIn K mainGlobals "is_between" = some (some (.ref f_bet)))
    (l_bet : K.lookup f_bet = some ⟨oc_bet, od_bet, .func (PySem.W.fnOf "is_between" "is_between" (defArgs sBet) (defBody sBet) (defScope sBet) .none kV_bet dc_bet pm_bet an_bet cd_bet ct_bet), sl_bet⟩)
    (d_bet : PySem.W.codeIn K cd_bet "is_between" = true)
    (k_bet : PySem.W.keepIn K (.ref f_bet) = true)
    {f_isf : Addr} {oc_isf kV_isf dc_isf pm_isf cd_isf ct_isf : Value} {od_isf an_isf : Option Addr} {sl_isf : Array (Option Value)}
    (n_isf : PySem.W.nsIn K mainGlobals "is_fraction" = some (some (.ref f_isf)))
    (l_isf : K.lookup f_isf = some ⟨oc_isf, od_isf, .func (PySem.W.fnOf "is_fraction" "is_fraction" (defArgs sIsF) (defBody sIsF) (defScope sIsF) .none kV_isf dc_isf pm_isf an_isf cd_isf ct_isf), sl_isf⟩)
    (d_isf : PySem.W.codeIn K cd_isf "is_fraction" = true)
    (k_isf : PySem.W.keepIn K (.ref f_isf) = true)
    {f_asf : Addr} {oc_asf kV_asf dc_asf pm_asf cd_asf ct_asf : Value} {od_asf an_asf : Option Addr} {sl_asf : Array (Option Value)}
    (n_asf : PySem.W.nsIn K mainGlobals "as_fraction" = some (some (.ref f_asf)))
    (l_asf : K.lookup f_asf = some ⟨oc_asf, od_asf, .func (PySem.W.fnOf "as_fraction" "as_fraction" (defArgs sAs) (defBody sAs) (defScope sAs) .none kV_asf dc_asf pm_asf an_asf cd_asf ct_asf), sl_asf⟩)
    (d_asf : PySem.W.codeIn K cd_asf "as_fraction" = true)
    (k_asf : PySem.W.keepIn K (.ref f_asf) = true)
    {f_fs : Addr} {oc_fs kV_fs dc_fs pm_fs cd_fs ct_fs : Value} {od_fs an_fs : Option Addr} {sl_fs : Array (Option Value)}
    (n_fs : PySem.W.nsIn K mainGlobals "is_fractions" = some (some (.ref f_fs)))
    (l_fs : K.lookup f_fs = some ⟨oc_fs, od_fs, .func (PySem.W.fnOf "is_fractions" "is_fractions" (defArgs sFs) (defBody sFs) (defScope sFs) .none kV_fs dc_fs pm_fs an_fs cd_fs ct_fs), sl_fs⟩)
    (d_fs : PySem.W.codeIn K cd_fs "is_fractions" = true)
    (k_fs : PySem.W.keepIn K (.ref f_fs) = true)
    {f_over : Addr} {oc_over kV_over dc_over pm_over cd_over ct_over : Value} {od_over an_over : Option Addr} {sl_over : Array (Option Value)}
    (n_over : PySem.W.nsIn K mainGlobals "over_one_bottom" = some (some (.ref f_over)))
    (l_over : K.lookup f_over = some ⟨oc_over, od_over, .func (PySem.W.fnOf "over_one_bottom" "over_one_bottom" (defArgs sOver) (defBody sOver) (defScope sOver) .none kV_over dc_over pm_over an_over cd_over ct_over), sl_over⟩)
    (d_over : PySem.W.codeIn K cd_over "over_one_bottom" = true)
    (k_over : PySem.W.keepIn K (.ref f_over) = true)
    {f_irs : Addr} {oc_irs kV_irs dc_irs pm_irs cd_irs ct_irs : Value} {od_irs an_irs : Option Addr} {sl_irs : Array (Option Value)}
    (n_irs : PySem.W.nsIn K mainGlobals "is_rows" = some (some (.ref f_irs)))
    (l_irs : K.lookup f_irs = some ⟨oc_irs, od_irs, .func (PySem.W.fnOf "is_rows" "is_rows" (defArgs sIrs) (defBody sIrs) (defScope sIrs) .none kV_irs dc_irs pm_irs an_irs cd_irs ct_irs), sl_irs⟩)
    (d_irs : PySem.W.codeIn K cd_irs "is_rows" = true)
    (k_irs : PySem.W.keepIn K (.ref f_irs) = true)
    {f_tof : Addr} {oc_tof kV_tof dc_tof pm_tof cd_tof ct_tof : Value} {od_tof an_tof : Option Addr} {sl_tof : Array (Option Value)}
    (n_tof : PySem.W.nsIn K mainGlobals "times_of" = some (some (.ref f_tof)))
    (l_tof : K.lookup f_tof = some ⟨oc_tof, od_tof, .func (PySem.W.fnOf "times_of" "times_of" (defArgs sTof) (defBody sTof) (defScope sTof) .none kV_tof dc_tof pm_tof an_tof cd_tof ct_tof), sl_tof⟩)
    (d_tof : PySem.W.codeIn K cd_tof "times_of" = true)
    (k_tof : PySem.W.keepIn K (.ref f_tof) = true)
    {f_mof : Addr} {oc_mof kV_mof dc_mof pm_mof cd_mof ct_mof : Value} {od_mof an_mof : Option Addr} {sl_mof : Array (Option Value)}
    (n_mof : PySem.W.nsIn K mainGlobals "mix_of" = some (some (.ref f_mof)))
    (l_mof : K.lookup f_mof = some ⟨oc_mof, od_mof, .func (PySem.W.fnOf "mix_of" "mix_of" (defArgs sMof) (defBody sMof) (defScope sMof) .none kV_mof dc_mof pm_mof an_mof cd_mof ct_mof), sl_mof⟩)
    (d_mof : PySem.W.codeIn K cd_mof "mix_of" = true)
    (k_mof : PySem.W.keepIn K (.ref f_mof) = true)
    {f_cle : Addr} {oc_cle kV_cle dc_cle pm_cle cd_cle ct_cle : Value} {od_cle an_cle : Option Addr} {sl_cle : Array (Option Value)}
    (n_cle : PySem.W.nsIn K mainGlobals "cleared" = some (some (.ref f_cle)))
    (l_cle : K.lookup f_cle = some ⟨oc_cle, od_cle, .func (PySem.W.fnOf "cleared" "cleared" (defArgs sCle) (defBody sCle) (defScope sCle) .none kV_cle dc_cle pm_cle an_cle cd_cle ct_cle), sl_cle⟩)
    (d_cle : PySem.W.codeIn K cd_cle "cleared" = true)
    (k_cle : PySem.W.keepIn K (.ref f_cle) = true)
    {f_so : Addr} {oc_so kV_so dc_so pm_so cd_so ct_so : Value} {od_so an_so : Option Addr} {sl_so : Array (Option Value)}
    (n_so : PySem.W.nsIn K mainGlobals "solution" = some (some (.ref f_so)))
    (l_so : K.lookup f_so = some ⟨oc_so, od_so, .func (PySem.W.fnOf "solution" "solution" (defArgs sSo) (defBody sSo) (defScope sSo) .none kV_so dc_so pm_so an_so cd_so ct_so), sl_so⟩)
    (d_so : PySem.W.codeIn K cd_so "solution" = true)
    (k_so : PySem.W.keepIn K (.ref f_so) = true)
    {f_mk : Addr} {oc_mk kV_mk dc_mk pm_mk cd_mk ct_mk : Value} {od_mk an_mk : Option Addr} {sl_mk : Array (Option Value)}
    (n_mk : PySem.W.nsIn K mainGlobals "_mark" = some (some (.ref f_mk)))
    (l_mk : K.lookup f_mk = some ⟨oc_mk, od_mk, .func (PySem.W.fnOf "_mark" "_mark" (defArgs sMk) (defBody sMk) (defScope sMk) .none kV_mk dc_mk pm_mk an_mk cd_mk ct_mk), sl_mk⟩)
    (d_mk : PySem.W.codeIn K cd_mk "_mark" = true)
    (k_mk : PySem.W.keepIn K (.ref f_mk) = true)
    {f_fa : Addr} {oc_fa kV_fa dc_fa pm_fa cd_fa ct_fa : Value} {od_fa an_fa : Option Addr} {sl_fa : Array (Option Value)}
    (n_fa : PySem.W.nsIn K mainGlobals "_factors_of" = some (some (.ref f_fa)))
    (l_fa : K.lookup f_fa = some ⟨oc_fa, od_fa, .func (PySem.W.fnOf "_factors_of" "_factors_of" (defArgs sFa) (defBody sFa) (defScope sFa) .none kV_fa dc_fa pm_fa an_fa cd_fa ct_fa), sl_fa⟩)
    (d_fa : PySem.W.codeIn K cd_fa "_factors_of" = true)
    (k_fa : PySem.W.keepIn K (.ref f_fa) = true)
    {f_is : Addr} {oc_is kV_is dc_is pm_is cd_is ct_is : Value} {od_is an_is : Option Addr} {sl_is : Array (Option Value)}
    (n_is : PySem.W.nsIn K mainGlobals "is_solution" = some (some (.ref f_is)))
    (l_is : K.lookup f_is = some ⟨oc_is, od_is, .func (PySem.W.fnOf "is_solution" "is_solution" (defArgs sIs) (defBody sIs) (defScope sIs) .none kV_is dc_is pm_is an_is cd_is ct_is), sl_is⟩)
    (d_is : PySem.W.codeIn K cd_is "is_solution" = true)
    (k_is : PySem.W.keepIn K (.ref f_is) = true)
    {f_fi : Addr} {oc_fi kV_fi dc_fi pm_fi cd_fi ct_fi : Value} {od_fi an_fi : Option Addr} {sl_fi : Array (Option Value)}
    (n_fi : PySem.W.nsIn K mainGlobals "fit" = some (some (.ref f_fi)))
    (l_fi : K.lookup f_fi = some ⟨oc_fi, od_fi, .func (PySem.W.fnOf "fit" "fit" (defArgs sFi) (defBody sFi) (defScope sFi) .none kV_fi dc_fi pm_fi an_fi cd_fi ct_fi), sl_fi⟩)
    (d_fi : PySem.W.codeIn K cd_fi "fit" = true)
    (k_fi : PySem.W.keepIn K (.ref f_fi) = true)
    {f_ft : Addr} {oc_ft kV_ft dc_ft pm_ft cd_ft ct_ft : Value} {od_ft an_ft : Option Addr} {sl_ft : Array (Option Value)}
    (n_ft : PySem.W.nsIn K mainGlobals "_fit" = some (some (.ref f_ft)))
    (l_ft : K.lookup f_ft = some ⟨oc_ft, od_ft, .func (PySem.W.fnOf "_fit" "_fit" (defArgs sFt) (defBody sFt) (defScope sFt) .none kV_ft dc_ft pm_ft an_ft cd_ft ct_ft), sl_ft⟩)
    (d_ft : PySem.W.codeIn K cd_ft "_fit" = true)
    (k_ft : PySem.W.keepIn K (.ref f_ft) = true)
    {f_if : Addr} {oc_if kV_if dc_if pm_if cd_if ct_if : Value} {od_if an_if : Option Addr} {sl_if : Array (Option Value)}
    (n_if : PySem.W.nsIn K mainGlobals "is_fit" = some (some (.ref f_if)))
    (l_if : K.lookup f_if = some ⟨oc_if, od_if, .func (PySem.W.fnOf "is_fit" "is_fit" (defArgs sIf) (defBody sIf) (defScope sIf) .none kV_if dc_if pm_if an_if cd_if ct_if), sl_if⟩)
    (d_if : PySem.W.codeIn K cd_if "is_fit" = true)
    (k_if : PySem.W.keepIn K (.ref f_if) = true)
    {f_fl : Addr} {oc_fl kV_fl dc_fl pm_fl cd_fl ct_fl : Value} {od_fl an_fl : Option Addr} {sl_fl : Array (Option Value)}
    (n_fl : PySem.W.nsIn K mainGlobals "falling" = some (some (.ref f_fl)))
    (l_fl : K.lookup f_fl = some ⟨oc_fl, od_fl, .func (PySem.W.fnOf "falling" "falling" (defArgs sFl) (defBody sFl) (defScope sFl) .none kV_fl dc_fl pm_fl an_fl cd_fl ct_fl), sl_fl⟩)
    (d_fl : PySem.W.codeIn K cd_fl "falling" = true)
    (k_fl : PySem.W.keepIn K (.ref f_fl) = true)
    {f_ig : Addr} {oc_ig kV_ig dc_ig pm_ig cd_ig ct_ig : Value} {od_ig an_ig : Option Addr} {sl_ig : Array (Option Value)}
    (n_ig : PySem.W.nsIn K mainGlobals "is_falling" = some (some (.ref f_ig)))
    (l_ig : K.lookup f_ig = some ⟨oc_ig, od_ig, .func (PySem.W.fnOf "is_falling" "is_falling" (defArgs sIg) (defBody sIg) (defScope sIg) .none kV_ig dc_ig pm_ig an_ig cd_ig ct_ig), sl_ig⟩)
    (d_ig : PySem.W.codeIn K cd_ig "is_falling" = true)
    (k_ig : PySem.W.keepIn K (.ref f_ig) = true)
    {f_crs : Addr} {oc_crs kV_crs dc_crs pm_crs cd_crs ct_crs : Value} {od_crs an_crs : Option Addr} {sl_crs : Array (Option Value)}
    (n_crs : PySem.W.nsIn K mainGlobals "_check_rows" = some (some (.ref f_crs)))
    (l_crs : K.lookup f_crs = some ⟨oc_crs, od_crs, .func (PySem.W.fnOf "_check_rows" "_check_rows" (defArgs sCrs) (defBody sCrs) (defScope sCrs) .none kV_crs dc_crs pm_crs an_crs cd_crs ct_crs), sl_crs⟩)
    (d_crs : PySem.W.codeIn K cd_crs "_check_rows" = true)
    (k_crs : PySem.W.keepIn K (.ref f_crs) = true)
    {f_cfs : Addr} {oc_cfs kV_cfs dc_cfs pm_cfs cd_cfs ct_cfs : Value} {od_cfs an_cfs : Option Addr} {sl_cfs : Array (Option Value)}
    (n_cfs : PySem.W.nsIn K mainGlobals "_check_fractions" = some (some (.ref f_cfs)))
    (l_cfs : K.lookup f_cfs = some ⟨oc_cfs, od_cfs, .func (PySem.W.fnOf "_check_fractions" "_check_fractions" (defArgs sCfs) (defBody sCfs) (defScope sCfs) .none kV_cfs dc_cfs pm_cfs an_cfs cd_cfs ct_cfs), sl_cfs⟩)
    (d_cfs : PySem.W.codeIn K cd_cfs "_check_fractions" = true)
    (k_cfs : PySem.W.keepIn K (.ref f_cfs) = true)
    {f_ct : Addr} {oc_ct kV_ct dc_ct pm_ct cd_ct ct_ct : Value} {od_ct an_ct : Option Addr} {sl_ct : Array (Option Value)}
    (n_ct : PySem.W.nsIn K mainGlobals "_check_rows_and_totals" = some (some (.ref f_ct)))
    (l_ct : K.lookup f_ct = some ⟨oc_ct, od_ct, .func (PySem.W.fnOf "_check_rows_and_totals" "_check_rows_and_totals" (defArgs sCt) (defBody sCt) (defScope sCt) .none kV_ct dc_ct pm_ct an_ct cd_ct ct_ct), sl_ct⟩)
    (d_ct : PySem.W.codeIn K cd_ct "_check_rows_and_totals" = true)
    (k_ct : PySem.W.keepIn K (.ref f_ct) = true)
    {f_csq : Addr} {oc_csq kV_csq dc_csq pm_csq cd_csq ct_csq : Value} {od_csq an_csq : Option Addr} {sl_csq : Array (Option Value)}
    (n_csq : PySem.W.nsIn K mainGlobals "_check_square" = some (some (.ref f_csq)))
    (l_csq : K.lookup f_csq = some ⟨oc_csq, od_csq, .func (PySem.W.fnOf "_check_square" "_check_square" (defArgs sSq) (defBody sSq) (defScope sSq) .none kV_csq dc_csq pm_csq an_csq cd_csq ct_csq), sl_csq⟩)
    (d_csq : PySem.W.codeIn K cd_csq "_check_square" = true)
    (k_csq : PySem.W.keepIn K (.ref f_csq) = true)
    {f_td : Addr} {oc_td kV_td dc_td pm_td cd_td ct_td : Value} {od_td an_td : Option Addr} {sl_td : Array (Option Value)}
    (n_td : PySem.W.nsIn K mainGlobals "_is_told" = some (some (.ref f_td)))
    (l_td : K.lookup f_td = some ⟨oc_td, od_td, .func (PySem.W.fnOf "_is_told" "_is_told" (defArgs sTd) (defBody sTd) (defScope sTd) .none kV_td dc_td pm_td an_td cd_td ct_td), sl_td⟩)
    (d_td : PySem.W.codeIn K cd_td "_is_told" = true)
    (k_td : PySem.W.keepIn K (.ref f_td) = true)
    {f_bl : Addr} {oc_bl kV_bl dc_bl pm_bl cd_bl ct_bl : Value} {od_bl an_bl : Option Addr} {sl_bl : Array (Option Value)}
    (n_bl : PySem.W.nsIn K mainGlobals "_is_below_somewhere" = some (some (.ref f_bl)))
    (l_bl : K.lookup f_bl = some ⟨oc_bl, od_bl, .func (PySem.W.fnOf "_is_below_somewhere" "_is_below_somewhere" (defArgs sBl) (defBody sBl) (defScope sBl) .none kV_bl dc_bl pm_bl an_bl cd_bl ct_bl), sl_bl⟩)
    (d_bl : PySem.W.codeIn K cd_bl "_is_below_somewhere" = true)
    (k_bl : PySem.W.keepIn K (.ref f_bl) = true)
    {f_em : Addr} {oc_em kV_em dc_em pm_em cd_em ct_em : Value} {od_em an_em : Option Addr} {sl_em : Array (Option Value)}
    (n_em : PySem.W.nsIn K mainGlobals "_is_everywhere_at_most" = some (some (.ref f_em)))
    (l_em : K.lookup f_em = some ⟨oc_em, od_em, .func (PySem.W.fnOf "_is_everywhere_at_most" "_is_everywhere_at_most" (defArgs sEm) (defBody sEm) (defScope sEm) .none kV_em dc_em pm_em an_em cd_em ct_em), sl_em⟩)
    (d_em : PySem.W.codeIn K cd_em "_is_everywhere_at_most" = true)
    (k_em : PySem.W.keepIn K (.ref f_em) = true)
    {f_trn : Addr} {oc_trn kV_trn dc_trn pm_trn cd_trn ct_trn : Value} {od_trn an_trn : Option Addr} {sl_trn : Array (Option Value)}
    (n_trn : PySem.W.nsIn K mainGlobals "_turned" = some (some (.ref f_trn)))
    (l_trn : K.lookup f_trn = some ⟨oc_trn, od_trn, .func (PySem.W.fnOf "_turned" "_turned" (defArgs sTrn) (defBody sTrn) (defScope sTrn) .none kV_trn dc_trn pm_trn an_trn cd_trn ct_trn), sl_trn⟩)
    (d_trn : PySem.W.codeIn K cd_trn "_turned" = true)
    (k_trn : PySem.W.keepIn K (.ref f_trn) = true)
    {f_lo : Addr} {oc_lo kV_lo dc_lo pm_lo cd_lo ct_lo : Value} {od_lo an_lo : Option Addr} {sl_lo : Array (Option Value)}
    (n_lo : PySem.W.nsIn K mainGlobals "_less_one" = some (some (.ref f_lo)))
    (l_lo : K.lookup f_lo = some ⟨oc_lo, od_lo, .func (PySem.W.fnOf "_less_one" "_less_one" (defArgs sLo) (defBody sLo) (defScope sLo) .none kV_lo dc_lo pm_lo an_lo cd_lo ct_lo), sl_lo⟩)
    (d_lo : PySem.W.codeIn K cd_lo "_less_one" = true)
    (k_lo : PySem.W.keepIn K (.ref f_lo) = true)
    {f_tms : Addr} {oc_tms kV_tms dc_tms pm_tms cd_tms ct_tms : Value} {od_tms an_tms : Option Addr} {sl_tms : Array (Option Value)}
    (n_tms : PySem.W.nsIn K mainGlobals "_times" = some (some (.ref f_tms)))
    (l_tms : K.lookup f_tms = some ⟨oc_tms, od_tms, .func (PySem.W.fnOf "_times" "_times" (defArgs sTms) (defBody sTms) (defScope sTms) .none kV_tms dc_tms pm_tms an_tms cd_tms ct_tms), sl_tms⟩)
    (d_tms : PySem.W.codeIn K cd_tms "_times" = true)
    (k_tms : PySem.W.keepIn K (.ref f_tms) = true)
    {f_ovr : Addr} {oc_ovr kV_ovr dc_ovr pm_ovr cd_ovr ct_ovr : Value} {od_ovr an_ovr : Option Addr} {sl_ovr : Array (Option Value)}
    (n_ovr : PySem.W.nsIn K mainGlobals "_over" = some (some (.ref f_ovr)))
    (l_ovr : K.lookup f_ovr = some ⟨oc_ovr, od_ovr, .func (PySem.W.fnOf "_over" "_over" (defArgs sOvr) (defBody sOvr) (defScope sOvr) .none kV_ovr dc_ovr pm_ovr an_ovr cd_ovr ct_ovr), sl_ovr⟩)
    (d_ovr : PySem.W.codeIn K cd_ovr "_over" = true)
    (k_ovr : PySem.W.keepIn K (.ref f_ovr) = true)
    {f_ka : Addr} {oc_ka kV_ka dc_ka pm_ka cd_ka ct_ka : Value} {od_ka an_ka : Option Addr} {sl_ka : Array (Option Value)}
    (n_ka : PySem.W.nsIn K mainGlobals "_factors" = some (some (.ref f_ka)))
    (l_ka : K.lookup f_ka = some ⟨oc_ka, od_ka, .func (PySem.W.fnOf "_factors" "_factors" (defArgs sKa) (defBody sKa) (defScope sKa) .none kV_ka dc_ka pm_ka an_ka cd_ka ct_ka), sl_ka⟩)
    (d_ka : PySem.W.codeIn K cd_ka "_factors" = true)
    (k_ka : PySem.W.keepIn K (.ref f_ka) = true)
    {f_kb : Addr} {oc_kb kV_kb dc_kb pm_kb cd_kb ct_kb : Value} {od_kb an_kb : Option Addr} {sl_kb : Array (Option Value)}
    (n_kb : PySem.W.nsIn K mainGlobals "corner_or_bar" = some (some (.ref f_kb)))
    (l_kb : K.lookup f_kb = some ⟨oc_kb, od_kb, .func (PySem.W.fnOf "corner_or_bar" "corner_or_bar" (defArgs sKb) (defBody sKb) (defScope sKb) .none kV_kb dc_kb pm_kb an_kb cd_kb ct_kb), sl_kb⟩)
    (d_kb : PySem.W.codeIn K cd_kb "corner_or_bar" = true)
    (k_kb : PySem.W.keepIn K (.ref f_kb) = true)
    {f_dice : Addr} {oc_dice kV_dice dc_dice pm_dice cd_dice ct_dice : Value} {od_dice an_dice : Option Addr} {sl_dice : Array (Option Value)}
    (n_dice : PySem.W.nsIn K mainGlobals "_law_dice" = some (some (.ref f_dice)))
    (l_dice : K.lookup f_dice = some ⟨oc_dice, od_dice, .func (PySem.W.fnOf "_law_dice" "_law_dice" (defArgs LD.sDice) (defBody LD.sDice) (defScope LD.sDice) .none kV_dice dc_dice pm_dice an_dice cd_dice ct_dice), sl_dice⟩)
    (d_dice : PySem.W.codeIn K cd_dice "_law_dice" = true)
    (k_dice : PySem.W.keepIn K (.ref f_dice) = true)
    {f_roll : Addr} {oc_roll kV_roll dc_roll pm_roll cd_roll ct_roll : Value} {od_roll an_roll : Option Addr} {sl_roll : Array (Option Value)}
    (n_roll : PySem.W.nsIn K mainGlobals "_law_roll" = some (some (.ref f_roll)))
    (l_roll : K.lookup f_roll = some ⟨oc_roll, od_roll, .func (PySem.W.fnOf "_law_roll" "_law_roll" (defArgs LD.sRoll) (defBody LD.sRoll) (defScope LD.sRoll) .none kV_roll dc_roll pm_roll an_roll cd_roll ct_roll), sl_roll⟩)
    (d_roll : PySem.W.codeIn K cd_roll "_law_roll" = true)
    (k_roll : PySem.W.keepIn K (.ref f_roll) = true)
    {f_one : Addr} {oc_one kV_one dc_one pm_one cd_one ct_one : Value} {od_one an_one : Option Addr} {sl_one : Array (Option Value)}
    (n_one : PySem.W.nsIn K mainGlobals "_law_one_of" = some (some (.ref f_one)))
    (l_one : K.lookup f_one = some ⟨oc_one, od_one, .func (PySem.W.fnOf "_law_one_of" "_law_one_of" (defArgs LD.sOneOf) (defBody LD.sOneOf) (defScope LD.sOneOf) .none kV_one dc_one pm_one an_one cd_one ct_one), sl_one⟩)
    (d_one : PySem.W.codeIn K cd_one "_law_one_of" = true)
    (k_one : PySem.W.keepIn K (.ref f_one) = true)
    {f_gcd : Addr} {oc_gcd kV_gcd dc_gcd pm_gcd cd_gcd ct_gcd : Value} {od_gcd an_gcd : Option Addr} {sl_gcd : Array (Option Value)}
    (n_gcd : PySem.W.nsIn K mainGlobals "_law_gcd" = some (some (.ref f_gcd)))
    (l_gcd : K.lookup f_gcd = some ⟨oc_gcd, od_gcd, .func (PySem.W.fnOf "_law_gcd" "_law_gcd" (defArgs sGcd) (defBody sGcd) (defScope sGcd) .none kV_gcd dc_gcd pm_gcd an_gcd cd_gcd ct_gcd), sl_gcd⟩)
    (d_gcd : PySem.W.codeIn K cd_gcd "_law_gcd" = true)
    (k_gcd : PySem.W.keepIn K (.ref f_gcd) = true)
    {f_rat : Addr} {oc_rat kV_rat dc_rat pm_rat cd_rat ct_rat : Value} {od_rat an_rat : Option Addr} {sl_rat : Array (Option Value)}
    (n_rat : PySem.W.nsIn K mainGlobals "_law_ratio" = some (some (.ref f_rat)))
    (l_rat : K.lookup f_rat = some ⟨oc_rat, od_rat, .func (PySem.W.fnOf "_law_ratio" "_law_ratio" (defArgs sRat) (defBody sRat) (defScope sRat) .none kV_rat dc_rat pm_rat an_rat cd_rat ct_rat), sl_rat⟩)
    (d_rat : PySem.W.codeIn K cd_rat "_law_ratio" = true)
    (k_rat : PySem.W.keepIn K (.ref f_rat) = true)
    {f_plus : Addr} {oc_plus kV_plus dc_plus pm_plus cd_plus ct_plus : Value} {od_plus an_plus : Option Addr} {sl_plus : Array (Option Value)}
    (n_plus : PySem.W.nsIn K mainGlobals "_law_plus" = some (some (.ref f_plus)))
    (l_plus : K.lookup f_plus = some ⟨oc_plus, od_plus, .func (PySem.W.fnOf "_law_plus" "_law_plus" (defArgs sPlus) (defBody sPlus) (defScope sPlus) .none kV_plus dc_plus pm_plus an_plus cd_plus ct_plus), sl_plus⟩)
    (d_plus : PySem.W.codeIn K cd_plus "_law_plus" = true)
    (k_plus : PySem.W.keepIn K (.ref f_plus) = true)
    {f_lby : Addr} {oc_lby kV_lby dc_lby pm_lby cd_lby ct_lby : Value} {od_lby an_lby : Option Addr} {sl_lby : Array (Option Value)}
    (n_lby : PySem.W.nsIn K mainGlobals "_law_by" = some (some (.ref f_lby)))
    (l_lby : K.lookup f_lby = some ⟨oc_lby, od_lby, .func (PySem.W.fnOf "_law_by" "_law_by" (defArgs sLby) (defBody sLby) (defScope sLby) .none kV_lby dc_lby pm_lby an_lby cd_lby ct_lby), sl_lby⟩)
    (d_lby : PySem.W.codeIn K cd_lby "_law_by" = true)
    (k_lby : PySem.W.keepIn K (.ref f_lby) = true)
    {f_shw : Addr} {oc_shw kV_shw dc_shw pm_shw cd_shw ct_shw : Value} {od_shw an_shw : Option Addr} {sl_shw : Array (Option Value)}
    (n_shw : PySem.W.nsIn K mainGlobals "_law_shown" = some (some (.ref f_shw)))
    (l_shw : K.lookup f_shw = some ⟨oc_shw, od_shw, .func (PySem.W.fnOf "_law_shown" "_law_shown" (defArgs sSh) (defBody sSh) (defScope sSh) .none kV_shw dc_shw pm_shw an_shw cd_shw ct_shw), sl_shw⟩)
    (d_shw : PySem.W.codeIn K cd_shw "_law_shown" = true)
    (k_shw : PySem.W.keepIn K (.ref f_shw) = true)
    {f_shr : Addr} {oc_shr kV_shr dc_shr pm_shr cd_shr ct_shr : Value} {od_shr an_shr : Option Addr} {sl_shr : Array (Option Value)}
    (n_shr : PySem.W.nsIn K mainGlobals "_law_shown_row" = some (some (.ref f_shr)))
    (l_shr : K.lookup f_shr = some ⟨oc_shr, od_shr, .func (PySem.W.fnOf "_law_shown_row" "_law_shown_row" (defArgs sSr) (defBody sSr) (defScope sSr) .none kV_shr dc_shr pm_shr an_shr cd_shr ct_shr), sl_shr⟩)
    (d_shr : PySem.W.codeIn K cd_shr "_law_shown_row" = true)
    (k_shr : PySem.W.keepIn K (.ref f_shr) = true)
    {f_num : Addr} {oc_num kV_num dc_num pm_num cd_num ct_num : Value} {od_num an_num : Option Addr} {sl_num : Array (Option Value)}
    (n_num : PySem.W.nsIn K mainGlobals "_law_number" = some (some (.ref f_num)))
    (l_num : K.lookup f_num = some ⟨oc_num, od_num, .func (PySem.W.fnOf "_law_number" "_law_number" (defArgs sNu) (defBody sNu) (defScope sNu) .none kV_num dc_num pm_num an_num cd_num ct_num), sl_num⟩)
    (d_num : PySem.W.codeIn K cd_num "_law_number" = true)
    (k_num : PySem.W.keepIn K (.ref f_num) = true)
    {f_lns : Addr} {oc_lns kV_lns dc_lns pm_lns cd_lns ct_lns : Value} {od_lns an_lns : Option Addr} {sl_lns : Array (Option Value)}
    (n_lns : PySem.W.nsIn K mainGlobals "_law_lines" = some (some (.ref f_lns)))
    (l_lns : K.lookup f_lns = some ⟨oc_lns, od_lns, .func (PySem.W.fnOf "_law_lines" "_law_lines" (defArgs sLn) (defBody sLn) (defScope sLn) .none kV_lns dc_lns pm_lns an_lns cd_lns ct_lns), sl_lns⟩)
    (d_lns : PySem.W.codeIn K cd_lns "_law_lines" = true)
    (k_lns : PySem.W.keepIn K (.ref f_lns) = true)
    {f_shl : Addr} {oc_shl kV_shl dc_shl pm_shl cd_shl ct_shl : Value} {od_shl an_shl : Option Addr} {sl_shl : Array (Option Value)}
    (n_shl : PySem.W.nsIn K mainGlobals "_law_shown_lines" = some (some (.ref f_shl)))
    (l_shl : K.lookup f_shl = some ⟨oc_shl, od_shl, .func (PySem.W.fnOf "_law_shown_lines" "_law_shown_lines" (defArgs sSl) (defBody sSl) (defScope sSl) .none kV_shl dc_shl pm_shl an_shl cd_shl ct_shl), sl_shl⟩)
    (d_shl : PySem.W.codeIn K cd_shl "_law_shown_lines" = true)
    (k_shl : PySem.W.keepIn K (.ref f_shl) = true)
    {f_word : Addr} {oc_word kV_word dc_word pm_word cd_word ct_word : Value} {od_word an_word : Option Addr} {sl_word : Array (Option Value)}
    (n_word : PySem.W.nsIn K mainGlobals "_law_word" = some (some (.ref f_word)))
    (l_word : K.lookup f_word = some ⟨oc_word, od_word, .func (PySem.W.fnOf "_law_word" "_law_word" (defArgs sWord) (defBody sWord) (defScope sWord) .none kV_word dc_word pm_word an_word cd_word ct_word), sl_word⟩)
    (d_word : PySem.W.codeIn K cd_word "_law_word" = true)
    (k_word : PySem.W.keepIn K (.ref f_word) = true)
    {f_on : Addr} {oc_on kV_on dc_on pm_on cd_on ct_on : Value} {od_on an_on : Option Addr} {sl_on : Array (Option Value)}
    (n_on : PySem.W.nsIn K mainGlobals "_law_odd_numbers" = some (some (.ref f_on)))
    (l_on : K.lookup f_on = some ⟨oc_on, od_on, .func (PySem.W.fnOf "_law_odd_numbers" "_law_odd_numbers" (defArgs sOn) (defBody sOn) (defScope sOn) .none kV_on dc_on pm_on an_on cd_on ct_on), sl_on⟩)
    (d_on : PySem.W.codeIn K cd_on "_law_odd_numbers" = true)
    (k_on : PySem.W.keepIn K (.ref f_on) = true)
    {f_od : Addr} {oc_od kV_od dc_od pm_od cd_od ct_od : Value} {od_od an_od : Option Addr} {sl_od : Array (Option Value)}
    (n_od : PySem.W.nsIn K mainGlobals "_law_odd_rows" = some (some (.ref f_od)))
    (l_od : K.lookup f_od = some ⟨oc_od, od_od, .func (PySem.W.fnOf "_law_odd_rows" "_law_odd_rows" (defArgs sOd) (defBody sOd) (defScope sOd) .none kV_od dc_od pm_od an_od cd_od ct_od), sl_od⟩)
    (d_od : PySem.W.codeIn K cd_od "_law_odd_rows" = true)
    (k_od : PySem.W.keepIn K (.ref f_od) = true)
    {f_law : Addr} {oc_law kV_law dc_law pm_law cd_law ct_law : Value} {od_law an_law : Option Addr} {sl_law : Array (Option Value)}
    (n_law : PySem.W.nsIn K mainGlobals "law" = some (some (.ref f_law)))
    (l_law : K.lookup f_law = some ⟨oc_law, od_law, .func (PySem.W.fnOf "law" "law" (defArgs sLaw) (defBody sLaw) (defScope sLaw) .none kV_law dc_law pm_law an_law cd_law ct_law), sl_law⟩)
    (d_law : PySem.W.codeIn K cd_law "law" = true)
    (k_law : PySem.W.keepIn K (.ref f_law) = true)
    {f_eq : Addr} {oc_eq kV_eq dc_eq pm_eq cd_eq ct_eq : Value} {od_eq an_eq : Option Addr} {sl_eq : Array (Option Value)}
    (n_eq : PySem.W.findIn K (.ref C) "__eq__" = some (some (.ref f_eq)))
    (l_eq : K.lookup f_eq = some ⟨oc_eq, od_eq, .func (PySem.W.fnOf "__eq__" "Fraction.__eq__" (defArgs sEq) (defBody sEq) (defScope sEq) .none kV_eq dc_eq pm_eq an_eq cd_eq ct_eq), sl_eq⟩)
    (d_eq : PySem.W.codeIn K cd_eq "Fraction.__eq__" = true)
    (k_eq : PySem.W.keepIn K (.ref f_eq) = true)
    (i_eq : PySem.W.isFn K (.ref f_eq) = true)
    {f_add : Addr} {oc_add kV_add dc_add pm_add cd_add ct_add : Value} {od_add an_add : Option Addr} {sl_add : Array (Option Value)}
    (n_add : PySem.W.findIn K (.ref C) "__add__" = some (some (.ref f_add)))
    (l_add : K.lookup f_add = some ⟨oc_add, od_add, .func (PySem.W.fnOf "__add__" "Fraction.__add__" (defArgs sAdd) (defBody sAdd) (defScope sAdd) .none kV_add dc_add pm_add an_add cd_add ct_add), sl_add⟩)
    (d_add : PySem.W.codeIn K cd_add "Fraction.__add__" = true)
    (k_add : PySem.W.keepIn K (.ref f_add) = true)
    (i_add : PySem.W.isFn K (.ref f_add) = true)
    {f_mul : Addr} {oc_mul kV_mul dc_mul pm_mul cd_mul ct_mul : Value} {od_mul an_mul : Option Addr} {sl_mul : Array (Option Value)}
    (n_mul : PySem.W.findIn K (.ref C) "__mul__" = some (some (.ref f_mul)))
    (l_mul : K.lookup f_mul = some ⟨oc_mul, od_mul, .func (PySem.W.fnOf "__mul__" "Fraction.__mul__" (defArgs sMul) (defBody sMul) (defScope sMul) .none kV_mul dc_mul pm_mul an_mul cd_mul ct_mul), sl_mul⟩)
    (d_mul : PySem.W.codeIn K cd_mul "Fraction.__mul__" = true)
    (k_mul : PySem.W.keepIn K (.ref f_mul) = true)
    (i_mul : PySem.W.isFn K (.ref f_mul) = true)
    {f_sub : Addr} {oc_sub kV_sub dc_sub pm_sub cd_sub ct_sub : Value} {od_sub an_sub : Option Addr} {sl_sub : Array (Option Value)}
    (n_sub : PySem.W.findIn K (.ref C) "__sub__" = some (some (.ref f_sub)))
    (l_sub : K.lookup f_sub = some ⟨oc_sub, od_sub, .func (PySem.W.fnOf "__sub__" "Fraction.__sub__" (defArgs sSub) (defBody sSub) (defScope sSub) .none kV_sub dc_sub pm_sub an_sub cd_sub ct_sub), sl_sub⟩)
    (d_sub : PySem.W.codeIn K cd_sub "Fraction.__sub__" = true)
    (k_sub : PySem.W.keepIn K (.ref f_sub) = true)
    (i_sub : PySem.W.isFn K (.ref f_sub) = true)
    {f_les : Addr} {oc_les kV_les dc_les pm_les cd_les ct_les : Value} {od_les an_les : Option Addr} {sl_les : Array (Option Value)}
    (n_les : PySem.W.findIn K (.ref C) "is_less" = some (some (.ref f_les)))
    (l_les : K.lookup f_les = some ⟨oc_les, od_les, .func (PySem.W.fnOf "is_less" "Fraction.is_less" (defArgs sLess) (defBody sLess) (defScope sLess) .none kV_les dc_les pm_les an_les cd_les ct_les), sl_les⟩)
    (d_les : PySem.W.codeIn K cd_les "Fraction.is_less" = true)
    (k_les : PySem.W.keepIn K (.ref f_les) = true)
    (i_les : PySem.W.isFn K (.ref f_les) = true)
    {f_ci : Addr} {oc_ci kV_ci dc_ci pm_ci cd_ci ct_ci : Value} {od_ci an_ci : Option Addr} {sl_ci : Array (Option Value)}
    (n_ci : PySem.W.findIn K (.ref D) "__init__" = some (some (.ref f_ci)))
    (l_ci : K.lookup f_ci = some ⟨oc_ci, od_ci, .func (PySem.W.fnOf "__init__" "Corner.__init__" (defArgs sCi) (defBody sCi) (defScope sCi) .none kV_ci dc_ci pm_ci an_ci cd_ci ct_ci), sl_ci⟩)
    (d_ci : PySem.W.codeIn K cd_ci "Corner.__init__" = true)
    (k_ci : PySem.W.keepIn K (.ref f_ci) = true)
    (i_ci : PySem.W.isFn K (.ref f_ci) = true)
    {f_kc : Addr} {oc_kc kV_kc dc_kc pm_kc cd_kc ct_kc : Value} {od_kc an_kc : Option Addr} {sl_kc : Array (Option Value)}
    (n_kc : PySem.W.findIn K (.ref D) "constant_of" = some (some (.ref f_kc)))
    (l_kc : K.lookup f_kc = some ⟨oc_kc, od_kc, .func (PySem.W.fnOf "constant_of" "Corner.constant_of" (defArgs sKc) (defBody sKc) (defScope sKc) .none kV_kc dc_kc pm_kc an_kc cd_kc ct_kc), sl_kc⟩)
    (d_kc : PySem.W.codeIn K cd_kc "Corner.constant_of" = true)
    (k_kc : PySem.W.keepIn K (.ref f_kc) = true)
    (i_kc : PySem.W.isFn K (.ref f_kc) = true)
    {f_kl : Addr} {oc_kl kV_kl dc_kl pm_kl cd_kl ct_kl : Value} {od_kl an_kl : Option Addr} {sl_kl : Array (Option Value)}
    (n_kl : PySem.W.findIn K (.ref D) "line_of" = some (some (.ref f_kl)))
    (l_kl : K.lookup f_kl = some ⟨oc_kl, od_kl, .func (PySem.W.fnOf "line_of" "Corner.line_of" (defArgs sKl) (defBody sKl) (defScope sKl) .none kV_kl dc_kl pm_kl an_kl cd_kl ct_kl), sl_kl⟩)
    (d_kl : PySem.W.codeIn K cd_kl "Corner.line_of" = true)
    (k_kl : PySem.W.keepIn K (.ref f_kl) = true)
    (i_kl : PySem.W.isFn K (.ref f_kl) = true)
    {f_kf : Addr} {oc_kf kV_kf dc_kf pm_kf cd_kf ct_kf : Value} {od_kf an_kf : Option Addr} {sl_kf : Array (Option Value)}
    (n_kf : PySem.W.findIn K (.ref D) "first_below" = some (some (.ref f_kf)))
    (l_kf : K.lookup f_kf = some ⟨oc_kf, od_kf, .func (PySem.W.fnOf "first_below" "Corner.first_below" (defArgs sKf) (defBody sKf) (defScope sKf) .none kV_kf dc_kf pm_kf an_kf cd_kf ct_kf), sl_kf⟩)
    (d_kf : PySem.W.codeIn K cd_kf "Corner.first_below" = true)
    (k_kf : PySem.W.keepIn K (.ref f_kf) = true)
    (i_kf : PySem.W.isFn K (.ref f_kf) = true)
    {f_km : Addr} {oc_km kV_km dc_km pm_km cd_km ct_km : Value} {od_km an_km : Option Addr} {sl_km : Array (Option Value)}
    (n_km : PySem.W.findIn K (.ref D) "move" = some (some (.ref f_km)))
    (l_km : K.lookup f_km = some ⟨oc_km, od_km, .func (PySem.W.fnOf "move" "Corner.move" (defArgs sKm) (defBody sKm) (defScope sKm) .none kV_km dc_km pm_km an_km cd_km ct_km), sl_km⟩)
    (d_km : PySem.W.codeIn K cd_km "Corner.move" = true)
    (k_km : PySem.W.keepIn K (.ref f_km) = true)
    (i_km : PySem.W.isFn K (.ref f_km) = true)
    {f_ei : Addr} {oc_ei kV_ei dc_ei pm_ei cd_ei ct_ei : Value} {od_ei an_ei : Option Addr} {sl_ei : Array (Option Value)}
    (n_ei : PySem.W.findIn K (.ref D2) "__init__" = some (some (.ref f_ei)))
    (l_ei : K.lookup f_ei = some ⟨oc_ei, od_ei, .func (PySem.W.fnOf "__init__" "Echelon.__init__" (defArgs sEi) (defBody sEi) (defScope sEi) .none kV_ei dc_ei pm_ei an_ei cd_ei ct_ei), sl_ei⟩)
    (d_ei : PySem.W.codeIn K cd_ei "Echelon.__init__" = true)
    (k_ei : PySem.W.keepIn K (.ref f_ei) = true)
    (i_ei : PySem.W.isFn K (.ref f_ei) = true)
    {f_er : Addr} {oc_er kV_er dc_er pm_er cd_er ct_er : Value} {od_er an_er : Option Addr} {sl_er : Array (Option Value)}
    (n_er : PySem.W.findIn K (.ref D2) "rest_of" = some (some (.ref f_er)))
    (l_er : K.lookup f_er = some ⟨oc_er, od_er, .func (PySem.W.fnOf "rest_of" "Echelon.rest_of" (defArgs sEr) (defBody sEr) (defScope sEr) .none kV_er dc_er pm_er an_er cd_er ct_er), sl_er⟩)
    (d_er : PySem.W.codeIn K cd_er "Echelon.rest_of" = true)
    (k_er : PySem.W.keepIn K (.ref f_er) = true)
    (i_er : PySem.W.isFn K (.ref f_er) = true)
    {f_ep : Addr} {oc_ep kV_ep dc_ep pm_ep cd_ep ct_ep : Value} {od_ep an_ep : Option Addr} {sl_ep : Array (Option Value)}
    (n_ep : PySem.W.findIn K (.ref D2) "place_in" = some (some (.ref f_ep)))
    (l_ep : K.lookup f_ep = some ⟨oc_ep, od_ep, .func (PySem.W.fnOf "place_in" "Echelon.place_in" (defArgs sEp) (defBody sEp) (defScope sEp) .none kV_ep dc_ep pm_ep an_ep cd_ep ct_ep), sl_ep⟩)
    (d_ep : PySem.W.codeIn K cd_ep "Echelon.place_in" = true)
    (k_ep : PySem.W.keepIn K (.ref f_ep) = true)
    (i_ep : PySem.W.isFn K (.ref f_ep) = true)
    {f_et : Addr} {oc_et kV_et dc_et pm_et cd_et ct_et : Value} {od_et an_et : Option Addr} {sl_et : Array (Option Value)}
    (n_et : PySem.W.findIn K (.ref D2) "take" = some (some (.ref f_et)))
    (l_et : K.lookup f_et = some ⟨oc_et, od_et, .func (PySem.W.fnOf "take" "Echelon.take" (defArgs sEt) (defBody sEt) (defScope sEt) .none kV_et dc_et pm_et an_et cd_et ct_et), sl_et⟩)
    (d_et : PySem.W.codeIn K cd_et "Echelon.take" = true)
    (k_et : PySem.W.keepIn K (.ref f_et) = true)
    (i_et : PySem.W.isFn K (.ref f_et) = true)
    {f_kw : Addr} {oc_kw kV_kw dc_kw pm_kw ct_kw : Value} {od_kw an_kw : Option Addr} {sl_kw : Array (Option Value)}
    (n_kw : PySem.W.findIn K (.ref D) "way_out" = some (some (.ref f_kw)))
    (l_kw : K.lookup f_kw = some ⟨oc_kw, od_kw, .func (PySem.W.fnOf "way_out" "Corner.way_out" (defArgs sKw) (defBody sKw) (defScope sKw) .none kV_kw dc_kw pm_kw an_kw (.ref cW) ct_kw), sl_kw⟩)
    (d_kw : PySem.W.codeIn K (.ref cW) "Corner.way_out" = true)
    (k_kw : PySem.W.keepIn K (.ref f_kw) = true)
    {dq_kw : Option Addr} {vq_kw : Array Value} {sq_kw : Array (Option Value)}
    (cq_kw : K.lookup cW = some ⟨.type "code", dq_kw, .fields vq_kw, sq_kw⟩)
    (pq_kw : (vq_kw[11]? : Option Value) = some (.ref Pt))
    (hT : h.get? Pt = some { cls := .none, data := .fields #[] })
    (nT_kw : K.lookup Pt = none)
    (hd_kw : PySem.W.codeHdIn K cW Pt = true)
    (i_kw : PySem.W.isFn K (.ref f_kw) = true)
    {f_ws : Addr} {oc_ws kV_ws dc_ws pm_ws ct_ws : Value} {od_ws an_ws : Option Addr} {sl_ws : Array (Option Value)}
    (n_ws : PySem.W.nsIn K mainGlobals "_law_words" = some (some (.ref f_ws)))
    (l_ws : K.lookup f_ws = some ⟨oc_ws, od_ws, .func (PySem.W.fnOf "_law_words" "_law_words" (defArgs sWs) (defBody sWs) (defScope sWs) .none kV_ws dc_ws pm_ws an_ws (.ref cA) ct_ws), sl_ws⟩)
    (d_ws : PySem.W.codeIn K (.ref cA) "_law_words" = true)
    (k_ws : PySem.W.keepIn K (.ref f_ws) = true)
    {dq_ws : Option Addr} {vq_ws : Array Value} {sq_ws : Array (Option Value)}
    (cq_ws : K.lookup cA = some ⟨.type "code", dq_ws, .fields vq_ws, sq_ws⟩)
    (pq_ws : (vq_ws[11]? : Option Value) = some (.ref Pa))
    (hTa : h.get? Pa = some { cls := .none, data := .fields #[] })
    (nT_ws : K.lookup Pa = none)
    (hd_ws : PySem.W.codeHdIn K cA Pa = true)
    {f_ri : Addr} {oc_ri kV_ri dc_ri pm_ri ct_ri : Value} {od_ri an_ri : Option Addr} {sl_ri : Array (Option Value)}
    (n_ri : PySem.W.nsIn K mainGlobals "_law_right" = some (some (.ref f_ri)))
    (l_ri : K.lookup f_ri = some ⟨oc_ri, od_ri, .func (PySem.W.fnOf "_law_right" "_law_right" (defArgs sRi) (defBody sRi) (defScope sRi) .none kV_ri dc_ri pm_ri an_ri (.ref cB) ct_ri), sl_ri⟩)
    (d_ri : PySem.W.codeIn K (.ref cB) "_law_right" = true)
    (k_ri : PySem.W.keepIn K (.ref f_ri) = true)
    {dq_ri : Option Addr} {vq_ri : Array Value} {sq_ri : Array (Option Value)}
    (cq_ri : K.lookup cB = some ⟨.type "code", dq_ri, .fields vq_ri, sq_ri⟩)
    (pq_ri : (vq_ri[11]? : Option Value) = some (.ref Pb))
    (hTb : h.get? Pb = some { cls := .none, data := .fields #[] })
    (nT_ri : K.lookup Pb = none)
    (hd_ri : PySem.W.codeHdIn K cB Pb = true)
    {f_sq8 : Addr} {oc_sq8 kV_sq8 dc_sq8 pm_sq8 ct_sq8 : Value} {od_sq8 an_sq8 : Option Addr} {sl_sq8 : Array (Option Value)}
    (n_sq8 : PySem.W.nsIn K mainGlobals "_law_square_right" = some (some (.ref f_sq8)))
    (l_sq8 : K.lookup f_sq8 = some ⟨oc_sq8, od_sq8, .func (PySem.W.fnOf "_law_square_right" "_law_square_right" (defArgs sSq8) (defBody sSq8) (defScope sSq8) .none kV_sq8 dc_sq8 pm_sq8 an_sq8 (.ref cE) ct_sq8), sl_sq8⟩)
    (d_sq8 : PySem.W.codeIn K (.ref cE) "_law_square_right" = true)
    (k_sq8 : PySem.W.keepIn K (.ref f_sq8) = true)
    {dq_sq8 : Option Addr} {vq_sq8 : Array Value} {sq_sq8 : Array (Option Value)}
    (cq_sq8 : K.lookup cE = some ⟨.type "code", dq_sq8, .fields vq_sq8, sq_sq8⟩)
    (pq_sq8 : (vq_sq8[11]? : Option Value) = some (.ref Pd))
    (hTd : h.get? Pd = some { cls := .none, data := .fields #[] })
    (nT_sq8 : K.lookup Pd = none)
    (hd_sq8 : PySem.W.codeHdIn K cE Pd = true)
    (hne : (decide (Pt ≠ Pa) && (decide (Pt ≠ Pb) && (decide (Pt ≠ Pd) && (decide (Pa ≠ Pb) && (decide (Pa ≠ Pd) && decide (Pb ≠ Pd)))))) = true)
    {f_top : Addr} {oc_top kV_top dc_top pm_top cd_top ct_top : Value} {od_top an_top : Option Addr} {sl_top : Array (Option Value)}
    {p_top : Addr} {r_top : List Value}
    (n_top : PySem.W.findIn K (.ref C) "top" = some (some (.ref p_top)))
    (g_top : PySem.W.specialIn K (.ref p_top) "__get__" = some (some (.builtin "property.__get__")))
    (t_top : PySem.W.takesIn K (.ref p_top) = some true)
    (r_topx : PySem.W.recIn K p_top "property" = some (.ref f_top :: r_top))
    (l_top : K.lookup f_top = some ⟨oc_top, od_top, .func (PySem.W.fnOf "top" "Fraction.top" (defArgs sTop) (defBody sTop) (defScope sTop) .none kV_top dc_top pm_top an_top cd_top ct_top), sl_top⟩)
    (d_top : PySem.W.codeIn K cd_top "Fraction.top" = true)
    (k_top : PySem.W.keepIn K (.ref f_top) = true)
    {f_bot : Addr} {oc_bot kV_bot dc_bot pm_bot cd_bot ct_bot : Value} {od_bot an_bot : Option Addr} {sl_bot : Array (Option Value)}
    {p_bot : Addr} {r_bot : List Value}
    (n_bot : PySem.W.findIn K (.ref C) "bottom" = some (some (.ref p_bot)))
    (g_bot : PySem.W.specialIn K (.ref p_bot) "__get__" = some (some (.builtin "property.__get__")))
    (t_bot : PySem.W.takesIn K (.ref p_bot) = some true)
    (r_botx : PySem.W.recIn K p_bot "property" = some (.ref f_bot :: r_bot))
    (l_bot : K.lookup f_bot = some ⟨oc_bot, od_bot, .func (PySem.W.fnOf "bottom" "Fraction.bottom" (defArgs sBot) (defBody sBot) (defScope sBot) .none kV_bot dc_bot pm_bot an_bot cd_bot ct_bot), sl_bot⟩)
    (d_bot : PySem.W.codeIn K cd_bot "Fraction.bottom" = true)
    (k_bot : PySem.W.keepIn K (.ref f_bot) = true)
    {f_ini : Addr} {oc_ini kV_ini dc_ini pm_ini cd_ini ct_ini : Value} {od_ini an_ini : Option Addr} {sl_ini : Array (Option Value)}
    {T_ini : Addr} {tc_ini : Value} {td_ini : Option Addr} {ti_ini : Array Value} {tn_ini : Nat} {ts_ini : Array (Option Value)} {tk_ini : Tok}
    (n_ini : PySem.W.findIn K (.ref C) "__init__" = some (some (.ref f_ini)))
    (l_ini : K.lookup f_ini = some ⟨oc_ini, od_ini, .func (PySem.W.fnOf "__init__" "Fraction.__init__" (defArgs sInit) (defBody sInit) (defScope sInit) (.ref T_ini) kV_ini dc_ini pm_ini an_ini cd_ini ct_ini), sl_ini⟩)
    (d_ini : PySem.W.codeIn K cd_ini "Fraction.__init__" = true)
    (k_ini : PySem.W.keepIn K (.ref f_ini) = true)
    (i_ini : PySem.W.isFn K (.ref f_ini) = true)
    (T_inix : K.lookup T_ini = some ⟨tc_ini, td_ini, .seq ti_ini tn_ini, ts_ini⟩)
    (v_ini : ti_ini = [Value.int 1 tk_ini].toArray)
    (z_int : PySem.W.nsIn K mainGlobals "int" = some none)
    (z_len : PySem.W.nsIn K mainGlobals "len" = some none)
    (z_abs : PySem.W.nsIn K mainGlobals "abs" = some none)
    (z_max : PySem.W.nsIn K mainGlobals "max" = some none)
    (z_min : PySem.W.nsIn K mainGlobals "min" = some none)
    (z_isinstance : PySem.W.nsIn K mainGlobals "isinstance" = some none)
    (z_range : PySem.W.nsIn K mainGlobals "range" = some none)
    (z_bool : PySem.W.nsIn K mainGlobals "bool" = some none)
    (z_tuple : PySem.W.nsIn K mainGlobals "tuple" = some none)
    (z_all : PySem.W.nsIn K mainGlobals "all" = some none)
    (z_any : PySem.W.nsIn K mainGlobals "any" = some none)
    (z_sum : PySem.W.nsIn K mainGlobals "sum" = some none)
    (z_zip : PySem.W.nsIn K mainGlobals "zip" = some none)
    (z_enumerate : PySem.W.nsIn K mainGlobals "enumerate" = some none)
    (z_list : PySem.W.nsIn K mainGlobals "list" = some none)
    (z_str : PySem.W.nsIn K mainGlobals "str" = some none)
    (rcls : clsB K C = true)
    (rrow : rowB K C = true)
    (rop_add : opB K C "add" = true)
    (rop_mul : opB K C "mul" = true)
    (rop_sub : opB K C "sub" = true)
    (ecls : clsB K D = true)
    (erow : corB K D = true)
    (o_NoneType : oddB K C "NoneType" = true)
    (o_bool : oddB K C "bool" = true)
    (o_int : oddB K C "int" = true)
    (o_str : oddB K C "str" = true)
    (o_list : oddB K C "list" = true)
    (o_tuple : oddB K C "tuple" = true)
    (o_dict : oddB K C "dict" = true)
    (ecls2 : clsB K D2 = true)
    (erow2 : echB K D2 = true)
    (xR : excB K IR = true)
    (xO : excB K IO = true)
    (xm : exmB K IR IO = true)
    (ntup : (PySem.W.kitOne K (.ref C) (.type "tuple") == some false) = true) :
    LawAtS l w K CX0 13 63 "_law_script" mg fa h := by
  have e := hfa.symm.trans (PySem.W.mg_of X G n_law)
  cases e
  have no : ∀ {x : Str}, PySem.W.nsIn K mainGlobals x = some none → mg x = none := fun z => PySem.W.mg_none_of X G z
  have at_ : ∀ {x : Str} {v : Value}, PySem.W.nsIn K mainGlobals x = some (some v) → mg x = some v := fun z => PySem.W.mg_of X G z
  have F_clr := fun_mk (st := sClr) l_clr d_clr k_clr
  have b_clr := F_clr.binds (ps := ["rows", "line", "at", "divisor"]) fun _ _ _ _ _ _ us hl => match us, hl with | [_, _, _, _], _ => rfl
  have F_plain := fun_mk (st := sPlain) l_plain d_plain k_plain
  have b_plain := F_plain.binds (ps := ["value"]) fun _ _ _ _ _ _ us hl => match us, hl with | [_], _ => rfl
  have F_bet := fun_mk (st := sBet) l_bet d_bet k_bet
  have b_bet := F_bet.binds (ps := ["value", "least", "greatest"]) fun _ _ _ _ _ _ us hl => match us, hl with | [_, _, _], _ => rfl
  have F_isf := fun_mk (st := sIsF) l_isf d_isf k_isf
  have b_isf := F_isf.binds (ps := ["value"]) fun _ _ _ _ _ _ us hl => match us, hl with | [_], _ => rfl
  have F_asf := fun_mk (st := sAs) l_asf d_asf k_asf
  have b_asf := F_asf.binds (ps := ["value"]) fun _ _ _ _ _ _ us hl => match us, hl with | [_], _ => rfl
  have F_fs := fun_mk (st := sFs) l_fs d_fs k_fs
  have b_fs := F_fs.binds (ps := ["value"]) fun _ _ _ _ _ _ us hl => match us, hl with | [_], _ => rfl
  have F_over := fun_mk (st := sOver) l_over d_over k_over
  have b_over := F_over.binds (ps := ["fractions"]) fun _ _ _ _ _ _ us hl => match us, hl with | [_], _ => rfl
  have F_irs := fun_mk (st := sIrs) l_irs d_irs k_irs
  have b_irs := F_irs.binds (ps := ["value"]) fun _ _ _ _ _ _ us hl => match us, hl with | [_], _ => rfl
  have F_tof := fun_mk (st := sTof) l_tof d_tof k_tof
  have b_tof := F_tof.binds (ps := ["rows", "column"]) fun _ _ _ _ _ _ us hl => match us, hl with | [_, _], _ => rfl
  have F_mof := fun_mk (st := sMof) l_mof d_mof k_mof
  have b_mof := F_mof.binds (ps := ["rows", "factors"]) fun _ _ _ _ _ _ us hl => match us, hl with | [_, _], _ => rfl
  have F_cle := fun_mk (st := sCle) l_cle d_cle k_cle
  have b_cle := F_cle.binds (ps := ["rows"]) fun _ _ _ _ _ _ us hl => match us, hl with | [_], _ => rfl
  have F_so := fun_mk (st := sSo) l_so d_so k_so
  have b_so := F_so.binds (ps := ["rows", "totals"]) fun _ _ _ _ _ _ us hl => match us, hl with | [_, _], _ => rfl
  have F_mk := fun_mk (st := sMk) l_mk d_mk k_mk
  have b_mk := F_mk.binds (ps := ["at", "many"]) fun _ _ _ _ _ _ us hl => match us, hl with | [_, _], _ => rfl
  have F_fa := fun_mk (st := sFa) l_fa d_fa k_fa
  have b_fa := F_fa.binds (ps := ["taken", "rest", "many"]) fun _ _ _ _ _ _ us hl => match us, hl with | [_, _, _], _ => rfl
  have F_is := fun_mk (st := sIs) l_is d_is k_is
  have b_is := F_is.binds (ps := ["rows", "totals", "value"]) fun _ _ _ _ _ _ us hl => match us, hl with | [_, _, _], _ => rfl
  have F_fi := fun_mk (st := sFi) l_fi d_fi k_fi
  have b_fi := F_fi.binds (ps := ["rows", "totals"]) fun _ _ _ _ _ _ us hl => match us, hl with | [_, _], _ => rfl
  have F_ft := fun_mk (st := sFt) l_ft d_ft k_ft
  have b_ft := F_ft.binds (ps := ["rows", "totals"]) fun _ _ _ _ _ _ us hl => match us, hl with | [_, _], _ => rfl
  have F_if := fun_mk (st := sIf) l_if d_if k_if
  have b_if := F_if.binds (ps := ["rows", "totals", "value"]) fun _ _ _ _ _ _ us hl => match us, hl with | [_, _, _], _ => rfl
  have F_fl := fun_mk (st := sFl) l_fl d_fl k_fl
  have b_fl := F_fl.binds (ps := ["rows"]) fun _ _ _ _ _ _ us hl => match us, hl with | [_], _ => rfl
  have F_ig := fun_mk (st := sIg) l_ig d_ig k_ig
  have b_ig := F_ig.binds (ps := ["rows", "value"]) fun _ _ _ _ _ _ us hl => match us, hl with | [_, _], _ => rfl
  have F_crs := fun_mk (st := sCrs) l_crs d_crs k_crs
  have b_crs := F_crs.binds (ps := ["rows"]) fun _ _ _ _ _ _ us hl => match us, hl with | [_], _ => rfl
  have F_cfs := fun_mk (st := sCfs) l_cfs d_cfs k_cfs
  have b_cfs := F_cfs.binds (ps := ["value", "many"]) fun _ _ _ _ _ _ us hl => match us, hl with | [_, _], _ => rfl
  have F_ct := fun_mk (st := sCt) l_ct d_ct k_ct
  have b_ct := F_ct.binds (ps := ["rows", "totals"]) fun _ _ _ _ _ _ us hl => match us, hl with | [_, _], _ => rfl
  have F_csq := fun_mk (st := sSq) l_csq d_csq k_csq
  have b_csq := F_csq.binds (ps := ["rows"]) fun _ _ _ _ _ _ us hl => match us, hl with | [_], _ => rfl
  have F_td := fun_mk (st := sTd) l_td d_td k_td
  have b_td := F_td.binds (ps := ["value", "word", "many"]) fun _ _ _ _ _ _ us hl => match us, hl with | [_, _, _], _ => rfl
  have F_bl := fun_mk (st := sBl) l_bl d_bl k_bl
  have b_bl := F_bl.binds (ps := ["fractions"]) fun _ _ _ _ _ _ us hl => match us, hl with | [_], _ => rfl
  have F_em := fun_mk (st := sEm) l_em d_em k_em
  have b_em := F_em.binds (ps := ["fractions", "others"]) fun _ _ _ _ _ _ us hl => match us, hl with | [_, _], _ => rfl
  have F_trn := fun_mk (st := sTrn) l_trn d_trn k_trn
  have b_trn := F_trn.binds (ps := ["rows"]) fun _ _ _ _ _ _ us hl => match us, hl with | [_], _ => rfl
  have F_lo := fun_mk (st := sLo) l_lo d_lo k_lo
  have b_lo := F_lo.binds (ps := ["rows"]) fun _ _ _ _ _ _ us hl => match us, hl with | [_], _ => rfl
  have F_tms := fun_mk (st := sTms) l_tms d_tms k_tms
  have b_tms := F_tms.binds (ps := ["rows", "column"]) fun _ _ _ _ _ _ us hl => match us, hl with | [_, _], _ => rfl
  have F_ovr := fun_mk (st := sOvr) l_ovr d_ovr k_ovr
  have b_ovr := F_ovr.binds (ps := ["tops", "bottom"]) fun _ _ _ _ _ _ us hl => match us, hl with | [_, _], _ => rfl
  have F_ka := fun_mk (st := sKa) l_ka d_ka k_ka
  have b_ka := F_ka.binds (ps := ["corner", "number", "line"]) fun _ _ _ _ _ _ us hl => match us, hl with | [_, _, _], _ => rfl
  have F_kb := fun_mk (st := sKb) l_kb d_kb k_kb
  have b_kb := F_kb.binds (ps := ["lines", "width"]) fun _ _ _ _ _ _ us hl => match us, hl with | [_, _], _ => rfl
  have F_dice := fun_mk (st := LD.sDice) l_dice d_dice k_dice
  have b_dice := F_dice.binds (ps := ["_law_script", "_law_at"]) fun _ _ _ _ _ _ us hl => match us, hl with | [_, _], _ => rfl
  have F_roll := fun_mk (st := LD.sRoll) l_roll d_roll k_roll
  have b_roll := F_roll.binds (ps := ["_law_dice_here", "_law_total"]) fun _ _ _ _ _ _ us hl => match us, hl with | [_, _], _ => rfl
  have F_one := fun_mk (st := LD.sOneOf) l_one d_one k_one
  have b_one := F_one.binds (ps := ["_law_dice_here", "_law_items"]) fun _ _ _ _ _ _ us hl => match us, hl with | [_, _], _ => rfl
  have F_gcd := fun_mk (st := sGcd) l_gcd d_gcd k_gcd
  have b_gcd := F_gcd.binds (ps := ["_law_one", "_law_two"]) fun _ _ _ _ _ _ us hl => match us, hl with | [_, _], _ => rfl
  have F_rat := fun_mk (st := sRat) l_rat d_rat k_rat
  have b_rat := F_rat.binds (ps := ["_law_top", "_law_bottom"]) fun _ _ _ _ _ _ us hl => match us, hl with | [_, _], _ => rfl
  have F_plus := fun_mk (st := sPlus) l_plus d_plus k_plus
  have b_plus := F_plus.binds (ps := ["_law_one", "_law_two"]) fun _ _ _ _ _ _ us hl => match us, hl with | [_, _], _ => rfl
  have F_lby := fun_mk (st := sLby) l_lby d_lby k_lby
  have b_lby := F_lby.binds (ps := ["_law_one", "_law_two"]) fun _ _ _ _ _ _ us hl => match us, hl with | [_, _], _ => rfl
  have F_shw := fun_mk (st := sSh) l_shw d_shw k_shw
  have b_shw := F_shw.binds (ps := ["_law_dice_here", "_law_pair"]) fun _ _ _ _ _ _ us hl => match us, hl with | [_, _], _ => rfl
  have F_shr := fun_mk (st := sSr) l_shr d_shr k_shr
  have b_shr := F_shr.binds (ps := ["_law_dice_here", "_law_pairs"]) fun _ _ _ _ _ _ us hl => match us, hl with | [_, _], _ => rfl
  have F_num := fun_mk (st := sNu) l_num d_num k_num
  have b_num := F_num.binds (ps := ["_law_dice_here"]) fun _ _ _ _ _ _ us hl => match us, hl with | [_], _ => rfl
  have F_lns := fun_mk (st := sLn) l_lns d_lns k_lns
  have b_lns := F_lns.binds (ps := ["_law_dice_here", "_law_most", "_law_wide"]) fun _ _ _ _ _ _ us hl => match us, hl with | [_, _, _], _ => rfl
  have F_shl := fun_mk (st := sSl) l_shl d_shl k_shl
  have b_shl := F_shl.binds (ps := ["_law_dice_here", "_law_lines_here"]) fun _ _ _ _ _ _ us hl => match us, hl with | [_, _], _ => rfl
  have F_word := fun_mk (st := sWord) l_word d_word k_word
  have b_word := F_word.binds (ps := ["_law_call"]) fun _ _ _ _ _ _ us hl => match us, hl with | [_], _ => rfl
  have F_on := fun_mk (st := sOn) l_on d_on k_on
  have b_on := F_on.binds (ps := ["_law_dice_here", "_law_size"]) fun _ _ _ _ _ _ us hl => match us, hl with | [_, _], _ => rfl
  have F_od := fun_mk (st := sOd) l_od d_od k_od
  have b_od := F_od.binds (ps := ["_law_dice_here"]) fun _ _ _ _ _ _ us hl => match us, hl with | [_], _ => rfl
  have F_law := fun_mk (st := sLaw) l_law d_law k_law
  have b_law := F_law.binds (ps := ["_law_script"]) fun _ _ _ _ _ _ us hl => match us, hl with | [_], _ => rfl
  have F_eq := fun_mk (st := sEq) l_eq d_eq k_eq
  have b_eq := F_eq.binds (ps := ["self", "other"]) fun _ _ _ _ _ _ us hl => match us, hl with | [_, _], _ => rfl
  have F_add := fun_mk (st := sAdd) l_add d_add k_add
  have b_add := F_add.binds (ps := ["self", "other"]) fun _ _ _ _ _ _ us hl => match us, hl with | [_, _], _ => rfl
  have F_mul := fun_mk (st := sMul) l_mul d_mul k_mul
  have b_mul := F_mul.binds (ps := ["self", "other"]) fun _ _ _ _ _ _ us hl => match us, hl with | [_, _], _ => rfl
  have F_sub := fun_mk (st := sSub) l_sub d_sub k_sub
  have b_sub := F_sub.binds (ps := ["self", "other"]) fun _ _ _ _ _ _ us hl => match us, hl with | [_, _], _ => rfl
  have F_les := fun_mk (st := sLess) l_les d_les k_les
  have b_les := F_les.binds (ps := ["self", "other"]) fun _ _ _ _ _ _ us hl => match us, hl with | [_, _], _ => rfl
  have F_ci := fun_mk (st := sCi) l_ci d_ci k_ci
  have b_ci := F_ci.binds (ps := ["self", "lines", "width"]) fun _ _ _ _ _ _ us hl => match us, hl with | [_, _, _], _ => rfl
  have F_kc := fun_mk (st := sKc) l_kc d_kc k_kc
  have b_kc := F_kc.binds (ps := ["self", "number"]) fun _ _ _ _ _ _ us hl => match us, hl with | [_, _], _ => rfl
  have F_kl := fun_mk (st := sKl) l_kl d_kl k_kl
  have b_kl := F_kl.binds (ps := ["self", "number"]) fun _ _ _ _ _ _ us hl => match us, hl with | [_, _], _ => rfl
  have F_kf := fun_mk (st := sKf) l_kf d_kf k_kf
  have b_kf := F_kf.binds (ps := ["self"]) fun _ _ _ _ _ _ us hl => match us, hl with | [_], _ => rfl
  have F_km := fun_mk (st := sKm) l_km d_km k_km
  have b_km := F_km.binds (ps := ["self", "number", "line", "at"]) fun _ _ _ _ _ _ us hl => match us, hl with | [_, _, _, _], _ => rfl
  have F_ei := fun_mk (st := sEi) l_ei d_ei k_ei
  have b_ei := F_ei.binds (ps := ["self", "width"]) fun _ _ _ _ _ _ us hl => match us, hl with | [_, _], _ => rfl
  have F_er := fun_mk (st := sEr) l_er d_er k_er
  have b_er := F_er.binds (ps := ["self", "line"]) fun _ _ _ _ _ _ us hl => match us, hl with | [_, _], _ => rfl
  have F_ep := fun_mk (st := sEp) l_ep d_ep k_ep
  have b_ep := F_ep.binds (ps := ["self", "rest"]) fun _ _ _ _ _ _ us hl => match us, hl with | [_, _], _ => rfl
  have F_et := fun_mk (st := sEt) l_et d_et k_et
  have b_et := F_et.binds (ps := ["self", "rest", "place"]) fun _ _ _ _ _ _ us hl => match us, hl with | [_, _, _], _ => rfl
  have F_top := fun_mk (st := sTop) l_top d_top k_top
  have b_top := F_top.binds (ps := ["self"]) fun _ _ _ _ _ _ us hl => match us, hl with | [_], _ => rfl
  have F_bot := fun_mk (st := sBot) l_bot d_bot k_bot
  have b_bot := F_bot.binds (ps := ["self"]) fun _ _ _ _ _ _ us hl => match us, hl with | [_], _ => rfl
  have F_kw := fun_mkC (st := sKw) l_kw d_kw k_kw
  have b_kw := F_kw.fun_.binds (ps := ["self", "line"]) fun _ _ _ _ _ _ us hl => match us, hl with | [_, _], _ => rfl
  have F_ws := fun_mkC (st := sWs) l_ws d_ws k_ws
  have b_ws := F_ws.fun_.binds (ps := ["_law_rows", "_law_column", "_law_totals"]) fun _ _ _ _ _ _ us hl => match us, hl with | [_, _, _], _ => rfl
  have F_ri := fun_mkC (st := sRi) l_ri d_ri k_ri
  have b_ri := F_ri.fun_.binds (ps := ["_law_dice_here"]) fun _ _ _ _ _ _ us hl => match us, hl with | [_], _ => rfl
  have F_sq8 := fun_mkC (st := sSq8) l_sq8 d_sq8 k_sq8
  have b_sq8 := F_sq8.fun_.binds (ps := ["_law_dice_here"]) fun _ _ _ _ _ _ us hl => match us, hl with | [_], _ => rfl
  have cC := cls_of rcls
  have cD := cls_of ecls
  simp only [rowB, Bool.and_eq_true, beq_iff_eq] at rrow
  obtain ⟨w1, w2, w3, w4, w5, w6, w7, w8, w9, w10⟩ := rrow
  simp only [corB, Bool.and_eq_true, beq_iff_eq] at erow
  obtain ⟨e1, e2, e3, e4, e5, e6, e7⟩ := erow
  simp only [echB, Bool.and_eq_true, beq_iff_eq] at erow2
  obtain ⟨g1, g2, g3, g4, g5, g6⟩ := erow2
  have cD2 := cls_of ecls2
  simp only [exmB, Bool.and_eq_true, beq_iff_eq] at xm
  obtain ⟨x1, x2, x3⟩ := xm
  have OD : OddsC K C := ⟨odd_of o_NoneType, odd_of o_bool, odd_of o_int, odd_of o_str, odd_of o_list, odd_of o_tuple, odd_of o_dict⟩
  have TF : TxtF K mg C := ⟨cC, w1, w2, at_ aC, at_ agcd⟩
  have TE : TxtC6 K mg D := ⟨cD, e1, e2, e3, e4, e5, no z_zip, no z_range, no z_list, no z_len, no z_sum, no z_min⟩
  have TE2 : TxtE K mg D2 := ⟨cD2, g1, g2, g3, g4, no z_zip, no z_range⟩
  have TD : TxtD mg := ⟨no z_int, no z_len, no z_abs, no z_max⟩
  have TR : TxtR mg := ⟨no z_isinstance, no z_tuple, no z_len, no z_all, ⟨_, at_ aMR⟩, ⟨_, at_ aMW⟩⟩
  have TC : TxtC mg := ⟨no z_range, no z_len, no z_enumerate, no z_list⟩
  subst v_ini
  have FI : FunD K "__init__" "Fraction.__init__" (defArgs sInit) (defBody sInit) (defScope sInit) [V.int 1] [] f_ini _ := ⟨⟨oc_ini, od_ini, .ref T_ini, kV_ini, dc_ini, pm_ini, an_ini, cd_ini, ct_ini, sl_ini, rfl, l_ini, d_ini, .inr ⟨by decide, T_ini, _, [.int 1 tk_ini], tn_ini, rfl, T_inix, rfl, .cons ⟨tk_ini, rfl⟩ .nil⟩, .inl rfl⟩, k_ini⟩
  obtain ⟨bI1, bI2⟩ := init_binds FI
  have XR := exc_of xR (at_ aIR)
  have XO := exc_of xO (at_ aIO)
  have XT : ExT K mg IR IO EE := ⟨at_ aIR, at_ aIO, at_ aEE, x1, x2, x3⟩
  have Wt : WordT K mg f_word IR IO EE := ⟨XT, at_ n_word, k_word, ⟨_, _, _, _, _, _, _, _, _, l_word, d_word, b_word⟩⟩
  obtain ⟨u1, u2, u3, u4⟩ := uniq4 (q1 := qLam) (q2 := qWs) (q3 := qRi) (q4 := qSq8) hne
  let Tt : List (Addr × Str) := [(Pt, qLam), (Pa, qWs), (Pb, qRi), (Pd, qSq8)]
  have m1 : (Pt, qLam) ∈ Tt := .head _
  have m2 : (Pa, qWs) ∈ Tt := .tail _ (.head _)
  have m3 : (Pb, qRi) ∈ Tt := .tail _ (.tail _ (.head _))
  have m4 : (Pd, qSq8) ∈ Tt := .tail _ (.tail _ (.tail _ (.head _)))
  refine ⟨PySem.W.fnOf "law" "law" (defArgs sLaw) (defBody sLaw) (defScope sLaw) .none kV_law dc_law pm_law an_law cd_law ct_law, [(cW, Pt), (cA, Pa), (cB, Pb), (cE, Pd)], spLaw K Tt, all4 hT hTa hTb hTd, all4 nT_kw nT_ws nT_ri nT_sq8, all4 (PySem.W.codeHd_of_K X hd_kw) (PySem.W.codeHd_of_K X hd_ws) (PySem.W.codeHd_of_K X hd_ri) (PySem.W.codeHd_of_K X hd_sq8), fun s v => .of_eq rfl, fun H a ns hl hb hH hS => ⟨a, ns, rfl, hS, all4 (TabS.nil (hH (cW, Pt) (.head _))) (TabS.nil (hH (cA, Pa) (.tail _ (.head _)))) (TabS.nil (hH (cB, Pb) (.tail _ (.tail _ (.head _))))) (TabS.nil (hH (cE, Pd) (.tail _ (.tail _ (.tail _ (.head _)))))), fun _ => rfl⟩, fun base _ _ hTB => ?_⟩
  have B1 : TabB base mg cW Pt := hTB (cW, Pt) (.head _)
  have B2 : TabB base mg cA Pa := hTB (cA, Pa) (.tail _ (.head _))
  have B3 : TabB base mg cB Pb := hTB (cB, Pb) (.tail _ (.tail _ (.head _)))
  have B4 : TabB base mg cE Pd := hTB (cE, Pd) (.tail _ (.tail _ (.tail _ (.head _))))
  have GP : FnOk l.prog w K mg base CX0 1 f_plain _ ["value"] (spPlain K) := ok_plain F_plain (no z_isinstance) (no z_int) (no z_bool)
  have GI := ok_init (P := l.prog) (w := w) (base := base) FI TF GP (at_ n_plain) k_plain b_plain
  have GTo : FnOk l.prog w K mg base CX0 1 f_top _ ["self"] (getSp C "_top") := fn_getter (N := ["self"]) l_top d_top ⟨rfl, rfl, rfl, by decide +kernel, rfl, by decide +kernel, by decide +kernel⟩ rfl rfl cC w1
  have GBo : FnOk l.prog w K mg base CX0 1 f_bot _ ["self"] (getSp C "_bottom") := fn_getter (N := ["self"]) l_bot d_bot ⟨rfl, rfl, rfl, by decide +kernel, rfl, by decide +kernel, by decide +kernel⟩ rfl rfl cC w2
  have k : FrK l.prog w K mg base C f_ini p_top f_top p_bot f_bot _ _ _ := ⟨TF, ⟨w7, n_ini, i_ini, w8⟩, GI, bI1, bI2, ⟨n_top, g_top, t_top, _, r_topx⟩, GTo, b_top, ⟨n_bot, g_bot, t_bot, _, r_botx⟩, GBo, b_bot, no z_isinstance, w3, w4, w5, w6, OD.int.k⟩
  have GA := ok_as F_asf k
  have GIsF := ok_isF F_isf k OD GP (at_ n_plain) k_plain b_plain
  have mE : Met l.prog w K mg base C "__eq__" 3 ["self", "other"] (FR.spEq K C) := ⟨_, _, ⟨n_eq, i_eq⟩, k_eq, ok_eq F_eq k OD GP (at_ n_plain) k_plain b_plain, b_eq⟩
  have N : NoT K C := ⟨fun {H q t b} f => by
    obtain ⟨dx, hp⟩ := f
    exact .base (.ins hp k.T.cl k.ha k.hn k.tk k.hm), beq_iff_eq.mp ntup⟩
  have gA : Glo l.prog w K mg base "as_fraction" 4 ["value"] (spAs C) := ⟨_, _, GA, at_ n_asf, k_asf, b_asf⟩
  have gBet : Glo l.prog w K mg base "is_between" 2 ["value", "least", "greatest"] spBet := ⟨_, _, ok_bet F_bet GP (at_ n_plain) k_plain b_plain, at_ n_bet, k_bet, b_bet⟩
  have gBetX : Glo l.prog w K mg base "is_between" 2 ["value", "least", "greatest"] spBetX := ⟨_, _, ok_betX F_bet GP (at_ n_plain) k_plain b_plain, at_ n_bet, k_bet, b_bet⟩
  have gFs : Glo l.prog w K mg base "is_fractions" 3 ["value"] (spFs C) := ⟨_, _, ok_fs F_fs GIsF (at_ n_isf) k_isf b_isf (no z_isinstance) (no z_tuple) (no z_all), at_ n_fs, k_fs, b_fs⟩
  have gOv : Glo l.prog w K mg base "over_one_bottom" 5 ["fractions"] (spOver C) := ⟨_, _, ok_over F_over k GA (at_ n_asf) k_asf b_asf (at_ alcm), at_ n_over, k_over, b_over⟩
  have gOvr : Glo l.prog w K mg base "_over" 4 ["tops", "bottom"] (spOvr C) := ⟨_, _, ok_ovr F_ovr k (no z_tuple), at_ n_ovr, k_ovr, b_ovr⟩
  have gClr : Glo l.prog w K mg base "cleared_by" 1 ["rows", "line", "at", "divisor"] spClr := ⟨_, _, ok_clr F_clr (no z_zip), at_ n_clr, k_clr, b_clr⟩
  have GCi : FnOk l.prog w K mg base CX0 1 f_ci _ ["self", "lines", "width"] (spCi D) := ok_ci F_ci TE
  have ck : CkC l.prog w K mg base D f_ci _ := ⟨TE, ⟨e6, n_ci, i_ci, e7⟩, GCi, b_ci, at_ aD⟩
  have mC : Met l.prog w K mg base D "constant_of" 1 ["self", "number"] (spKc D) := ⟨_, _, ⟨n_kc, i_kc⟩, k_kc, ok_kc F_kc TE, b_kc⟩
  have mLi : Met l.prog w K mg base D "line_of" 1 ["self", "number"] (spKl D) := ⟨_, _, ⟨n_kl, i_kl⟩, k_kl, ok_kl F_kl TE, b_kl⟩
  have mFb : Met l.prog w K mg base D "first_below" 2 ["self"] (spKf D) := ⟨_, _, ⟨n_kf, i_kf⟩, k_kf, ok_kf F_kf TE mC, b_kf⟩
  have mWo : Met l.prog w K mg base D "way_out" 3 ["self", "line"] (spKw D Tt) := ⟨_, _, ⟨n_kw, i_kw⟩, k_kw, ok_kw F_kw TE B1 m1 u1, b_kw⟩
  have mMv : Met l.prog w K mg base D "move" 2 ["self", "number", "line", "at"] (spKm D) := ⟨_, _, ⟨n_km, i_km⟩, k_km, ok_km F_km TE gClr, b_km⟩
  have GEi : FnOk l.prog w K mg base CX0 1 f_ei _ ["self", "width"] (spEi D2) := ok_ei F_ei TE2
  have ek : EcK l.prog w K mg base D2 f_ei _ := ⟨TE2, ⟨g5, n_ei, i_ei, g6⟩, GEi, b_ei, at_ aD2⟩
  have mR : Met l.prog w K mg base D2 "rest_of" 1 ["self", "line"] (spEr D2) := ⟨_, _, ⟨n_er, i_er⟩, k_er, ok_er F_er TE2, b_er⟩
  have mP : Met l.prog w K mg base D2 "place_in" 1 ["self", "rest"] (spEp D2) := ⟨_, _, ⟨n_ep, i_ep⟩, k_ep, ok_ep F_ep TE2, b_ep⟩
  have mT : Met l.prog w K mg base D2 "take" 2 ["self", "rest", "place"] (spEt D2) := ⟨_, _, ⟨n_et, i_et⟩, k_et, ok_et F_et TE2 gClr, b_et⟩
  have gKa : Glo l.prog w K mg base "_factors" 1 ["corner", "number", "line"] (spKa D) := ⟨_, _, ok_ka F_ka TE, at_ n_ka, k_ka, b_ka⟩
  have gKb : Glo l.prog w K mg base "corner_or_bar" 4 ["lines", "width"] (spKb D Tt) := ⟨_, _, ok_kb F_kb ck mFb mLi mWo mMv gKa, at_ n_kb, k_kb, b_kb⟩
  have mS : Met l.prog w K mg base C "__sub__" 5 ["self", "other"] (spOp C fSub) := ⟨_, _, ⟨n_sub, i_sub⟩, k_sub, ok_sub F_sub k GA (at_ n_asf) k_asf b_asf, b_sub⟩
  have mLe : Met l.prog w K mg base C "is_less" 5 ["self", "other"] (spLess C) := ⟨_, _, ⟨n_les, i_les⟩, k_les, ok_less F_les k gA, b_les⟩
  have gIsF : Glo l.prog w K mg base "is_fraction" 2 ["value"] (spIsF K C) := ⟨_, _, GIsF, at_ n_isf, k_isf, b_isf⟩
  have gFsB : Glo l.prog w K mg base "is_fractions" 3 ["value"] (spFsB K C) := ⟨_, _, ok_fsB F_fs gIsF (no z_isinstance) (no z_tuple) (no z_all) N, at_ n_fs, k_fs, b_fs⟩
  have gTd : Glo l.prog w K mg base "_is_told" 4 ["value", "word", "many"] (spTd K C) := ⟨_, _, ok_td F_td gFsB (no z_isinstance) (no z_tuple) (no z_str) (no z_len) N, at_ n_td, k_td, b_td⟩
  have gTrn : Glo l.prog w K mg base "_turned" 1 ["rows"] (spTrn C) := ⟨_, _, ok_trn F_trn (no z_tuple) (no z_range) (no z_len), at_ n_trn, k_trn, b_trn⟩
  have gTms : Glo l.prog w K mg base "_times" 6 ["rows", "column"] (spTms C) := ⟨_, _, ok_tms F_tms k gOv (no z_sum) (no z_tuple) (no z_zip), at_ n_tms, k_tms, b_tms⟩
  have gIrs : Glo l.prog w K mg base "is_rows" 4 ["value"] (spIrs C) := ⟨_, _, ok_irs F_irs TR gBet gFs, at_ n_irs, k_irs, b_irs⟩
  have gIrsX : Glo l.prog w K mg base "is_rows" 4 ["value"] (spIrsX K C) := ⟨_, _, ok_irsX F_irs TR N gBetX gFsB, at_ n_irs, k_irs, b_irs⟩
  have gIrsB : Glo l.prog w K mg base "is_rows" 4 ["value"] (spIrsB K C) := ⟨_, _, fn_or (ok_irsX F_irs TR N gBetX gFsB) (ok_irs F_irs TR gBet gFs), at_ n_irs, k_irs, b_irs⟩
  have gCrs : Glo l.prog w K mg base "_check_rows" 5 ["rows"] (spCrs C) := ⟨_, _, ok_crs F_crs gIrs, at_ n_crs, k_crs, b_crs⟩
  have gCfs : Glo l.prog w K mg base "_check_fractions" 4 ["value", "many"] (spCfs C) := ⟨_, _, ok_cfs F_cfs gFs (no z_len), at_ n_cfs, k_cfs, b_cfs⟩
  have gCt : Glo l.prog w K mg base "_check_rows_and_totals" 6 ["rows", "totals"] (spCt C) := ⟨_, _, ok_ct F_ct gCrs gCfs (no z_len), at_ n_ct, k_ct, b_ct⟩
  have gMk : Glo l.prog w K mg base "_mark" 1 ["at", "many"] spMk := ⟨_, _, ok_mk F_mk (no z_range), at_ n_mk, k_mk, b_mk⟩
  have gFa : Glo l.prog w K mg base "_factors_of" 4 ["taken", "rest", "many"] (spFa C) := ⟨_, _, ok_fa F_fa k (no z_zip) (no z_tuple), at_ n_fa, k_fa, b_fa⟩
  have gBl : Glo l.prog w K mg base "_is_below_somewhere" 5 ["fractions"] (spBl C) := ⟨_, _, ok_bl F_bl k gA (no z_any), at_ n_bl, k_bl, b_bl⟩
  have gEm : Glo l.prog w K mg base "_is_everywhere_at_most" 6 ["fractions", "others"] (spEm C) := ⟨_, _, ok_em F_em k gA mLe (no z_any) (no z_zip), at_ n_em, k_em, b_em⟩
  have gFt : Glo l.prog w K mg base "_fit" 6 ["rows", "totals"] (spFt K C Tt) := ⟨_, _, ok_ft F_ft TE gOv gKb gOvr, at_ n_ft, k_ft, b_ft⟩
  have gSq : Glo l.prog w K mg base "_check_square" 6 ["rows"] (spSq C) := ⟨_, _, ok_sq F_csq gCrs gBl (no z_any) (no z_len), at_ n_csq, k_csq, b_csq⟩
  have gLo : Glo l.prog w K mg base "_less_one" 6 ["rows"] (spLo C) := ⟨_, _, ok_lo F_lo mS w10 (op_of rop_sub) (no z_enumerate), at_ n_lo, k_lo, b_lo⟩
  have gIsN : Glo l.prog w K mg base "is_solution" 8 ["rows", "totals", "value"] (spIsN K C) := ⟨_, _, ok_isN F_is gCt gTd gTms mE OD (no z_len), at_ n_is, k_is, b_is⟩
  have gIfN : Glo l.prog w K mg base "is_fit" 8 ["rows", "totals", "value"] (spIfN K C) := ⟨_, _, ok_ifN F_if gCt gTd gTms gBl gEm (no z_len), at_ n_if, k_if, b_if⟩
  have xCr : GloX l.prog w K mg base "_check_rows" 5 ["rows"] (spCrB K C IR) := ⟨_, _, fn_or (fn_lift (ok_crs F_crs gIrs)) (ok_crX F_crs XR gIrsX), at_ n_crs, k_crs, b_crs⟩
  have xCf : GloX l.prog w K mg base "_check_fractions" 4 ["value", "many"] (spCfX K C IR) := ⟨_, _, ok_cfX F_cfs XR gFsB (no z_len), at_ n_cfs, k_cfs, b_cfs⟩
  have xCt : GloX l.prog w K mg base "_check_rows_and_totals" 6 ["rows", "totals"] (spCtX K C IR) := ⟨_, _, ok_ctX F_ct xCr xCf (no z_len), at_ n_ct, k_ct, b_ct⟩
  have xSq : GloX l.prog w K mg base "_check_square" 6 ["rows"] (spSqX K C IR IO) := ⟨_, _, ok_sqX F_csq XO xCr gBl (no z_any) (no z_len), at_ n_csq, k_csq, b_csq⟩
  have xTof : GloX l.prog w K mg base "times_of" 7 ["rows", "column"] (spTofB K C IR) := ⟨_, _, fn_or (fn_lift (ok_tof F_tof gCrs gCfs gTms (no z_len))) (ok_tofX F_tof xCr xCf (no z_len)), at_ n_tof, k_tof, b_tof⟩
  have xMof : GloX l.prog w K mg base "mix_of" 7 ["rows", "factors"] (spMofB K C IR) := ⟨_, _, fn_or (fn_lift (ok_mof F_mof gCrs gCfs gTms gTrn (no z_len))) (ok_mofX F_mof xCr xCf (no z_len)), at_ n_mof, k_mof, b_mof⟩
  have xCl : GloX l.prog w K mg base "cleared" 7 ["rows"] (spCrX K C IR) := ⟨_, _, ok_cleX F_cle xCr, at_ n_cle, k_cle, b_cle⟩
  have xSo : GloX l.prog w K mg base "solution" 7 ["rows", "totals"] (spSoB K C IR) := ⟨_, _, fn_or (fn_lift (ok_so F_so k ek mR mP mT gCt gOv gMk gFa (no z_len) (no z_zip) (no z_enumerate) (no z_tuple))) (ok_soX F_so xCt), at_ n_so, k_so, b_so⟩
  have xFi : GloX l.prog w K mg base "fit" 7 ["rows", "totals"] (spFiB K C IR Tt) := ⟨_, _, fn_or (fn_lift (ok_fi F_fi gCt gFt)) (ok_fiX F_fi xCt), at_ n_fi, k_fi, b_fi⟩
  have xIs : GloX l.prog w K mg base "is_solution" 8 ["rows", "totals", "value"] (spIsB K C IR) := ⟨_, _, fn_or (fn_lift (ok_isN F_is gCt gTd gTms mE OD (no z_len))) (ok_isX F_is xCt), at_ n_is, k_is, b_is⟩
  have xIf : GloX l.prog w K mg base "is_fit" 8 ["rows", "totals", "value"] (spIfB K C IR) := ⟨_, _, fn_or (fn_lift (ok_ifN F_if gCt gTd gTms gBl gEm (no z_len))) (ok_ifX F_if xCt), at_ n_if, k_if, b_if⟩
  have xFl : GloX l.prog w K mg base "falling" 7 ["rows"] (spFlB K C IR IO Tt) := ⟨_, _, fn_or (fn_lift (fl_weak (ok_fl F_fl gSq gLo gTrn gFt (no z_len)))) (ok_flX F_fl xSq), at_ n_fl, k_fl, b_fl⟩
  have xIg : GloX l.prog w K mg base "is_falling" 8 ["rows", "value"] (spSq2 K C IR IO) := ⟨_, _, ok_igX F_ig xSq, at_ n_ig, k_ig, b_ig⟩
  have S6 : Six l.prog w K mg base C IR IO Tt := ⟨xTof, xMof, xSo, xFi, xIs, xIf⟩
  have gR : Glo l.prog w K mg base "_law_roll" 1 ["_law_dice_here", "_law_total"] spRoll := ⟨_, _, ok_roll F_roll TD.mI, at_ n_roll, k_roll, b_roll⟩
  have gO : Glo l.prog w K mg base "_law_one_of" 2 ["_law_dice_here", "_law_items"] spOneOf := ⟨_, _, ok_oneOf F_one TD F_roll (at_ n_roll) k_roll b_roll, at_ n_one, k_one, b_one⟩
  have GG : FnOk l.prog w K mg base CX0 1 f_gcd _ ["_law_one", "_law_two"] spGcd := ok_gcd F_gcd (no z_int)
  have gRa : Glo l.prog w K mg base "_law_ratio" 2 ["_law_top", "_law_bottom"] spRat := ⟨_, _, ok_rat F_rat GG (at_ n_gcd) k_gcd b_gcd (no z_abs), at_ n_rat, k_rat, b_rat⟩
  have gD : Glo l.prog w K mg base "_law_dice" 1 ["_law_script", "_law_at"] (spDice K) := ⟨_, _, ok_dice F_dice TD, at_ n_dice, k_dice, b_dice⟩
  have gP : Glo l.prog w K mg base "_law_plus" 3 ["_law_one", "_law_two"] (spLP plusP) := ⟨_, _, ok_plus F_plus gRa, at_ n_plus, k_plus, b_plus⟩
  have gB' : Glo l.prog w K mg base "_law_by" 3 ["_law_one", "_law_two"] (spLP byP) := ⟨_, _, ok_lby F_lby gRa, at_ n_lby, k_lby, b_lby⟩
  have gSh : Glo l.prog w K mg base "_law_shown" 4 ["_law_dice_here", "_law_pair"] (spSh C) := ⟨_, _, ok_sh F_shw k gR, at_ n_shw, k_shw, b_shw⟩
  have gSr : Glo l.prog w K mg base "_law_shown_row" 5 ["_law_dice_here", "_law_pairs"] (spSr C) := ⟨_, _, ok_sr F_shr gSh (no z_tuple), at_ n_shr, k_shr, b_shr⟩
  have gNu : Glo l.prog w K mg base "_law_number" 3 ["_law_dice_here"] spNu := ⟨_, _, ok_nu F_num gO gRa, at_ n_num, k_num, b_num⟩
  have gLn : Glo l.prog w K mg base "_law_lines" 4 ["_law_dice_here", "_law_most", "_law_wide"] spLn := ⟨_, _, ok_ln F_lns TC (no z_zip) gR gO gNu gB' gP, at_ n_lns, k_lns, b_lns⟩
  have gSl : Glo l.prog w K mg base "_law_shown_lines" 6 ["_law_dice_here", "_law_lines_here"] (spSl C) := ⟨_, _, ok_sl F_shl gSr (no z_tuple), at_ n_shl, k_shl, b_shl⟩
  have gOn : Glo l.prog w K mg base "_law_odd_numbers" 4 ["_law_dice_here", "_law_size"] (spOn K C) := ⟨_, _, ok_On F_on k gO, at_ n_on, k_on, b_on⟩
  have gOd : Glo l.prog w K mg base "_law_odd_rows" 4 ["_law_dice_here"] (spOd K C) := ⟨_, _, ok_Od F_od k gO, at_ n_od, k_od, b_od⟩
  have gWs : Glo l.prog w K mg base "_law_words" 11 ["_law_rows", "_law_column", "_law_totals"] (spWs K C IR IO Tt) := ⟨_, _, ok_ws F_ws Wt B2 m2 u2 S6, at_ n_ws, k_ws, b_ws⟩
  have gRi : Glo l.prog w K mg base "_law_right" 12 ["_law_dice_here"] (spRi Tt) := ⟨_, _, ok_ri F_ri Wt B3 m3 u3 gLn gSl gOd gOn gIrsX gWs xCl xFl xIg gIsN gIfN (no z_len), at_ n_ri, k_ri, b_ri⟩
  have gS8 : Glo l.prog w K mg base "_law_square_right" 12 ["_law_dice_here"] (spRi Tt) := ⟨_, _, ok_sq8 F_sq8 k Wt B4 m4 u4 gR xFl xIg (no z_range) (no z_tuple), at_ n_sq8, k_sq8, b_sq8⟩
  exact ok_law F_law gD gRi gS8 gIrsB (no z_range) (no z_max) (no z_min) (no z_len)
end FR
open PySem PySem.W PyProof.Rows
set_option Elab.async false
set_option maxRecDepth 100000 in
set_option maxHeartbeats 0 in
theorem PySem.Challenge.cw_surelyends_k08_errors_of_rows_holds : PySem.Challenge.rw_surelyends_k08_errors_of_rows.Holds := by
  w_on; o_law; k_head; (case hw => w_witness2)
  k_fill
  refine LamX.walk_ofTs (l := PySem.Challenge.rw_surelyends_k08_errors_of_rows) (n := 63) (k := 13) (x := "_law_script") (CX := fun _ => L2.CX0) rfl (by decide) rfl ⟨rfl, by decide, by decide⟩ (fun w h Y => PySem.W.km_in_of Y) ?F (fun _ _ _ _ _ h => h)
  case F =>
    intro w mg fa h Y KX G hmg
    refine' FR.all_mk KX G hmg ?aC ?aD ?agcd ?alcm ?aMR ?aMW ?aD2 ?aIR ?aIO ?aEE ?n_clr ?l_clr ?d_clr ?k_clr ?n_plain ?l_plain ?d_plain ?k_plain ?n_bet ?l_bet ?d_bet ?k_bet ?n_isf ?l_isf ?d_isf ?k_isf ?n_asf ?l_asf ?d_asf ?k_asf ?n_fs ?l_fs ?d_fs ?k_fs ?n_over ?l_over ?d_over ?k_over ?n_irs ?l_irs ?d_irs ?k_irs ?n_tof ?l_tof ?d_tof ?k_tof ?n_mof ?l_mof ?d_mof ?k_mof ?n_cle ?l_cle ?d_cle ?k_cle ?n_so ?l_so ?d_so ?k_so ?n_mk ?l_mk ?d_mk ?k_mk ?n_fa ?l_fa ?d_fa ?k_fa ?n_is ?l_is ?d_is ?k_is ?n_fi ?l_fi ?d_fi ?k_fi ?n_ft ?l_ft ?d_ft ?k_ft ?n_if ?l_if ?d_if ?k_if ?n_fl ?l_fl ?d_fl ?k_fl ?n_ig ?l_ig ?d_ig ?k_ig ?n_crs ?l_crs ?d_crs ?k_crs ?n_cfs ?l_cfs ?d_cfs ?k_cfs ?n_ct ?l_ct ?d_ct ?k_ct ?n_csq ?l_csq ?d_csq ?k_csq ?n_td ?l_td ?d_td ?k_td ?n_bl ?l_bl ?d_bl ?k_bl ?n_em ?l_em ?d_em ?k_em ?n_trn ?l_trn ?d_trn ?k_trn ?n_lo ?l_lo ?d_lo ?k_lo ?n_tms ?l_tms ?d_tms ?k_tms ?n_ovr ?l_ovr ?d_ovr ?k_ovr ?n_ka ?l_ka ?d_ka ?k_ka ?n_kb ?l_kb ?d_kb ?k_kb ?n_dice ?l_dice ?d_dice ?k_dice ?n_roll ?l_roll ?d_roll ?k_roll ?n_one ?l_one ?d_one ?k_one ?n_gcd ?l_gcd ?d_gcd ?k_gcd ?n_rat ?l_rat ?d_rat ?k_rat ?n_plus ?l_plus ?d_plus ?k_plus ?n_lby ?l_lby ?d_lby ?k_lby ?n_shw ?l_shw ?d_shw ?k_shw ?n_shr ?l_shr ?d_shr ?k_shr ?n_num ?l_num ?d_num ?k_num ?n_lns ?l_lns ?d_lns ?k_lns ?n_shl ?l_shl ?d_shl ?k_shl ?n_word ?l_word ?d_word ?k_word ?n_on ?l_on ?d_on ?k_on ?n_od ?l_od ?d_od ?k_od ?n_law ?l_law ?d_law ?k_law ?n_eq ?l_eq ?d_eq ?k_eq ?i_eq ?n_add ?l_add ?d_add ?k_add ?i_add ?n_mul ?l_mul ?d_mul ?k_mul ?i_mul ?n_sub ?l_sub ?d_sub ?k_sub ?i_sub ?n_les ?l_les ?d_les ?k_les ?i_les ?n_ci ?l_ci ?d_ci ?k_ci ?i_ci ?n_kc ?l_kc ?d_kc ?k_kc ?i_kc ?n_kl ?l_kl ?d_kl ?k_kl ?i_kl ?n_kf ?l_kf ?d_kf ?k_kf ?i_kf ?n_km ?l_km ?d_km ?k_km ?i_km ?n_ei ?l_ei ?d_ei ?k_ei ?i_ei ?n_er ?l_er ?d_er ?k_er ?i_er ?n_ep ?l_ep ?d_ep ?k_ep ?i_ep ?n_et ?l_et ?d_et ?k_et ?i_et ?n_kw ?l_kw ?d_kw ?k_kw ?cq_kw ?pq_kw ?hT ?nT_kw ?hd_kw ?i_kw ?n_ws ?l_ws ?d_ws ?k_ws ?cq_ws ?pq_ws ?hTa ?nT_ws ?hd_ws ?n_ri ?l_ri ?d_ri ?k_ri ?cq_ri ?pq_ri ?hTb ?nT_ri ?hd_ri ?n_sq8 ?l_sq8 ?d_sq8 ?k_sq8 ?cq_sq8 ?pq_sq8 ?hTd ?nT_sq8 ?hd_sq8 ?hne ?n_top ?g_top ?t_top ?r_topx ?l_top ?d_top ?k_top ?n_bot ?g_bot ?t_bot ?r_botx ?l_bot ?d_bot ?k_bot ?n_ini ?l_ini ?d_ini ?k_ini ?i_ini ?T_inix ?v_ini ?z_int ?z_len ?z_abs ?z_max ?z_min ?z_isinstance ?z_range ?z_bool ?z_tuple ?z_all ?z_any ?z_sum ?z_zip ?z_enumerate ?z_list ?z_str ?rcls ?rrow ?rop_add ?rop_mul ?rop_sub ?ecls ?erow ?o_NoneType ?o_bool ?o_int ?o_str ?o_list ?o_tuple ?o_dict ?ecls2 ?erow2 ?xR ?xO ?xm ?ntup
    (case aC => k_is)
    (case aD => k_is)
    (case agcd => k_is)
    (case alcm => k_is)
    (case aMR => k_is)
    (case aMW => k_is)
    (case aD2 => k_is)
    (case aIR => k_is)
    (case aIO => k_is)
    (case aEE => k_is)
    (case n_clr => k_is)
    (case l_clr => k_is)
    (case d_clr => k_is)
    (case k_clr => k_is)
    (case n_plain => k_is)
    (case l_plain => k_is)
    (case d_plain => k_is)
    (case k_plain => k_is)
    (case n_bet => k_is)
    (case l_bet => k_is)
    (case d_bet => k_is)
    (case k_bet => k_is)
    (case n_isf => k_is)
    (case l_isf => k_is)
    (case d_isf => k_is)
    (case k_isf => k_is)
    (case n_asf => k_is)
    (case l_asf => k_is)
    (case d_asf => k_is)
    (case k_asf => k_is)
    (case n_fs => k_is)
    (case l_fs => k_is)
    (case d_fs => k_is)
    (case k_fs => k_is)
    (case n_over => k_is)
    (case l_over => k_is)
    (case d_over => k_is)
    (case k_over => k_is)
    (case n_irs => k_is)
    (case l_irs => k_is)
    (case d_irs => k_is)
    (case k_irs => k_is)
    (case n_tof => k_is)
    (case l_tof => k_is)
    (case d_tof => k_is)
    (case k_tof => k_is)
    (case n_mof => k_is)
    (case l_mof => k_is)
    (case d_mof => k_is)
    (case k_mof => k_is)
    (case n_cle => k_is)
    (case l_cle => k_is)
    (case d_cle => k_is)
    (case k_cle => k_is)
    (case n_so => k_is)
    (case l_so => k_is)
    (case d_so => k_is)
    (case k_so => k_is)
    (case n_mk => k_is)
    (case l_mk => k_is)
    (case d_mk => k_is)
    (case k_mk => k_is)
    (case n_fa => k_is)
    (case l_fa => k_is)
    (case d_fa => k_is)
    (case k_fa => k_is)
    (case n_is => k_is)
    (case l_is => k_is)
    (case d_is => k_is)
    (case k_is => k_is)
    (case n_fi => k_is)
    (case l_fi => k_is)
    (case d_fi => k_is)
    (case k_fi => k_is)
    (case n_ft => k_is)
    (case l_ft => k_is)
    (case d_ft => k_is)
    (case k_ft => k_is)
    (case n_if => k_is)
    (case l_if => k_is)
    (case d_if => k_is)
    (case k_if => k_is)
    (case n_fl => k_is)
    (case l_fl => k_is)
    (case d_fl => k_is)
    (case k_fl => k_is)
    (case n_ig => k_is)
    (case l_ig => k_is)
    (case d_ig => k_is)
    (case k_ig => k_is)
    (case n_crs => k_is)
    (case l_crs => k_is)
    (case d_crs => k_is)
    (case k_crs => k_is)
    (case n_cfs => k_is)
    (case l_cfs => k_is)
    (case d_cfs => k_is)
    (case k_cfs => k_is)
    (case n_ct => k_is)
    (case l_ct => k_is)
    (case d_ct => k_is)
    (case k_ct => k_is)
    (case n_csq => k_is)
    (case l_csq => k_is)
    (case d_csq => k_is)
    (case k_csq => k_is)
    (case n_td => k_is)
    (case l_td => k_is)
    (case d_td => k_is)
    (case k_td => k_is)
    (case n_bl => k_is)
    (case l_bl => k_is)
    (case d_bl => k_is)
    (case k_bl => k_is)
    (case n_em => k_is)
    (case l_em => k_is)
    (case d_em => k_is)
    (case k_em => k_is)
    (case n_trn => k_is)
    (case l_trn => k_is)
    (case d_trn => k_is)
    (case k_trn => k_is)
    (case n_lo => k_is)
    (case l_lo => k_is)
    (case d_lo => k_is)
    (case k_lo => k_is)
    (case n_tms => k_is)
    (case l_tms => k_is)
    (case d_tms => k_is)
    (case k_tms => k_is)
    (case n_ovr => k_is)
    (case l_ovr => k_is)
    (case d_ovr => k_is)
    (case k_ovr => k_is)
    (case n_ka => k_is)
    (case l_ka => k_is)
    (case d_ka => k_is)
    (case k_ka => k_is)
    (case n_kb => k_is)
    (case l_kb => k_is)
    (case d_kb => k_is)
    (case k_kb => k_is)
    (case n_dice => k_is)
    (case l_dice => k_is)
    (case d_dice => k_is)
    (case k_dice => k_is)
    (case n_roll => k_is)
    (case l_roll => k_is)
    (case d_roll => k_is)
    (case k_roll => k_is)
    (case n_one => k_is)
    (case l_one => k_is)
    (case d_one => k_is)
    (case k_one => k_is)
    (case n_gcd => k_is)
    (case l_gcd => k_is)
    (case d_gcd => k_is)
    (case k_gcd => k_is)
    (case n_rat => k_is)
    (case l_rat => k_is)
    (case d_rat => k_is)
    (case k_rat => k_is)
    (case n_plus => k_is)
    (case l_plus => k_is)
    (case d_plus => k_is)
    (case k_plus => k_is)
    (case n_lby => k_is)
    (case l_lby => k_is)
    (case d_lby => k_is)
    (case k_lby => k_is)
    (case n_shw => k_is)
    (case l_shw => k_is)
    (case d_shw => k_is)
    (case k_shw => k_is)
    (case n_shr => k_is)
    (case l_shr => k_is)
    (case d_shr => k_is)
    (case k_shr => k_is)
    (case n_num => k_is)
    (case l_num => k_is)
    (case d_num => k_is)
    (case k_num => k_is)
    (case n_lns => k_is)
    (case l_lns => k_is)
    (case d_lns => k_is)
    (case k_lns => k_is)
    (case n_shl => k_is)
    (case l_shl => k_is)
    (case d_shl => k_is)
    (case k_shl => k_is)
    (case n_word => k_is)
    (case l_word => k_is)
    (case d_word => k_is)
    (case k_word => k_is)
    (case n_on => k_is)
    (case l_on => k_is)
    (case d_on => k_is)
    (case k_on => k_is)
    (case n_od => k_is)
    (case l_od => k_is)
    (case d_od => k_is)
    (case k_od => k_is)
    (case n_law => k_is)
    (case l_law => k_is)
    (case d_law => k_is)
    (case k_law => k_is)
    (case n_eq => k_is)
    (case l_eq => k_is)
    (case d_eq => k_is)
    (case k_eq => k_is)
    (case i_eq => k_is)
    (case n_add => k_is)
    (case l_add => k_is)
    (case d_add => k_is)
    (case k_add => k_is)
    (case i_add => k_is)
    (case n_mul => k_is)
    (case l_mul => k_is)
    (case d_mul => k_is)
    (case k_mul => k_is)
    (case i_mul => k_is)
    (case n_sub => k_is)
    (case l_sub => k_is)
    (case d_sub => k_is)
    (case k_sub => k_is)
    (case i_sub => k_is)
    (case n_les => k_is)
    (case l_les => k_is)
    (case d_les => k_is)
    (case k_les => k_is)
    (case i_les => k_is)
    (case n_ci => k_is)
    (case l_ci => k_is)
    (case d_ci => k_is)
    (case k_ci => k_is)
    (case i_ci => k_is)
    (case n_kc => k_is)
    (case l_kc => k_is)
    (case d_kc => k_is)
    (case k_kc => k_is)
    (case i_kc => k_is)
    (case n_kl => k_is)
    (case l_kl => k_is)
    (case d_kl => k_is)
    (case k_kl => k_is)
    (case i_kl => k_is)
    (case n_kf => k_is)
    (case l_kf => k_is)
    (case d_kf => k_is)
    (case k_kf => k_is)
    (case i_kf => k_is)
    (case n_km => k_is)
    (case l_km => k_is)
    (case d_km => k_is)
    (case k_km => k_is)
    (case i_km => k_is)
    (case n_ei => k_is)
    (case l_ei => k_is)
    (case d_ei => k_is)
    (case k_ei => k_is)
    (case i_ei => k_is)
    (case n_er => k_is)
    (case l_er => k_is)
    (case d_er => k_is)
    (case k_er => k_is)
    (case i_er => k_is)
    (case n_ep => k_is)
    (case l_ep => k_is)
    (case d_ep => k_is)
    (case k_ep => k_is)
    (case i_ep => k_is)
    (case n_et => k_is)
    (case l_et => k_is)
    (case d_et => k_is)
    (case k_et => k_is)
    (case i_et => k_is)
    (case n_kw => k_is)
    (case l_kw => k_is)
    (case d_kw => k_is)
    (case k_kw => k_is)
    (case cq_kw => k_is)
    (case pq_kw => rfl)
    (case hT => exact PySem.W.km_tabs_of Y _ (by decide))
    (case nT_kw => kernel_rfl)
    (case hd_kw => kernel_rfl)
    (case i_kw => k_is)
    (case n_ws => k_is)
    (case l_ws => k_is)
    (case d_ws => k_is)
    (case k_ws => k_is)
    (case cq_ws => k_is)
    (case pq_ws => rfl)
    (case hTa => exact PySem.W.km_tabs_of Y _ (by decide))
    (case nT_ws => kernel_rfl)
    (case hd_ws => kernel_rfl)
    (case n_ri => k_is)
    (case l_ri => k_is)
    (case d_ri => k_is)
    (case k_ri => k_is)
    (case cq_ri => k_is)
    (case pq_ri => rfl)
    (case hTb => exact PySem.W.km_tabs_of Y _ (by decide))
    (case nT_ri => kernel_rfl)
    (case hd_ri => kernel_rfl)
    (case n_sq8 => k_is)
    (case l_sq8 => k_is)
    (case d_sq8 => k_is)
    (case k_sq8 => k_is)
    (case cq_sq8 => k_is)
    (case pq_sq8 => rfl)
    (case hTd => exact PySem.W.km_tabs_of Y _ (by decide))
    (case nT_sq8 => kernel_rfl)
    (case hd_sq8 => kernel_rfl)
    (case hne => kernel_rfl)
    (case n_top => k_is)
    (case g_top => k_is)
    (case t_top => k_is)
    (case r_topx => k_is)
    (case l_top => k_is)
    (case d_top => k_is)
    (case k_top => k_is)
    (case n_bot => k_is)
    (case g_bot => k_is)
    (case t_bot => k_is)
    (case r_botx => k_is)
    (case l_bot => k_is)
    (case d_bot => k_is)
    (case k_bot => k_is)
    (case n_ini => k_is)
    (case l_ini => k_is)
    (case d_ini => k_is)
    (case k_ini => k_is)
    (case i_ini => k_is)
    (case T_inix => k_is)
    (case v_ini => rfl)
    (case z_int => k_is)
    (case z_len => k_is)
    (case z_abs => k_is)
    (case z_max => k_is)
    (case z_min => k_is)
    (case z_isinstance => k_is)
    (case z_range => k_is)
    (case z_bool => k_is)
    (case z_tuple => k_is)
    (case z_all => k_is)
    (case z_any => k_is)
    (case z_sum => k_is)
    (case z_zip => k_is)
    (case z_enumerate => k_is)
    (case z_list => k_is)
    (case z_str => k_is)
    (case rcls => kernel_rfl)
    (case rrow => kernel_rfl)
    (case rop_add => kernel_rfl)
    (case rop_mul => kernel_rfl)
    (case rop_sub => kernel_rfl)
    (case ecls => kernel_rfl)
    (case erow => kernel_rfl)
    (case o_NoneType => kernel_rfl)
    (case o_bool => kernel_rfl)
    (case o_int => kernel_rfl)
    (case o_str => kernel_rfl)
    (case o_list => kernel_rfl)
    (case o_tuple => kernel_rfl)
    (case o_dict => kernel_rfl)
    (case ecls2 => kernel_rfl)
    (case erow2 => kernel_rfl)
    (case xR => kernel_rfl)
    (case xO => kernel_rfl)
    (case xm => kernel_rfl)
    (case ntup => kernel_rfl)
