/- Products limb by limb: the plain arithmetic. -/
import Derived.Test.YtfdlgeomaballaaGreatPlus
namespace Go.Proofs.YtfdlgeomaballaaGreat

/-- What has been added up after i rounds and j steps of the next. -/
def mulV (a b i j : Nat) : Nat := (a % pw i) * b + limb a i * pw i * (b % pw j)
/-- One step: what stands in the limb, and what is carried. -/
def mulT (a b i j W c : Nat) : Nat := c + (limb a i * limb b j + limb W (i + j))

theorem mulV_next (a b i j : Nat) : mulV a b i (j + 1) = mulV a b i j + limb a i * limb b j * pw (i + j) := by
  unfold mulV
  rw [mod_pw, Nat.mul_add, pw_add]
  have : limb a i * pw i * (limb b j * pw j) = limb a i * limb b j * (pw i * pw j) := by
    rw [Nat.mul_assoc, Nat.mul_assoc, Nat.mul_left_comm (pw i)]
  omega
theorem mulV_zero (a b i : Nat) : mulV a b i 0 = (a % pw i) * b := by unfold mulV; rw [mod_pw_zero]; simp
theorem mulV_round {a b i n : Nat} (hb : b < pw n) : mulV a b i n = (a % pw (i + 1)) * b := by
  unfold mulV
  rw [Nat.mod_eq_of_lt hb, mod_pw, Nat.add_mul]
theorem put_add (W j v : Nat) : put W j v + limb W j * pw j = W + v * pw j := by
  have h : limb W j * pw j ≤ W := by
    have := Nat.div_add_mod W (pw (j + 1))
    rw [mod_pw] at this; omega
  unfold put; omega
theorem mul_step {a b i j W c : Nat} (h : W + c * pw (i + j) = mulV a b i j) :
    put W (i + j) (mulT a b i j W c % 4294967296) + mulT a b i j W c / 4294967296 * pw (i + (j + 1)) = mulV a b i (j + 1) := by
  have h1 := put_add W (i + j) (mulT a b i j W c % 4294967296)
  have h2 : mulT a b i j W c % 4294967296 * pw (i + j) + mulT a b i j W c / 4294967296 * pw (i + (j + 1)) = mulT a b i j W c * pw (i + j) := by
    rw [show i + (j + 1) = i + j + 1 by omega, pw_succ, Nat.mul_comm (pw (i + j)) 4294967296, ← Nat.mul_assoc, ← Nat.add_mul]
    congr 1
    have := Nat.div_add_mod (mulT a b i j W c) 4294967296
    omega
  have h3 : mulT a b i j W c * pw (i + j) = c * pw (i + j) + limb a i * limb b j * pw (i + j) + limb W (i + j) * pw (i + j) := by
    unfold mulT; rw [Nat.add_mul, Nat.add_mul]; omega
  rw [mulV_next]
  omega
theorem mul_bound (x y : Nat) (hx : x < 4294967296) (hy : y < 4294967296) : x * y ≤ 18446744065119617025 := by
  have : x * y ≤ 4294967295 * 4294967295 := Nat.mul_le_mul (by omega) (by omega)
  omega
theorem mulT_lt {a b i j W c : Nat} (hc : c < 4294967296) : mulT a b i j W c ≤ 18446744073709551615 ∧ mulT a b i j W c / 4294967296 < 4294967296 := by
  have h1 := mul_bound _ _ (limb_lt a i) (limb_lt b j)
  have h2 := limb_lt W (i + j)
  unfold mulT
  omega
/-- The end of a round. -/
theorem mul_round {a b i n W c : Nat} (hb : b < pw n) (hW : W < pw (i + n)) (h : W + c * pw (i + n) = mulV a b i n) : put W (i + n) c = (a % pw (i + 1)) * b := by
  rw [put_low c hW, h, mulV_round hb]
theorem mul_small {a b i n : Nat} (hb : b < pw n) : (a % pw i) * b < pw (i + n) := by
  rw [pw_add]
  exact Nat.mul_lt_mul_of_lt_of_le (Nat.mod_lt _ (pw_pos i)) (Nat.le_of_lt hb) (Nat.lt_of_le_of_lt (Nat.zero_le _) hb)
theorem mul_end {a b m : Nat} (ha : a < pw m) : (a % pw m) * b = a * b := by rw [Nat.mod_eq_of_lt ha]

/-- The upper half of a row. -/
theorem limb_up (n i k : Nat) : limb n (k + i) = limb (n / pw k) i := by
  unfold limb; rw [pw_add, Nat.div_div_eq_div_mul]
theorem low_row {K k n i : Nat} (h : i < k) (hk : k ≤ K) : (mgk K n)[0 + i]? = (mgk k (n % pw k))[i]? := by
  rw [Nat.zero_add, mgk_get (by omega), mgk_get h, limb_mod h]
theorem up_row {K k n i : Nat} (h : i < k) (hK : k + k ≤ K) : (mgk K n)[k + i]? = (mgk k (n / pw k))[i]? := by
  rw [mgk_get (by omega), mgk_get h, limb_up]
end Go.Proofs.YtfdlgeomaballaaGreat
