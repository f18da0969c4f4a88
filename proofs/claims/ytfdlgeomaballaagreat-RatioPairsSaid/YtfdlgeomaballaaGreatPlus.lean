/- Sums and differences limb by limb: the plain arithmetic. -/
import Derived.Test.YtfdlgeomaballaaGreatMag
namespace Go.Proofs.YtfdlgeomaballaaGreat

/-- The first k limbs of a sum, and what is carried. -/
def psum (n m k : Nat) : Nat := (n % pw k + m % pw k) % pw k
def pcar (n m k : Nat) : Nat := (n % pw k + m % pw k) / pw k
theorem pcar_le (n m k : Nat) : pcar n m k ≤ 1 := by
  unfold pcar
  have h1 := Nat.mod_lt n (pw_pos k)
  have h2 := Nat.mod_lt m (pw_pos k)
  have : (n % pw k + m % pw k) / pw k < 2 := by rw [Nat.div_lt_iff_lt_mul (pw_pos k)]; omega
  omega
theorem psum_lt (n m k : Nat) : psum n m k < pw k := Nat.mod_lt _ (pw_pos k)
theorem p_split (n m k : Nat) : n % pw k + m % pw k = pcar n m k * pw k + psum n m k := by
  unfold pcar psum
  have := Nat.div_add_mod (n % pw k + m % pw k) (pw k)
  rw [Nat.mul_comm]; omega
theorem p_next (n m k : Nat) : n % pw (k + 1) + m % pw (k + 1) = (limb n k + limb m k + pcar n m k) * pw k + psum n m k := by
  have := p_split n m k
  rw [mod_pw, mod_pw, Nat.add_mul, Nat.add_mul]; omega
theorem split_next {t c k s : Nat} (h : t = c * pw k + s) (h1 : s < pw k) : t % pw (k + 1) = s + c % 4294967296 * pw k ∧ t / pw (k + 1) = c / 4294967296 := by
  subst h
  constructor
  · rw [pw_succ, Nat.mod_mul, Nat.add_comm (_ * pw k), Nat.add_mul_mod_self_right, Nat.mod_eq_of_lt h1, Nat.add_mul_div_right _ _ (pw_pos k), Nat.div_eq_of_lt h1, Nat.zero_add, Nat.mul_comm (pw k)]
  · rw [pw_succ, ← Nat.div_div_eq_div_mul, Nat.add_comm (_ * pw k), Nat.add_mul_div_right _ _ (pw_pos k), Nat.div_eq_of_lt h1, Nat.zero_add]
theorem psum_next (n m k : Nat) : psum n m (k + 1) = psum n m k + (limb n k + limb m k + pcar n m k) % 4294967296 * pw k :=
  (split_next (p_next n m k) (psum_lt n m k)).1
theorem pcar_next (n m k : Nat) : pcar n m (k + 1) = (limb n k + limb m k + pcar n m k) / 4294967296 :=
  (split_next (p_next n m k) (psum_lt n m k)).2
theorem psum_end {n m k : Nat} (hn : n < pw k) (hm : m < pw k) : psum n m k = (n + m) % pw k := by
  unfold psum; rw [Nat.mod_eq_of_lt hn, Nat.mod_eq_of_lt hm]
theorem pcar_end {n m k : Nat} (hn : n < pw k) (hm : m < pw k) : pcar n m k = 0 ↔ n + m < pw k := by
  unfold pcar; rw [Nat.mod_eq_of_lt hn, Nat.mod_eq_of_lt hm, Nat.div_eq_zero_iff_lt (pw_pos k)]
/-- One limb of a sum, and its carry; one limb of a difference. -/
def addS (x y c : Nat) : Nat := (x + y + c) % 4294967296
def addC (x y c : Nat) : Nat := (x + y + c) / 4294967296
def subD (x y c : Nat) : Nat := (x + 4294967296 - y - c) % 4294967296
theorem addS_lt (x y c : Nat) : addS x y c < 4294967296 := Nat.mod_lt _ (by omega)
theorem subD_lt (x y c : Nat) : subD x y c < 4294967296 := Nat.mod_lt _ (by omega)
theorem pcar_zero (n m : Nat) : pcar n m 0 = 0 := by simp [pcar, mod_pw_zero]
theorem psum_zero (n m : Nat) : psum n m 0 = 0 := by simp [psum, mod_pw_zero]

/-- What is borrowed by x - y - c. -/
def brw (x y c : Nat) : Nat := if x < y + c then 1 else 0
theorem brw_le (x y c : Nat) : brw x y c ≤ 1 := by unfold brw; split <;> omega
/-- The first k limbs of a difference, and what is borrowed. -/
def mdif (n m k : Nat) : Nat := (n % pw k + pw k - m % pw k) % pw k
def mbrw (n m k : Nat) : Nat := if n % pw k < m % pw k then 1 else 0
theorem mbrw_le (n m k : Nat) : mbrw n m k ≤ 1 := by unfold mbrw; split <;> omega
theorem mdif_lt (n m k : Nat) : mdif n m k < pw k := Nat.mod_lt _ (pw_pos k)
theorem m_split (n m k : Nat) : n % pw k + mbrw n m k * pw k = m % pw k + mdif n m k := by
  have h1 := Nat.mod_lt n (pw_pos k)
  have h2 := Nat.mod_lt m (pw_pos k)
  unfold mdif mbrw
  generalize n % pw k = x at *
  generalize m % pw k = y at *
  split
  · rename_i h; rw [Nat.mod_eq_of_lt (by omega)]; omega
  · rename_i h
    rw [show x + pw k - y = x - y + pw k by omega, Nat.add_mod_right, Nat.mod_eq_of_lt (by omega)]; omega
theorem mbrw_next (n m k : Nat) : mbrw n m (k + 1) = brw (limb n k) (limb m k) (mbrw n m k) := by
  have h := m_split n m k
  have hb := mbrw_le n m k
  have hd := mdif_lt n m k
  have hp := pw_pos k
  have h1 := Nat.mod_lt n (pw_pos k)
  have h2 := Nat.mod_lt m (pw_pos k)
  unfold brw
  rw [mbrw, mod_pw, mod_pw]
  by_cases hc : limb n k < limb m k + mbrw n m k
  · rw [if_pos hc, if_pos]
    by_cases hm : mbrw n m k = 0
    · have : (limb n k + 1) * pw k ≤ limb m k * pw k := Nat.mul_le_mul_right _ (by omega)
      rw [Nat.add_mul] at this; omega
    · have e : mbrw n m k = 1 := by omega
      rw [e] at h hc
      have : limb n k * pw k ≤ limb m k * pw k := Nat.mul_le_mul_right _ (by omega)
      omega
  · rw [if_neg hc, if_neg]
    by_cases hm : mbrw n m k = 0
    · rw [hm] at h
      have : limb m k * pw k ≤ limb n k * pw k := Nat.mul_le_mul_right _ (by omega)
      omega
    · have e : mbrw n m k = 1 := by omega
      rw [e] at h hc
      have : (limb m k + 1) * pw k ≤ limb n k * pw k := Nat.mul_le_mul_right _ (by omega)
      rw [Nat.add_mul] at this; omega
theorem mdif_next (n m k : Nat) : mdif n m (k + 1) = mdif n m k + (limb n k + 4294967296 - limb m k - mbrw n m k) % 4294967296 * pw k := by
  have h := m_split n m k
  have h' := m_split n m (k + 1)
  have hb := mbrw_le n m k
  have e := mbrw_next n m k
  have hl := limb_lt n k
  have hl' := limb_lt m k
  have key : limb n k + brw (limb n k) (limb m k) (mbrw n m k) * 4294967296 = limb m k + mbrw n m k + (limb n k + 4294967296 - limb m k - mbrw n m k) % 4294967296 := by
    unfold brw; split <;> omega
  rw [e, mod_pw, mod_pw, pw_succ] at h'
  have k2 := congrArg (· * pw k) key
  simp only [Nat.add_mul] at k2
  rw [Nat.mul_assoc, Nat.mul_comm 4294967296] at k2
  omega
theorem mdif_end {n m k : Nat} (hn : n < pw k) (hm : m ≤ n) : mdif n m k = n - m := by
  unfold mdif; rw [Nat.mod_eq_of_lt hn, Nat.mod_eq_of_lt (show m < pw k by omega), show n + pw k - m = n - m + pw k by omega, Nat.add_mod_right, Nat.mod_eq_of_lt (by omega)]
theorem mbrw_zero (n m : Nat) : mbrw n m 0 = 0 := by simp [mbrw, mod_pw_zero]
theorem mdif_zero (n m : Nat) : mdif n m 0 = 0 := by simp [mdif, pw_zero, Nat.mod_one]

end Go.Proofs.YtfdlgeomaballaaGreat
