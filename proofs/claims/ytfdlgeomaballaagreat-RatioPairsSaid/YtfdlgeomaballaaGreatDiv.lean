/- Division by one limb, and Euclid's quotient and remainder of numbers with a sign: the plain arithmetic. -/
import Derived.Test.YtfdlgeomaballaaGreatMul
import Derived.Test.YtfdlgeomaballaaGreatBuild
namespace Go.Proofs.YtfdlgeomaballaaGreat

def quoL (hi lo y : Nat) : Nat := (hi * 4294967296 + lo) / y
def remL (hi lo y : Nat) : Nat := (hi * 4294967296 + lo) % y
theorem quoL_lt {hi lo y : Nat} (h : hi < y) (hl : lo < 4294967296) : quoL hi lo y < 4294967296 := by
  unfold quoL
  rw [Nat.div_lt_iff_lt_mul (by omega)]
  have : (hi + 1) * 4294967296 ≤ y * 4294967296 := Nat.mul_le_mul_right _ h
  rw [Nat.mul_comm 4294967296]; omega
theorem remL_lt {hi lo y : Nat} (h : 0 < y) : remL hi lo y < y := Nat.mod_lt _ h

/-- What has been divided, from limb k up. -/
def dq (a d k : Nat) : Nat := a / pw k / d * pw k
def dr (a d k : Nat) : Nat := a / pw k % d
theorem dr_next (a d j : Nat) : dr a d j = remL (dr a d (j + 1)) (limb a j) d := by
  unfold dr remL
  rw [div_pw a j, Nat.add_mod, Nat.mul_mod, ← Nat.mod_mod_of_dvd 4294967296 (Nat.dvd_refl d), ← Nat.mul_mod, ← Nat.add_mod]
  simp [Nat.add_mod, Nat.mul_mod]
theorem dq_digit (a d j : Nat) (hd : 0 < d) : a / pw j / d = a / pw (j + 1) / d * 4294967296 + quoL (dr a d (j + 1)) (limb a j) d := by
  unfold dr quoL
  rw [div_pw a j]
  have h := Nat.div_add_mod (a / pw (j + 1)) d
  generalize a / pw (j + 1) = A at *
  have e : A * 4294967296 + limb a j = d * (A / d * 4294967296) + (A % d * 4294967296 + limb a j) := by
    have := congrArg (· * 4294967296) h
    simp only [Nat.add_mul] at this
    rw [Nat.mul_assoc] at this
    omega
  rw [e, Nat.mul_add_div hd]
theorem dq_next (a d j : Nat) (hd : 0 < d) : put (dq a d (j + 1)) j (quoL (dr a d (j + 1)) (limb a j) d) = dq a d j := by
  have h0 : limb (dq a d (j + 1)) j = 0 := by
    unfold limb dq
    rw [pw_succ, Nat.mul_comm (pw j), ← Nat.mul_assoc, Nat.mul_div_cancel _ (pw_pos j), Nat.mul_mod_left]
  unfold put
  rw [h0, Nat.zero_mul, Nat.sub_zero]
  unfold dq
  rw [dq_digit a d j hd, Nat.add_mul, pw_succ, Nat.mul_comm (pw j), ← Nat.mul_assoc]
theorem dq_end (a d : Nat) : dq a d 0 = a / d := by unfold dq; rw [div_pw_zero, pw_zero, Nat.mul_one]
theorem dr_end (a d : Nat) : dr a d 0 = a % d := by unfold dr; rw [div_pw_zero]
theorem dq_start {a d k : Nat} (h : a < pw k) : dq a d k = 0 := by unfold dq; rw [Nat.div_eq_of_lt h]; simp
theorem dr_start {a d k : Nat} (h : a < pw k) : dr a d k = 0 := by unfold dr; rw [Nat.div_eq_of_lt h]; simp
theorem dr_lt {a d k : Nat} (h : 0 < d) : dr a d k < d := Nat.mod_lt _ h

/-! ### Euclid's division of numbers with a sign -/
theorem ediv_of {a b q r : Int} (hb : b ≠ 0) (h : a = b * q + r) (h0 : 0 ≤ r) (h1 : r < b.natAbs) : a / b = q ∧ a % b = r := by
  rcases Int.lt_trichotomy b 0 with hb' | hb' | hb'
  · have hp : 0 < -b := by omega
    have := (Int.ediv_emod_unique (a := a) (b := -b) (r := r) (q := -q) hp).2 ⟨by rw [Int.neg_mul_neg]; omega, h0, by omega⟩
    rw [Int.ediv_neg, Int.emod_neg] at this
    exact ⟨by omega, this.2⟩
  · exact absurd hb' hb
  · exact (Int.ediv_emod_unique hb').2 ⟨by omega, h0, by omega⟩
theorem vz_ne {t : Bool} {m : Nat} (h : 0 < m) : vz t m ≠ 0 := by cases t <;> simp [vz] <;> omega
theorem vz_mul' (s t : Bool) (n m : Nat) : vz s n * vz t m = vz (s != t) (n * m) := by
  cases s <;> cases t <;> simp [vz, Int.natCast_mul, Int.neg_mul, Int.mul_neg]
/-- Where nothing is to be added. -/
theorem divZ_plain {s t : Bool} {n m : Nat} (hm : 0 < m) (h : s = false ∨ n % m = 0) : vz s n / vz t m = vz (s != t) (n / m) ∧ vz s n % vz t m = ((n % m : Nat) : Int) := by
  refine ediv_of (vz_ne hm) ?_ (by omega) (by rw [vz_abs]; have := Nat.mod_lt n hm; omega)
  rw [vz_mul']
  have e : (t != (s != t)) = s := by cases s <;> cases t <;> rfl
  rw [e]
  have hd := Nat.div_add_mod n m
  cases s
  · simp only [vz, Bool.false_eq_true, if_false]; omega
  · have h0 : n % m = 0 := h.resolve_left (by simp)
    simp only [vz, if_true]; omega
/-- Where the quotient goes one further. -/
theorem divZ_more {t : Bool} {n m : Nat} (hm : 0 < m) (h : n % m ≠ 0) : vz true n / vz t m = vz (true != t) (n / m + 1) ∧ vz true n % vz t m = ((m - n % m : Nat) : Int) := by
  have hlt := Nat.mod_lt n hm
  refine ediv_of (vz_ne hm) ?_ (by omega) (by rw [vz_abs]; omega)
  rw [vz_mul']
  have e : (t != (true != t)) = true := by cases t <;> rfl
  rw [e]
  have hd := Nat.div_add_mod n m
  simp only [vz, if_true]
  rw [Nat.mul_add]; omega
theorem div_room {n m K : Nat} (hn : n < K) (hm : 0 < m) (h : n % m ≠ 0) : n / m + 1 < K := by
  have h2 : 2 ≤ m := by
    rcases Nat.lt_or_ge m 2 with h1 | h1
    · have : m = 1 := by omega
      subst this; simp [Nat.mod_one] at h
    · exact h1
  have : n / m ≤ n / 2 := Nat.div_le_div_left h2 (by omega)
  have hn0 : n ≠ 0 := fun e => h (by rw [e]; simp)
  omega
end Go.Proofs.YtfdlgeomaballaaGreat
