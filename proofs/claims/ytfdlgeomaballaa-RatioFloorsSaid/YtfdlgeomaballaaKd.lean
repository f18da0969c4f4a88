/- Long division: one limb of the quotient. -/
import Derived.Test.YtfdlgeomaballaaKp
import Derived.Test.YtfdlgeomaballaaNd
import Derived.Test.YtfdlgeomaballaaTb
namespace Go.Proofs.Ytfdlgeomaballaa
open Go.RowKit
set_option linter.unusedVariables false

theorem limb_shift (L j t : Nat) : limb L (j + t) = limb (L / pw j) t := by
  unfold limb; rw [pw_add, ← Nat.div_div_eq_div_mul]
theorem est_facts {n n1 n2 j D L W q : Nat} (hn1 : n1 + 1 = n) (hn2 : n2 + 1 = n1) (hD : D < pw n) (hf : 2147483648 ≤ D / pw n1) (hL : L < D * pw (j + 1)) (hW : L / pw j = W) (hq : W / D = q) :
    W < pw (n + 1) ∧ q ≤ 4294967295 ∧ limb D n1 = D / pw n1 ∧ q * (limb D n1 * 4294967296 + limb D n2) ≤ (limb L (j + n) * 4294967296 + limb L (j + n1)) * 4294967296 + limb L (j + n2) ∧
    limb L (j + n) * 4294967296 + limb L (j + n1) < limb D n1 * 4294967296 + 4294967296 ∧
    (∀ g, g ≤ 4294967295 → g * (limb D n1 * 4294967296 + limb D n2) ≤ (limb L (j + n) * 4294967296 + limb L (j + n1)) * 4294967296 + limb L (j + n2) → g ≤ q + 1) := by
  subst hn2 hn1
  have hD0 : 0 < D := by
    refine Nat.pos_of_ne_zero fun e => ?_
    rw [e, Nat.zero_div] at hf; omega
  have hWD : W < D * 4294967296 := by
    have e : D * pw (j + 1) = D * 4294967296 * pw j := by rw [pw_succ j, Nat.mul_comm (pw j), Nat.mul_assoc]
    rw [e] at hL
    have := (Nat.div_lt_iff_lt_mul (pw_pos j)).2 hL
    rwa [hW] at this
  have hW1 : W < pw (n2 + 1 + 1 + 1) := by
    rw [pw_succ (n2 + 1 + 1)]
    exact Nat.lt_of_lt_of_le hWD (Nat.mul_le_mul_right _ (Nat.le_of_lt hD))
  have hq1 : q ≤ 4294967295 := by
    have : W / D < 4294967296 := by rw [Nat.div_lt_iff_lt_mul hD0, Nat.mul_comm]; exact hWD
    omega
  have hfl : D / pw (n2 + 1) < 4294967296 := by rw [Nat.div_lt_iff_lt_mul (pw_pos _), Nat.mul_comm, ← pw_succ]; exact hD
  have hlf : limb D (n2 + 1) = D / pw (n2 + 1) := by unfold limb; exact Nat.mod_eq_of_lt hfl
  have hD2 : D / pw n2 = limb D (n2 + 1) * 4294967296 + limb D n2 := by rw [hlf]; exact div_pw D n2
  have hwl : W / pw (n2 + 1 + 1) < 4294967296 := by rw [Nat.div_lt_iff_lt_mul (pw_pos _), Nat.mul_comm, ← pw_succ]; exact hW1
  have hwn : limb L (j + (n2 + 1 + 1)) = W / pw (n2 + 1 + 1) := by rw [limb_shift, hW]; unfold limb; exact Nat.mod_eq_of_lt hwl
  have hh : limb L (j + (n2 + 1 + 1)) * 4294967296 + limb L (j + (n2 + 1)) = W / pw (n2 + 1) := by rw [hwn, limb_shift, hW]; exact (div_pw W (n2 + 1)).symm
  have hW3 : (limb L (j + (n2 + 1 + 1)) * 4294967296 + limb L (j + (n2 + 1))) * 4294967296 + limb L (j + n2) = W / pw n2 := by rw [hh, limb_shift, hW]; exact (div_pw W n2).symm
  refine ⟨hW1, hq1, hlf, ?_, ?_, ?_⟩
  · rw [← hD2, hW3, ← hq]; exact est_q (pw_pos n2)
  · rw [hh, Nat.div_lt_iff_lt_mul (pw_pos _), hlf]
    have h1 := Nat.div_add_mod D (pw (n2 + 1))
    have h2 := Nat.mod_lt D (pw_pos (n2 + 1))
    obtain ⟨f, hf'⟩ : ∃ f, D / pw (n2 + 1) = f := ⟨_, rfl⟩
    rw [hf'] at h1 ⊢
    have h3 : D ≤ f * pw (n2 + 1) + pw (n2 + 1) := by rw [Nat.mul_comm] at h1; omega
    have h4 : D * 4294967296 ≤ (f * pw (n2 + 1) + pw (n2 + 1)) * 4294967296 := Nat.mul_le_mul_right _ h3
    have h5 : (f * pw (n2 + 1) + pw (n2 + 1)) * 4294967296 = (f * 4294967296 + 4294967296) * pw (n2 + 1) := by
      rw [Nat.add_mul, Nat.add_mul, Nat.mul_assoc f (pw (n2 + 1)) 4294967296, Nat.mul_assoc f 4294967296 (pw (n2 + 1)), Nat.mul_comm 4294967296 (pw (n2 + 1))]
    exact Nat.lt_of_lt_of_le hWD (Nat.le_trans h4 (Nat.le_of_eq h5))
  · intro g hg h
    rw [← hD2, hW3] at h
    rw [← hq]
    refine est_fin (pw_pos n2) hD0 h ?_
    rw [hD2, hlf]; omega

/-- The digit and the rest, out of what was taken off. -/
theorem step_digit {n D W q g r : Nat} {b : Bool} (hD0 : 0 < D) (hD : D < pw n) (hW : W < pw (n + 1)) (hq : W / D = q) (h1 : q ≤ g) (h2 : g ≤ q + 1) (hr : r < pw (n + 1)) (h : W + (if b then 1 else 0) * pw (n + 1) = r + g * D) :
    (b = false ∧ g = q ∧ r = W % D) ∨ (b = true ∧ g = q + 1 ∧ (r + D) % pw (n + 1) = W % D) := by
  have hdm := Nat.div_add_mod W D
  have hml := Nat.mod_lt W hD0
  rw [hq, Nat.mul_comm] at hdm
  have hpn : pw n ≤ pw (n + 1) := pw_le (by omega)
  rcases Nat.lt_or_ge q g with hlt | hge
  · have hg : g = q + 1 := by omega
    subst hg
    rw [Nat.add_mul, Nat.one_mul] at h
    cases b
    · simp at h; omega
    · simp at h
      refine .inr ⟨rfl, rfl, ?_⟩
      have : r + D = W % D + pw (n + 1) := by omega
      rw [this, Nat.add_mod_right, Nat.mod_eq_of_lt (by omega)]
  · have hg : g = q := by omega
    subst hg
    cases b
    · simp at h
      exact .inl ⟨rfl, rfl, by omega⟩
    · simp at h; omega

/-- What is left of the dividend, and the quotient so far. -/
theorem step_next {A D Q L W q j x : Nat} (hA : A = Q * D + L) (hx : L % pw j = x) (hW : L / pw j = W) (hq : W / D = q) (hD0 : 0 < D) : A = (Q + q * pw j) * D + (x + W % D * pw j) ∧ x + W % D * pw j < D * pw j := by
  have h1 := Nat.div_add_mod L (pw j)
  have h2 := Nat.div_add_mod W D
  rw [hx, hW] at h1
  rw [hq] at h2
  refine ⟨?_, ?_⟩
  · have e : pw j * W = pw j * (D * q) + W % D * pw j := by
      have : pw j * W = pw j * (D * q + W % D) := by rw [h2]
      rw [this, Nat.mul_add, Nat.mul_comm (pw j) (W % D)]
    have e2 : (Q + q * pw j) * D = Q * D + pw j * (D * q) := by rw [Nat.add_mul]; congr 1; ac_rfl
    omega
  · have hx' : x < pw j := by rw [← hx]; exact Nat.mod_lt _ (pw_pos j)
    have h3 : (W % D + 1) * pw j ≤ D * pw j := Nat.mul_le_mul_right _ (Nat.mod_lt W hD0)
    rw [Nat.add_mul, Nat.one_mul] at h3
    omega
theorem put_zero {Q j q : Nat} (h : Q % pw (j + 1) = 0) : put Q j q = Q + q * pw j ∧ (Q + q * pw j) % pw j = 0 := by
  have hl : limb Q j = 0 := by
    rw [mod_pw] at h
    have hp := pw_pos j
    refine Classical.byContradiction fun hn => ?_
    have : 1 * pw j ≤ limb Q j * pw j := Nat.mul_le_mul_right _ (by omega)
    omega
  refine ⟨by unfold put; rw [hl]; omega, ?_⟩
  rw [Nat.add_mul_mod_self_right]
  rw [mod_pw] at h
  omega
end Go.Proofs.Ytfdlgeomaballaa
