/- Long division, a limb of the quotient at a time: the plain arithmetic. -/
import Derived.Test.YtfdlgeomaballaaGreatPlus
namespace Go.Proofs.YtfdlgeomaballaaGreat

/-- A number whose limbs i.. i+k-1 are r's, below them x, above them H. -/
def win (i x r k H : Nat) : Nat := x + (r + H * pw k) * pw i
theorem win_start (i x W : Nat) : win i x 0 0 W = x + W * pw i := by unfold win; rw [pw_zero, Nat.mul_one, Nat.zero_add]
theorem win_end (i x r k : Nat) : win i x r k 0 = x + r * pw i := by unfold win; rw [Nat.zero_mul, Nat.add_zero]
theorem win_div {i x r k : Nat} (H : Nat) (hx : x < pw i) (hr : r < pw k) : win i x r k H / pw (i + k) = H ∧ win i x r k H % pw (i + k) = x + r * pw i := by
  have h1 : x + r * pw i < pw (i + k) := by
    rw [pw_add, Nat.mul_comm (pw i) (pw k)]
    have : (r + 1) * pw i ≤ pw k * pw i := Nat.mul_le_mul_right _ hr
    rw [Nat.add_mul] at this; omega
  have e : win i x r k H = (x + r * pw i) + pw (i + k) * H := by
    unfold win
    rw [pw_add, Nat.add_mul]
    have : H * pw k * pw i = pw i * pw k * H := by rw [Nat.mul_comm (pw i), Nat.mul_comm _ H, Nat.mul_assoc]
    omega
  rw [e]
  exact ⟨by rw [Nat.add_mul_div_left _ _ (pw_pos _), Nat.div_eq_of_lt h1, Nat.zero_add], by rw [Nat.add_mul_mod_self_left, Nat.mod_eq_of_lt h1]⟩
theorem win_limb {i x r k : Nat} (H : Nat) (hx : x < pw i) (hr : r < pw k) : limb (win i x r k H) (i + k) = H % 4294967296 := by
  unfold limb; rw [(win_div H hx hr).1]
theorem win_put {i x r k : Nat} (H v : Nat) (hx : x < pw i) (hr : r < pw k) : put (win i x r k H) (i + k) v = win i x (r + v * pw k) (k + 1) (H / 4294967296) := by
  rw [put_eq, (win_div H hx hr).2, show i + k + 1 = (i + k) + 1 from rfl, pw_succ, ← Nat.div_div_eq_div_mul, (win_div H hx hr).1]
  unfold win
  rw [pw_succ, pw_add, Nat.add_mul, Nat.add_mul, Nat.add_mul]
  have e1 : H / 4294967296 * 4294967296 * (pw i * pw k) = H / 4294967296 * (pw k * 4294967296) * pw i := by ac_rfl
  have e2 : v * (pw i * pw k) = v * pw k * pw i := by rw [Nat.mul_comm (pw i), Nat.mul_assoc]
  omega
theorem win_lt {i x r k n : Nat} (H : Nat) (hx : x < pw i) (hr : r < pw k) (hH : H < pw n) : win i x r k H < pw (i + k + n) := by
  have h1 : r + H * pw k < pw (k + n) := by
    rw [pw_add]
    have : (H + 1) * pw k ≤ pw n * pw k := Nat.mul_le_mul_right _ hH
    rw [Nat.add_mul, Nat.mul_comm (pw n)] at this; omega
  unfold win
  rw [Nat.add_assoc, pw_add i]
  have : (r + H * pw k + 1) * pw i ≤ pw (k + n) * pw i := Nat.mul_le_mul_right _ h1
  rw [Nat.add_mul, Nat.mul_comm (pw (k + n))] at this; omega
/-- The limbs above. -/
theorem top_next (W k : Nat) : W / pw k / 4294967296 = W / pw (k + 1) := by rw [Nat.div_div_eq_div_mul, pw_succ]

/-! ### The product taken off -/
theorem off_next {W D g k r c br : Nat} (h : W % pw k + br * pw k + c * pw k = r + g * (D % pw k)) :
    W % pw (k + 1) + brw (limb W k) ((c + limb D k * g) % 4294967296) br * pw (k + 1) + (c + limb D k * g) / 4294967296 * pw (k + 1) = (r + subD (limb W k) ((c + limb D k * g) % 4294967296) br * pw k) + g * (D % pw (k + 1)) ∨ 1 < br := by
  by_cases hb : br ≤ 1
  · left
    have hw := limb_lt W k
    obtain ⟨w, hwe⟩ : ∃ w, limb W k = w := ⟨_, rfl⟩
    obtain ⟨t, ht⟩ : ∃ t, c + limb D k * g = t := ⟨_, rfl⟩
    have key : w + brw w (t % 4294967296) br * 4294967296 = subD w (t % 4294967296) br + t % 4294967296 + br := by
      have := Nat.mod_lt t (show 0 < 4294967296 by omega)
      rw [hwe] at hw
      unfold brw subD
      split <;> omega
    have ht2 := Nat.div_add_mod t 4294967296
    rw [mod_pw W, mod_pw D, hwe, ht, pw_succ]
    have e0 : g * (D % pw k + limb D k * pw k) = g * (D % pw k) + limb D k * g * pw k := by rw [Nat.mul_add]; congr 1; ac_rfl
    rw [e0]
    have k1 : (w + brw w (t % 4294967296) br * 4294967296) * pw k = (subD w (t % 4294967296) br + t % 4294967296 + br) * pw k := by rw [key]
    have k2 : (4294967296 * (t / 4294967296) + t % 4294967296) * pw k = (c + limb D k * g) * pw k := by rw [ht2, ht]
    simp only [Nat.add_mul] at k1 k2
    have m1 : brw w (t % 4294967296) br * 4294967296 * pw k = brw w (t % 4294967296) br * (pw k * 4294967296) := by rw [Nat.mul_assoc, Nat.mul_comm (pw k)]
    have m2 : 4294967296 * (t / 4294967296) * pw k = t / 4294967296 * (pw k * 4294967296) := by rw [Nat.mul_comm 4294967296, Nat.mul_assoc, Nat.mul_comm (pw k)]
    omega
  · exact .inr (by omega)
theorem off_carry {c d g : Nat} (hc : c < 4294967296) (hd : d < 4294967296) (hg : g < 4294967296) : c + d * g < 18446744073709551616 ∧ (c + d * g) / 4294967296 < 4294967296 := by
  have : d * g ≤ 4294967295 * 4294967295 := Nat.mul_le_mul (by omega) (by omega)
  omega
theorem lim_add {r v k : Nat} (hr : r < pw k) (hv : v < 4294967296) : r + v * pw k < pw (k + 1) := low_lt hr hv

/-! ### The divisor put back -/
theorem back_next {W D k r c : Nat} (h : W % pw k + D % pw k = r + c * pw k) :
    W % pw (k + 1) + D % pw (k + 1) = (r + (limb W k + limb D k + c) % 4294967296 * pw k) + (limb W k + limb D k + c) / 4294967296 * pw (k + 1) := by
  obtain ⟨t, ht⟩ : ∃ t, limb W k + limb D k + c = t := ⟨_, rfl⟩
  have ht2 := Nat.div_add_mod t 4294967296
  rw [mod_pw W, mod_pw D, ht, pw_succ]
  have k2 : (4294967296 * (t / 4294967296) + t % 4294967296) * pw k = (limb W k + limb D k + c) * pw k := by rw [ht2, ht]
  simp only [Nat.add_mul] at k2
  have m2 : 4294967296 * (t / 4294967296) * pw k = t / 4294967296 * (pw k * 4294967296) := by rw [Nat.mul_comm 4294967296, Nat.mul_assoc, Nat.mul_comm (pw k)]
  omega

/-! ### The estimate -/
section
variable {W D n f s h w2 q g t : Nat}
/-- The leading limbs of the window and the divisor. -/
theorem est_low (hq : q * (f * 4294967296 + s) ≤ h * 4294967296 + w2) (hw : w2 < 4294967296) (hf : 0 < f) : q ≤ h / f := by
  rw [Nat.le_div_iff_mul_le hf]
  have e : q * (f * 4294967296 + s) = q * f * 4294967296 + q * s := by rw [Nat.mul_add, Nat.mul_assoc q f]
  generalize q * f = u at *
  generalize q * s = v at *
  rw [e] at hq
  omega
theorem est_down (hq : q * (f * 4294967296 + s) ≤ h * 4294967296 + w2) (hi : g * f + t = h) (hc : t * 4294967296 + w2 < g * s) : q < g := by
  refine Classical.byContradiction fun hn => ?_
  have h1 : g * (f * 4294967296 + s) ≤ q * (f * 4294967296 + s) := Nat.mul_le_mul_right _ (by omega)
  have h2 : g * (f * 4294967296 + s) = g * f * 4294967296 + g * s := by rw [Nat.mul_add, Nat.mul_assoc g f]
  have h3 : h * 4294967296 = g * f * 4294967296 + t * 4294967296 := by rw [← hi, Nat.add_mul]
  omega
theorem est_high (hi : g * f + t = h) (hg : g < 4294967296) (hs : s < 4294967296) (hc : 4294967296 ≤ t ∨ g * s ≤ t * 4294967296 + w2) : g * (f * 4294967296 + s) ≤ h * 4294967296 + w2 := by
  have h2 : g * (f * 4294967296 + s) = g * f * 4294967296 + g * s := by rw [Nat.mul_add, Nat.mul_assoc g f]
  have h3 : h * 4294967296 = g * f * 4294967296 + t * 4294967296 := by rw [← hi, Nat.add_mul]
  rcases hc with hc | hc
  · have : g * s ≤ 4294967295 * 4294967295 := Nat.mul_le_mul (by omega) (by omega)
    omega
  · omega
theorem est_top (hi : g * f + t = h) (hh : h < f * 4294967296 + 4294967296) (ht : 4294967296 ≤ t) : g < 4294967296 := by
  refine Classical.byContradiction fun hn => ?_
  have : 4294967296 * f ≤ g * f := Nat.mul_le_mul_right _ (by omega)
  omega
end
end Go.Proofs.YtfdlgeomaballaaGreat
