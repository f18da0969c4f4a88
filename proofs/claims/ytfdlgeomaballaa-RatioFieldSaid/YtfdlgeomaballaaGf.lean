/- BigintGcd: its facts. -/
import Derived.Test.YtfdlgeomaballaaDz
namespace Go.Proofs.Ytfdlgeomaballaa
open Go.RowKit
set_option linter.unusedVariables false
theorem gcd_Z (a b : Int) (g : Nat) (hg : Nat.gcd a.natAbs b.natAbs = g) (ha : a.natAbs < pw 32) (hb : b.natAbs < pw 32) : Gives Try.prog 21 #[.agg (ivZ a), .agg (ivZ b)] (.agg (ivZ ((g : Nat) : Int))) := by
  rw [← hg]
  exact gcd_of (pw 32) (decide (a < 0)) (decide (b < 0)) a.natAbs b.natAbs ha hb hb fun x y hx hy h0 _ => divide_any x y hx hy h0
theorem gcd_mod (a b : Int) : Nat.gcd b.natAbs (a % b).natAbs = Nat.gcd a.natAbs b.natAbs := by
  have h1 : ∀ d : Nat, d ∣ b.natAbs → (d ∣ (a % b).natAbs ↔ d ∣ a.natAbs) := fun d hd => by
    have hdb : (d : Int) ∣ b := Int.ofNat_dvd_left.2 hd
    have e := Int.mul_ediv_add_emod a b
    have hk : (d : Int) ∣ b * (a / b) := Int.dvd_trans hdb (Int.dvd_mul_right _ _)
    constructor
    · intro h
      have h2 : (d : Int) ∣ a % b := Int.ofNat_dvd_left.2 h
      rw [← Int.ofNat_dvd_left, ← e]
      exact Int.dvd_add hk h2
    · intro h
      have h2 : (d : Int) ∣ a := Int.ofNat_dvd_left.2 h
      rw [← Int.ofNat_dvd_left]
      have : a % b = a - b * (a / b) := by omega
      rw [this]
      exact Int.dvd_sub h2 hk
  apply Nat.dvd_antisymm
  · have hb := Nat.gcd_dvd_left b.natAbs (a % b).natAbs
    exact Nat.dvd_gcd ((h1 _ hb).1 (Nat.gcd_dvd_right _ _)) hb
  · have hb := Nat.gcd_dvd_right a.natAbs b.natAbs
    exact Nat.dvd_gcd hb ((h1 _ hb).2 (Nat.gcd_dvd_left _ _))
theorem gcd_facts (P : Nat) (hP : P * P * 8 ≤ pw 32) (a b c : Int) (ha : a.natAbs < P) (hb : b.natAbs < P) (hc : c.natAbs < P) : ∃ g z : Int,
    Gives Try.prog 21 #[.agg (ivZ a), .agg (ivZ b)] (.agg (ivZ g)) ∧ Gives Try.prog 21 #[.agg (ivZ b), .agg (ivZ a)] (.agg (ivZ g)) ∧ Gives Try.prog 28 #[.agg (ivZ a)] (.agg (ivZ (-a))) ∧
    Gives Try.prog 21 #[.agg (ivZ (-a)), .agg (ivZ b)] (.agg (ivZ g)) ∧ 0 ≤ g ∧ g.natAbs < pw 32 ∧ (g = 0 → a = 0 ∧ b = 0) ∧
    (g ≠ 0 → ∃ q1 q2, Gives Try.prog 19 #[.agg (ivZ a), .agg (ivZ g)] (.tuple #[.agg (ivZ q1), .agg (ivZ 0), .int .i64 0]) ∧ Gives Try.prog 19 #[.agg (ivZ b), .agg (ivZ g)] (.tuple #[.agg (ivZ q2), .agg (ivZ 0), .int .i64 0])) ∧
    (b ≠ 0 → ∃ q m, Gives Try.prog 19 #[.agg (ivZ a), .agg (ivZ b)] (.tuple #[.agg (ivZ q), .agg (ivZ m), .int .i64 0]) ∧ Gives Try.prog 21 #[.agg (ivZ b), .agg (ivZ m)] (.agg (ivZ g))) ∧
    (∃ x y v, Gives Try.prog 17 #[.agg (ivZ a), .agg (ivZ c)] (.tuple #[.agg (ivZ x), .int .i64 0]) ∧ Gives Try.prog 17 #[.agg (ivZ b), .agg (ivZ c)] (.tuple #[.agg (ivZ y), .int .i64 0]) ∧
      Gives Try.prog 17 #[.agg (ivZ g), .agg (ivZ c)] (.tuple #[.agg (ivZ v), .int .i64 0]) ∧ Gives Try.prog 21 #[.agg (ivZ x), .agg (ivZ y)] (.agg (ivZ z)) ∧ Gives Try.prog 28 #[.agg (ivZ v)] (.agg (ivZ (-v))) ∧ z.natAbs < pw 32 ∧ (0 ≤ c → v = z) ∧ (c < 0 → -v = z)) := by
  obtain ⟨n, hn⟩ : ∃ n, Nat.gcd a.natAbs b.natAbs = n := ⟨_, rfl⟩
  have hP1 : P * 1 ≤ P * P := Nat.mul_le_mul_left _ (by omega)
  have Ba : a.natAbs < pw 32 := by omega
  have Bb : b.natAbs < pw 32 := by omega
  have Bc : c.natAbs < pw 32 := by omega
  have hda : n ∣ a.natAbs := by rw [← hn]; exact Nat.gcd_dvd_left _ _
  have hdb : n ∣ b.natAbs := by rw [← hn]; exact Nat.gcd_dvd_right _ _
  have hnP : n < P := by
    by_cases h0 : a.natAbs = 0
    · have : n = b.natAbs := by rw [← hn, h0, Nat.gcd_zero_left]
      omega
    · have := Nat.le_of_dvd (by omega) hda; omega
  have Bn : n < pw 32 := by omega
  have m2 : ∀ x y : Int, x.natAbs < P → y.natAbs < P → (x * y).natAbs < pw 32 := fun x y hx hy => by
    have : x.natAbs * y.natAbs ≤ P * P := Nat.mul_le_mul (by omega) (by omega)
    rw [Int.natAbs_mul]; omega
  have hz : Nat.gcd (a * c).natAbs (b * c).natAbs = n * c.natAbs := by rw [Int.natAbs_mul, Int.natAbs_mul, Nat.gcd_mul_right, hn]
  have hv : (((n : Nat) : Int) * c).natAbs < pw 32 := m2 _ _ (by omega) hc
  refine ⟨n, ((n * c.natAbs : Nat) : Int), gcd_Z a b n hn Ba Bb, gcd_Z b a n (by rw [Nat.gcd_comm]; exact hn) Bb Ba, neg_Z a Ba, gcd_Z (-a) b n (by rw [Int.natAbs_neg]; exact hn) (by omega) Bb, by omega, by omega, fun h => ?_, fun h => ?_, fun h => ?_, ?_⟩
  · have h0 : n = 0 := by omega
    rw [h0] at hda hdb
    have := Nat.eq_zero_of_zero_dvd hda
    have := Nat.eq_zero_of_zero_dvd hdb
    omega
  · exact ⟨a / n, b / n, divMod_Z a n _ 0 rfl (Int.emod_eq_zero_of_dvd (Int.ofNat_dvd_left.2 hda)) Ba (by omega) h, divMod_Z b n _ 0 rfl (Int.emod_eq_zero_of_dvd (Int.ofNat_dvd_left.2 hdb)) Bb (by omega) h⟩
  · have hm : (a % b).natAbs < pw 32 := by
      have h1 := Int.emod_nonneg a h
      have h2 := Int.emod_lt a h
      omega
    exact ⟨a / b, a % b, divMod_Z a b _ _ rfl rfl Ba Bb h, gcd_Z b (a % b) n (by rw [gcd_mod]; exact hn) Bb hm⟩
  · refine ⟨a * c, b * c, n * c, mul_Z a c _ rfl Ba Bc (m2 a c ha hc), mul_Z b c _ rfl Bb Bc (m2 b c hb hc), mul_Z n c _ rfl (by omega) Bc hv, gcd_Z _ _ _ hz (m2 a c ha hc) (m2 b c hb hc), neg_Z _ hv, ?_, fun h => ?_, fun h => ?_⟩
    · have : (((n : Nat) : Int) * c).natAbs = n * c.natAbs := by rw [Int.natAbs_mul]; rfl
      omega
    · have : ((c.natAbs : Nat) : Int) = c := Int.natAbs_of_nonneg h
      rw [Int.natCast_mul, this]
    · have : ((c.natAbs : Nat) : Int) = -c := by omega
      rw [Int.natCast_mul, this, Int.mul_neg]
end Go.Proofs.Ytfdlgeomaballaa
