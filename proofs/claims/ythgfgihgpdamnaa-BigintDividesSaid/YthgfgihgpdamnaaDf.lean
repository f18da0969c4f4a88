/- BigintDivides: its facts. -/
import Derived.Test.YthgfgihgpdamnaaDz
namespace Go.Proofs.Ythgfgihgpdamnaa
open Go.RowKit
set_option linter.unusedVariables false
theorem div_facts (P : Nat) (hP : 8 * P ≤ pw 32) (a b : Int) (ha : a.natAbs < P) (hb : b.natAbs < P) (h0 : b ≠ 0) : ∃ q r p g z : Int,
    Gives Try.prog 18 #[.agg (ivZ a), .agg (ivZ b)] (.tuple #[.agg (ivZ q), .agg (ivZ r), .int .i64 0]) ∧ Gives Try.prog 16 #[.agg (ivZ q), .agg (ivZ b)] (.tuple #[.agg (ivZ p), .int .i64 0]) ∧
    Gives Try.prog 12 #[.agg (ivZ p), .agg (ivZ r)] (.tuple #[.agg (ivZ a), .int .i64 0]) ∧ Gives Try.prog 31 #[.agg (ivZ r)] (.int .i64 g) ∧ ¬ g < 0 ∧
    Gives Try.prog 22 #[.agg (ivZ r), .agg (ivZ z)] (.int .i64 (-1)) ∧ ((0 < b ∧ z = b) ∨ (b < 0 ∧ z = -b)) := by
  obtain ⟨q, hq⟩ : ∃ q, a / b = q := ⟨_, rfl⟩
  obtain ⟨r, hr⟩ : ∃ r, a % b = r := ⟨_, rfl⟩
  have h1 : q * b + r = a := by rw [← hq, ← hr, Int.mul_comm]; exact Int.mul_ediv_add_emod a b
  have h2 : 0 ≤ r := by rw [← hr]; exact Int.emod_nonneg _ h0
  have h3 : r < b.natAbs := by rw [← hr]; exact Int.emod_lt a h0
  obtain ⟨p, hp⟩ : ∃ p, q * b = p := ⟨_, rfl⟩
  rw [hp] at h1
  have Ba : a.natAbs < pw 32 := by omega
  have Bb : b.natAbs < pw 32 := by omega
  have Br : r.natAbs < pw 32 := by omega
  have Bp : p.natAbs < pw 32 := by omega
  have Bq : q.natAbs < pw 32 := by
    have hk : q.natAbs * b.natAbs = p.natAbs := by rw [← hp, Int.natAbs_mul]
    have hk2 : q.natAbs * 1 ≤ q.natAbs * b.natAbs := Nat.mul_le_mul_left _ (by omega)
    omega
  have GS := sign_Z r Br
  have hsg : ¬ sgn r < 0 := by unfold sgn; split <;> (try split) <;> omega
  rcases Int.lt_or_gt_of_ne h0 with hb0 | hb0
  · have GC := cmp_Z r (-b) Br (by omega)
    rw [cmpZ_lt (by omega)] at GC
    exact ⟨q, r, p, sgn r, -b, divMod_Z a b q r hq hr Ba Bb h0, mul_Z q b p hp Bq Bb Bp, add_Z p r a h1 Bp Br Ba, GS, hsg, GC, .inr ⟨hb0, rfl⟩⟩
  · have GC := cmp_Z r b Br Bb
    rw [cmpZ_lt (by omega)] at GC
    exact ⟨q, r, p, sgn r, b, divMod_Z a b q r hq hr Ba Bb h0, mul_Z q b p hp Bq Bb Bp, add_Z p r a h1 Bp Br Ba, GS, hsg, GC, .inl ⟨hb0, rfl⟩⟩
theorem back_facts (b c x : Int) (hx : c * b = x) (hb : b.natAbs < pw 32) (hc : c.natAbs < pw 32) (h0 : b ≠ 0) (hf : x.natAbs < pw 32) : Gives Try.prog 16 #[.agg (ivZ c), .agg (ivZ b)] (.tuple #[.agg (ivZ x), .int .i64 0]) ∧
    Gives Try.prog 18 #[.agg (ivZ x), .agg (ivZ b)] (.tuple #[.agg (ivZ c), .agg (ivZ 0), .int .i64 0]) :=
  ⟨mul_Z c b x hx hc hb hf, divMod_Z x b c 0 (by rw [← hx]; exact Int.mul_ediv_cancel _ h0) (by rw [← hx]; exact Int.mul_emod_left c b) hf hb h0⟩
end Go.Proofs.Ythgfgihgpdamnaa
