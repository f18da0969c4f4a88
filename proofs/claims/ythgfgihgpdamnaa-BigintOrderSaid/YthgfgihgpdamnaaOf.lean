/- The walk of BigintOrder: its facts. -/
import Derived.Test.YthgfgihgpdamnaaTj
import Derived.Test.YthgfgihgpdamnaaTr
import Derived.Test.YthgfgihgpdamnaaRe
import Derived.Test.YthgfgihgpdamnaaZz
import Derived.Test.YthgfgihgpdamnaaGd
import Derived.Test.YthgfgihgpdamnaaRi
namespace Go.Proofs.Ythgfgihgpdamnaa
open Go.RowKit
set_option linter.unusedVariables false

theorem cmpZ_range (x y : Int) : -1 ≤ cmpZ x y ∧ cmpZ x y ≤ 1 := by unfold cmpZ; split <;> (try split) <;> omega
theorem order_facts (P : Nat) (hP : 8 * P ≤ pw 32) (a B c : Int) (ha : a.natAbs < P) (hB : B.natAbs ≤ P) (hc : c.natAbs < P) : ∃ d x y o o2 o3 : Int, ∃ eqv : Bool, Gives Try.prog 14 #[.agg (ivZ a), .agg (ivZ B)] (.tuple #[.agg (ivZ d), .int .i64 0]) ∧ Gives Try.prog 12 #[.agg (ivZ a), .agg (ivZ c)] (.tuple #[.agg (ivZ x), .int .i64 0]) ∧ Gives Try.prog 12 #[.agg (ivZ B), .agg (ivZ c)] (.tuple #[.agg (ivZ y), .int .i64 0]) ∧ Gives Try.prog 22 #[.agg (ivZ a), .agg (ivZ B)] (.int .i64 (o)) ∧ Gives Try.prog 22 #[.agg (ivZ B), .agg (ivZ c)] (.int .i64 (o2)) ∧ Gives Try.prog 22 #[.agg (ivZ a), .agg (ivZ c)] (.int .i64 (o3)) ∧ Gives Try.prog 22 #[.agg (ivZ B), .agg (ivZ a)] (.int .i64 (-o)) ∧ Gives Try.prog 22 #[.agg (ivZ x), .agg (ivZ y)] (.int .i64 (o)) ∧ Gives Try.prog 31 #[.agg (ivZ d)] (.int .i64 o) ∧ Hid (a.natAbs < pw 32) ∧ Hid (B.natAbs < pw 32) ∧ eqZ a B = eqv ∧ (o == 0) = eqv ∧ (-1 ≤ o ∧ o ≤ 1) ∧ (o ≤ 0 → o2 ≤ 0 → o3 ≤ 0) := by
  have Ba : a.natAbs < pw 32 := by omega
  have BB : B.natAbs < pw 32 := by omega
  have Bc : c.natAbs < pw 32 := by omega
  have Bd : (a - B).natAbs < pw 32 := by omega
  have Bx : (a + c).natAbs < pw 32 := by omega
  have By : (B + c).natAbs < pw 32 := by omega
  have e4 : cmpZ B a = -cmpZ a B := by unfold cmpZ; split <;> split <;> (try split) <;> omega
  have e5 : cmpZ (a + c) (B + c) = cmpZ a B := by unfold cmpZ; split <;> split <;> (try split) <;> (try split) <;> omega
  have e6 : sgn (a - B) = cmpZ a B := by unfold sgn cmpZ; split <;> split <;> (try split) <;> (try split) <;> omega
  have C4 := cmp_Z B a BB Ba
  have C5 := cmp_Z (a + c) (B + c) Bx By
  have GS := sign_Z (a - B) Bd
  rw [e4] at C4
  rw [e5] at C5
  rw [e6] at GS
  refine ⟨a - B, a + c, B + c, cmpZ a B, cmpZ B c, cmpZ a c, eqZ a B, sub_Z _ _ _ rfl Ba BB Bd, add_Z _ _ _ rfl Ba Bc Bx, add_Z _ _ _ rfl BB Bc By, cmp_Z a B Ba BB, cmp_Z B c BB Bc, cmp_Z a c Ba Bc, C4, C5, GS, Lib.hid Ba, Lib.hid BB, rfl, ?_, cmpZ_range a B, ?_⟩
  · by_cases h : a = B
    · rw [cmpZ_eq h, eqZ_true h]; rfl
    · rw [eqZ_false h]
      rcases Int.lt_or_gt_of_ne h with h | h
      · rw [cmpZ_lt h]; rfl
      · rw [cmpZ_gt h]; rfl
  · intro h1 h2
    have l1 : a ≤ B := by
      rcases Int.lt_trichotomy a B with h | h | h
      · omega
      · omega
      · rw [cmpZ_gt h] at h1; omega
    have l2 : B ≤ c := by
      rcases Int.lt_trichotomy B c with h | h | h
      · omega
      · omega
      · rw [cmpZ_gt h] at h2; omega
    rcases Int.lt_trichotomy a c with h | h | h
    · rw [cmpZ_lt h]; omega
    · rw [cmpZ_eq h]; omega
    · omega
theorem mid_abs' (z : Int) (h : z.natAbs < 18446744073709551616) : z.natAbs < pw 32 := Nat.lt_of_lt_of_le (by rw [pw_two]; exact h) pw2_le
theorem radd_Z (x y z : Int) (e : x + y = z) (hx : x.natAbs < pw 32) (hy : y.natAbs < pw 32) (h : z.natAbs < pw 32) : Gives Try.prog 13 #[.agg (ivZ x), .agg (ivZ y)] (.tuple #[.agg (ivZ z), .int .i64 0]) := by
  subst e
  have := radd_any (decide (x < 0)) (decide (y < 0)) x.natAbs y.natAbs hx hy
  rw [vz_self, vz_self, resZ_fits h] at this
  exact this
end Go.Proofs.Ythgfgihgpdamnaa
