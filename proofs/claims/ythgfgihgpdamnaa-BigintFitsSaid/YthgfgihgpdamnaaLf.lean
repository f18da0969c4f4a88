/- The walk of BigintFits, all cases together. -/
import Derived.Test.YthgfgihgpdamnaaLfa2
import Derived.Test.YthgfgihgpdamnaaLfb2
import Derived.Test.YthgfgihgpdamnaaLfc1
import Derived.Test.YthgfgihgpdamnaaLfc2
import Derived.Test.YthgfgihgpdamnaaLfd1
import Derived.Test.YthgfgihgpdamnaaLfd2
import Derived.Test.YthgfgihgpdamnaaLfe1
import Derived.Test.YthgfgihgpdamnaaLfe2
namespace Go.Proofs.Ythgfgihgpdamnaa
open Go.RowKit
set_option linter.unusedVariables false

theorem sgn_not (s : Bool) {n : Nat} (h : n ≠ 0) : (sgn (vz s n) == 0) = false := by
  cases s
  · rw [sgn_vz_false h]; rfl
  · rw [sgn_vz_true h]; rfl
theorem sgn_alike (s : Bool) {n m : Nat} (h : n ≠ 0) (h' : m ≠ 0) : sgn (vz s m) = sgn (vz s n) := by
  cases s
  · rw [sgn_vz_false h, sgn_vz_false h']
  · rw [sgn_vz_true h, sgn_vz_true h']
theorem sum_abs (s t : Bool) (n m : Nat) : (vz s n + vz t m).natAbs ≤ n + m := by
  have := vz_abs s n
  have := vz_abs t m
  omega
theorem sum_over {s t : Bool} {n m : Nat} (hn : n < pw 32) (hm : m < pw 32) (h : ¬ (vz s n + vz t m).natAbs < pw 32) : s = t ∧ n ≠ 0 ∧ m ≠ 0 ∧ pw 32 ≤ n + m := by
  have := sum_abs s t n m
  refine ⟨?_, ?_, ?_, by omega⟩
  · refine Classical.byContradiction fun hst => h ?_
    rcases Nat.lt_or_ge n m with hl | hl
    · rw [vz_add_lt hst hl, vz_abs]; omega
    · rw [vz_add_ge hst hl, vz_abs]; omega
  · intro h0; omega
  · intro h0; omega
theorem sign_Z0 : Gives Try.prog 31 #[.agg (ivZ 0)] (.int .i64 0) := by
  have := sign_any false 0 (pw_pos 32)
  rwa [sgn_vz_zero, ← ivZ_zero] at this

theorem fits_any (s t : Bool) (n m : Nat) (hn : n < pw 32) (hm : m < pw 32) (w : World) : Calls Try.prog 11 #[.agg (iv s n), .agg (iv t m)] w fun e w' => e = .returned (.bool true) ∧ Below w.heap.size w w' := by
  have GN := bits_any s n hn
  have GM := bits_any t m hm
  have rN : (0 : Int) ≤ ((bl n : Nat) : Int) ∧ ((bl n : Nat) : Int) ≤ 1024 := by have := bl_top hn; omega
  have rM : (0 : Int) ≤ ((bl m : Nat) : Int) ∧ ((bl m : Nat) : Int) ≤ 1024 := by have := bl_top hm; omega
  have rK : (0 : Int) ≤ ((bl n + bl m : Nat) : Int) ∧ ((bl n + bl m : Nat) : Int) ≤ 2048 := by omega
  have hK : ((bl n : Nat) : Int) + ((bl m : Nat) : Int) = ((bl n + bl m : Nat) : Int) := by omega
  have GS := sign_any s n hn
  have GT := sign_any t m hm
  have GP := mul_any s t n m hn hm
  have GA := add_any s t n m hn hm
  have hp : (vz s n * vz t m).natAbs = n * m := by rw [Int.natAbs_mul, vz_abs, vz_abs]
  by_cases hf : (vz s n + vz t m).natAbs < pw 32
  · rw [resZ_fits hf] at GA
    have GY := bits_Z _ hf
    have hT : max ((bl n : Nat) : Int) ((bl m : Nat) : Int) = ((max (bl n) (bl m) : Nat) : Int) := by omega
    have rT : (0 : Int) ≤ ((max (bl n) (bl m) : Nat) : Int) ∧ ((max (bl n) (bl m) : Nat) : Int) ≤ 1024 := by omega
    have hY : ((bl (vz s n + vz t m).natAbs : Nat) : Int) ≤ ((max (bl n) (bl m) : Nat) : Int) + 1 := by
      have := bl_sum (sum_abs s t n m)
      omega
    by_cases h0 : n = 0
    · have e : vz s n * vz t m = 0 := by rw [h0, vz_zero, Int.zero_mul]
      rw [e, resZ_fits (z := 0) (pw_pos 32)] at GP
      have e2 : sgn (vz s n) = 0 := by rw [h0]; exact sgn_vz_zero s
      rw [e2] at GS
      exact fits_a2 s t n m _ _ _ _ _ _ _ _ rN rM hK rK GN GM GS GT GP sign_Z0 GA GY hT rT hY w
    by_cases h1 : m = 0
    · have e : vz s n * vz t m = 0 := by rw [h1, vz_zero, Int.mul_zero]
      rw [e, resZ_fits (z := 0) (pw_pos 32)] at GP
      have e2 : sgn (vz t m) = 0 := by rw [h1]; exact sgn_vz_zero t
      rw [e2] at GT
      exact fits_b2 s t n m _ _ _ _ _ _ _ _ rN rM hK rK GN GM GS GT GP sign_Z0 (sgn_not s h0) GA GY hT rT hY w
    by_cases hg : n * m < pw 32
    · have GQ := bits_Z (vz s n * vz t m) (by rw [hp]; exact hg)
      rw [resZ_fits (by rw [hp]; exact hg)] at GP
      rw [hp] at GQ
      rcases bl_mul h0 h1 with h | h
      · rw [h] at GQ
        exact fits_c2 s t n m _ _ _ _ _ _ _ _ _ rN rM hK rK GN GM GS GT GP GQ (sgn_not s h0) (sgn_not t h1) GA GY hT rT hY w
      · rw [h] at GQ
        have := bl_pos h0
        have := bl_pos h1
        exact fits_d2 s t n m _ _ _ _ _ _ _ _ _ _ rN rM hK rK GN GM GS GT GP GQ (by simp; omega) (by simp; omega) (by omega) (sgn_not s h0) (sgn_not t h1) GA GY hT rT hY w
    · have hb := bl_over hg
      rw [resZ_not (by rw [hp]; exact hg)] at GP
      exact fits_e2 s t n m _ _ _ _ _ _ _ _ rN rM hK rK GN GM GS GT GP (sgn_not s h0) (sgn_not t h1) (by omega) (by simp; omega) (by omega) GA GY hT rT hY w
  · obtain ⟨rfl, h0, h1, hov⟩ := sum_over hn hm hf
    rw [resZ_not hf] at GA
    have hT : max ((bl n : Nat) : Int) ((bl m : Nat) : Int) = 1024 := by have := bl_sum_over hn hm hov; omega
    rw [sgn_alike s h0 h1] at GT
    by_cases hg : n * m < pw 32
    · have GQ := bits_Z (vz s n * vz s m) (by rw [hp]; exact hg)
      rw [resZ_fits (by rw [hp]; exact hg)] at GP
      rw [hp] at GQ
      rcases bl_mul h0 h1 with h | h
      · rw [h] at GQ
        exact fits_c1 s s n m _ _ _ _ _ rN rM hK rK GN GM GS GT GP GQ (sgn_not s h0) GA hT w
      · rw [h] at GQ
        have := bl_pos h0
        have := bl_pos h1
        exact fits_d1 s s n m _ _ _ _ _ _ rN rM hK rK GN GM GS GT GP GQ (by simp; omega) (by simp; omega) (by omega) (sgn_not s h0) GA hT w
    · have hb := bl_over hg
      rw [resZ_not (by rw [hp]; exact hg)] at GP
      exact fits_e1 s s n m _ _ _ _ rN rM hK rK GN GM GS GT GP (sgn_not s h0) (by omega) (by simp; omega) (by omega) GA hT w
end Go.Proofs.Ythgfgihgpdamnaa
