/- Bit lengths, and the functions that count bits. -/
import Derived.Test.YtfdlgeomaballaaGreatWh
import Derived.Test.YtfdlgeomaballaaGreatSh
import Derived.Lib.ItoaNum
namespace Go.Proofs.YtfdlgeomaballaaGreat
open Go.RowKit

def bl (n : Nat) : Nat := if n = 0 then 0 else n.log2 + 1
theorem bl_zero : bl 0 = 0 := rfl
theorem bl_lt (n : Nat) : n < 2 ^ bl n := by
  unfold bl; split
  · rename_i h; subst h; decide
  · exact Nat.lt_log2_self
theorem bl_pos {n : Nat} (h : n ≠ 0) : 0 < bl n := by unfold bl; rw [if_neg h]; omega
theorem bl_ge {n : Nat} (h : n ≠ 0) : 2 ^ (bl n - 1) ≤ n := by unfold bl; rw [if_neg h]; exact Nat.log2_self_le h
theorem bl_le {n k : Nat} (h : n < 2 ^ k) : bl n ≤ k := by
  by_cases h0 : n = 0
  · subst h0; exact Nat.zero_le _
  · have h1 := bl_ge h0
    have h2 := bl_pos h0
    have := (Nat.pow_lt_pow_iff_right (a := 2) (by omega)).1 (Nat.lt_of_le_of_lt h1 h)
    omega
theorem bl_gt {n k : Nat} (h : 2 ^ k ≤ n) : k < bl n := (Nat.pow_lt_pow_iff_right (a := 2) (by omega)).1 (Nat.lt_of_le_of_lt h (bl_lt n))
theorem bl_is {n k : Nat} (h1 : 2 ^ k ≤ n) (h2 : n < 2 ^ (k + 1)) : bl n = k + 1 := by have := bl_gt h1; have := bl_le h2; omega
theorem bl_lib (x : Nat) (h : x < 2 ^ 64) : Lib.bitLen x = bl x := by
  by_cases h0 : x = 0
  · subst h0; rfl
  · obtain ⟨h1, h2, h3⟩ := Lib.bitLenAux_bounds 64 x h h0
    have := bl_is (n := x) (k := Lib.bitLenAux 64 x - 1) h2 (by rw [Nat.sub_add_cancel h1]; exact h3)
    rw [this, Nat.sub_add_cancel h1]; rfl
theorem pw_bits (k : Nat) : pw k = 2 ^ (32 * k) := by unfold pw; rw [Nat.pow_mul]
theorem pw32_bits : ∃ K, K = 1024 ∧ pw 32 = 2 ^ K := ⟨32 * 32, rfl, pw_bits 32⟩
theorem bl_shift {n k : Nat} (h : n / 2 ^ k ≠ 0) : bl n = k + bl (n / 2 ^ k) := by
  have h1 := bl_ge h
  have h2 := bl_lt (n / 2 ^ k)
  have h3 := bl_pos h
  have e1 : 2 ^ (k + (bl (n / 2 ^ k) - 1)) ≤ n := by
    rw [Nat.pow_add]
    exact Nat.le_trans (Nat.mul_le_mul_left _ h1) (by rw [Nat.mul_comm]; exact Nat.div_mul_le_self _ _)
  have e2 : n < 2 ^ (k + (bl (n / 2 ^ k) - 1) + 1) := by
    have : k + (bl (n / 2 ^ k) - 1) + 1 = bl (n / 2 ^ k) + k := by omega
    rw [this, Nat.pow_add]
    exact (Nat.div_lt_iff_lt_mul (Nat.pow_pos (by omega))).1 h2
  have := bl_is e1 e2
  omega
theorem bl_limb {n j : Nat} (h : n < pw (j + 1)) (h0 : limb n j ≠ 0) : bl n = j * 32 + bl (limb n j) := by
  have e : limb n j = n / 2 ^ (32 * j) := by
    unfold limb
    rw [pw_bits]
    refine Nat.mod_eq_of_lt ((Nat.div_lt_iff_lt_mul (Nat.pow_pos (by omega))).2 ?_)
    rw [pw_succ, pw_bits, Nat.mul_comm] at h
    exact h
  rw [e] at h0 ⊢
  rw [bl_shift h0]; omega
theorem bl_mul {n m : Nat} (hn : n ≠ 0) (hm : m ≠ 0) : bl (n * m) = bl n + bl m ∨ bl (n * m) = bl n + bl m - 1 := by
  have a1 := bl_lt n
  have a2 := bl_lt m
  have b1 := bl_ge hn
  have b2 := bl_ge hm
  have c1 := bl_pos hn
  have c2 := bl_pos hm
  have d1 : bl (n * m) ≤ bl n + bl m := bl_le (by rw [Nat.pow_add]; exact Nat.mul_lt_mul'' a1 a2)
  have d2 : bl n - 1 + (bl m - 1) < bl (n * m) := bl_gt (by rw [Nat.pow_add]; exact Nat.mul_le_mul b1 b2)
  omega
theorem bl_over {n m : Nat} (h : ¬ n * m < pw 32) : 1024 < bl n + bl m := by
  have : n * m < 2 ^ (bl n + bl m) := by rw [Nat.pow_add]; exact Nat.mul_lt_mul'' (bl_lt n) (bl_lt m)
  obtain ⟨K, hK, e⟩ := pw32_bits
  rw [e] at h
  have := (Nat.pow_lt_pow_iff_right (a := 2) (by omega)).1 (Nat.lt_of_le_of_lt (Nat.le_of_not_lt h) this)
  omega
theorem bl_top {n : Nat} (h : n < pw 32) : bl n ≤ 1024 := by
  obtain ⟨K, hK, e⟩ := pw32_bits
  rw [e] at h
  have := bl_le h
  omega
theorem bl_sum {n m k : Nat} (h : k ≤ n + m) : bl k ≤ max (bl n) (bl m) + 1 := by
  refine bl_le ?_
  have a1 := Nat.lt_of_lt_of_le (bl_lt n) (Nat.pow_le_pow_right (show 0 < 2 by omega) (Nat.le_max_left (bl n) (bl m)))
  have a2 := Nat.lt_of_lt_of_le (bl_lt m) (Nat.pow_le_pow_right (show 0 < 2 by omega) (Nat.le_max_right (bl n) (bl m)))
  rw [Nat.pow_succ]
  generalize 2 ^ max (bl n) (bl m) = q at *
  omega
theorem bl_sum_over' {n m K : Nat} (hn : n < 2 ^ (K + 1)) (hm : m < 2 ^ (K + 1)) (h : 2 ^ (K + 1) ≤ n + m) : max (bl n) (bl m) = K + 1 := by
  have t1 := bl_le hn
  have t2 := bl_le hm
  rw [Nat.pow_succ] at h
  rcases Nat.lt_or_ge n (2 ^ K) with h1 | h1
  · have : K < bl m := bl_gt (by omega)
    omega
  · have : K < bl n := bl_gt h1
    omega
theorem bl_sum_over {n m : Nat} (hn : n < pw 32) (hm : m < pw 32) (h : pw 32 ≤ n + m) : max (bl n) (bl m) = 1024 := by
  obtain ⟨K, hK, e⟩ := pw32_bits
  obtain ⟨j, rfl⟩ : ∃ j, K = j + 1 := ⟨1023, hK⟩
  rw [e] at hn hm h
  have := bl_sum_over' hn hm h
  omega

theorem len32_any (x : Nat) (h : x < 4294967296) : Gives Tryz.prog 97 #[.int .u32 ((x : Nat) : Int)] (.int .i64 ((bl x : Nat) : Int)) := fun w =>
  (Tryz.bits_Len32 x w (by omega) (by omega)).mono fun e w' ⟨he, hw⟩ => by
    subst hw
    refine ⟨?_, Below.refl _ _⟩
    rw [he, Int.toNat_natCast, bl_lib x (by omega)]

set_option maxHeartbeats 400000 in
theorem bitCount_any (n : Nat) (hn : n < pw 32) : Gives Tryz.prog 83 #[.agg (mgk 32 n)] (.int .i64 ((bl n : Nat) : Int)) := by
  intro w
  have hS := St.start w
  have HL := limbCount_any n
  rcases hk : nl n with _ | j
  · have hz : n = 0 := by have := nl_lt hn; rw [hk, pw_zero] at this; omega
    have HV : Hid (bl n = 0) := by subst hz; exact bl_zero
    rw [hk] at HL
    clear hz hn hk
    go_enter Tryz.func83, Tryz.ntmps83
    go_wp2_with (first | (refine L_box_agg hS rfl rfl ?_; refine ⟨_, rfl, ?_⟩; clear hS; intro _ _ hS) | (refine L_load (t := 74) rfl rfl ?_; refine ⟨_, run_load_row hS _ _ rfl _ rfl _ _ (.inl (.head _)) _ Tryz.underlying74 rfl (size74_mg _), ?_⟩) | (go_at_call 84; (with_reducible refine Gives.use (HL) hS ?_); clear hS; intro _ hS))
    go_ret
    exact ⟨by rw [HV.out]; rfl, hS.below⟩
  · have hj : j < 32 := by have := nl_le n; omega
    have hne : limb n j ≠ 0 := by
      rcases nl_top n with h | h
      · omega
      · rw [hk] at h; exact h
    have hb : Hid (bl n = j * 32 + bl (limb n j)) := bl_limb (by rw [← hk]; exact nl_lt hn) hne
    rw [hk] at HL
    have hB : bl (limb n j) ≤ 32 := bl_le (limb_lt n j)
    have HC := len32_any (limb n j) (limb_lt n j)
    obtain ⟨c, hc⟩ : ∃ c, c = bl (limb n j) := ⟨_, rfl⟩
    rw [← hc] at hb hB HC
    have hj1 : (j : Int) < 32 := by omega
    have hz : ((((j + 1 : Nat) : Int)) == 0) = false := by simp; omega
    have ej : (((j + 1 : Nat) : Int) - 1) = (j : Int) := by omega
    clear hn hk hne hc
    go_enter Tryz.func83, Tryz.ntmps83
    go_wp2_with (first | (refine L_box_agg hS rfl rfl ?_; refine ⟨_, rfl, ?_⟩; clear hS; intro _ _ hS) | (refine L_load (t := 74) rfl rfl ?_; refine ⟨_, run_load_row hS _ _ rfl _ rfl _ _ (.inl (.head _)) _ Tryz.underlying74 rfl (size74_mg _), ?_⟩) | (refine L_load (t := 26) rfl rfl ?_; refine ⟨_, run_load_cell hS _ _ rfl _ _ rfl _ _ (.inl (.head _)) _ Tryz.underlying26 rfl _ (mgk_get' (by omega)), ?_⟩) | (go_at_call 84; (with_reducible refine Gives.use (HL) hS ?_); clear hS; intro _ hS) | (go_at_call 97; (with_reducible refine Gives.use (HC) hS ?_); clear hS; intro _ hS))
    go_ret
    refine ⟨?_, hS.below⟩
    rw [hb.out]
    refine ret1 (congrArg (Value.int .i64) ?_)
    omega

theorem bits_any (s : Bool) (n : Nat) (hn : n < pw 32) : Gives Tryz.prog 66 #[.agg (iv s n)] (.int .i64 ((bl n : Nat) : Int)) := by
  intro w
  have hS := St.start w
  have HB := bitCount_any n hn
  clear hn
  go_enter Tryz.func66, Tryz.ntmps66
  go_wp2_with (first | (refine L_box_agg hS rfl rfl ?_; refine ⟨_, rfl, ?_⟩; clear hS; intro _ _ hS) | (refine L_load (t := 27) rfl rfl ?_; refine ⟨_, run_load_mid hS _ _ rfl _ _ rfl _ _ (.inl (.head _)) _ Tryz.underlying27 rfl (mgk 32 _) (size27_mg _) (fun k _ => iv_mag _ _ k), ?_⟩) | (go_at_call 83; (with_reducible refine Gives.use (HB) hS ?_); clear hS; intro _ hS))
  go_ret
  exact ⟨rfl, hS.below⟩
theorem bits_Z (z : Int) (h : z.natAbs < pw 32) : Gives Tryz.prog 66 #[.agg (ivZ z)] (.int .i64 ((bl z.natAbs : Nat) : Int)) := bits_any _ _ h
end Go.Proofs.YtfdlgeomaballaaGreat
