/- The walks of Sub, FromInt, ToInt, limbCount. -/
import Derived.Test.YtfdlgeomaballaaGreatWc
namespace Go.Proofs.YtfdlgeomaballaaGreat
open Go.RowKit

theorem add_yes (s t : Bool) (n m : Nat) (hn : n < pw 32) (hm : m < pw 32) (h : (vz s n + vz t m).natAbs < pw 32) : Gives Tryz.prog 76 #[.agg (iv s n), .agg (iv t m)] (.tuple #[.agg (ivZ (vz s n + vz t m)), .int .i64 0]) := by
  rw [← resZ_fits h]; exact add_any s t n m hn hm
theorem add_no (s t : Bool) (n m : Nat) (hn : n < pw 32) (hm : m < pw 32) (h : ¬ (vz s n + vz t m).natAbs < pw 32) : Gives Tryz.prog 76 #[.agg (iv s n), .agg (iv t m)] (.tuple #[.agg (ivZ 0), .int .i64 10]) := by
  rw [← resZ_not h]; exact add_any s t n m hn hm
theorem neg_abs {s : Bool} {n : Nat} (h : n < pw 32) : (-vz s n).natAbs < pw 32 := by rw [Int.natAbs_neg, vz_abs]; exact h

/-! ### int and back -/
/-- The magnitude of an int, as FromInt lays it. -/
theorem two_limbs (k : Nat) : k % 4294967296 + k / 4294967296 * 4294967296 = k := by omega
theorem pw2_le : pw 2 ≤ pw 32 := pw_le (by omega)
theorem pw_two : pw 2 = 18446744073709551616 := by rw [pw_succ, pw_one]
set_option maxHeartbeats 400000 in
theorem fromInt_pos (k : Nat) (hk : k < 9223372036854775808) : Gives Tryz.prog 40 #[.int .i64 (k : Int)] (.agg (ivZ (k : Int))) := by
  intro w
  have hS := St.start w
  have G1 : Gives Tryz.prog 68 #[.bool false, .agg (mgk 32 (k % 4294967296 + k / 4294967296 * 4294967296))] (.agg (ivZ (k : Int))) := by
    rw [two_limbs]; exact signed_any false k (Nat.lt_of_lt_of_le (by rw [pw_two]; omega) pw2_le)
  go_enter Tryz.func40, Tryz.ntmps40
  go_wp2_with (first | (refine L_box_agg hS rfl rfl ?_; refine ⟨_, rfl, ?_⟩; clear hS; intro _ _ hS) | (refine L_alloc_agg hS rfl rfl ?_; refine ⟨_, zero29, ?_⟩; clear hS; intro _ _ hS) | (refine L_build rfl rfl ?_; refine ⟨_, built74_two (k % 4294967296) (k / 4294967296) _ _ (by omega) (by omega) (by omega) (by omega), ?_⟩) | (go_at_call 68; refine Gives.use (G1) hS ?_; clear hS; intro _ hS) | (refine L_store (t := 29) hS rfl rfl ?_; refine ⟨_, _, _, _, _, (.head), run_store_row hS _ _ _ rfl _ rfl _ _ rfl _ (.head) (size29_iv _ _) (iv_sizes _ _ _ _) (oneCells_iv _ _), ?_⟩; clear hS; intro _ hS))
  (try simp only [Exit.inBlock, Exit.then]); refine bodyPost_ret (res_cell rfl hS _ _ _ _ (.inl (.head _)) rfl _ Tryz.underlying29 rfl (size29_iv _ _)) rfl ⟨?_, hS.below⟩
  rfl
set_option maxHeartbeats 400000 in
theorem fromInt_neg (k : Nat) (hk : k ≤ 9223372036854775808) (h0 : 0 < k) : Gives Tryz.prog 40 #[.int .i64 (-(k : Int))] (.agg (ivZ (-(k : Int)))) := by
  intro w
  have hS := St.start w
  have G1 : Gives Tryz.prog 68 #[.bool true, .agg (mgk 32 (k % 4294967296 + k / 4294967296 * 4294967296))] (.agg (ivZ (-(k : Int)))) := by
    rw [two_limbs]; exact signed_any true k (Nat.lt_of_lt_of_le (by rw [pw_two]; omega) pw2_le)
  have hwr : IntKind.u64.wrap (-IntKind.u64.wrap (-(k : Int))) = (k : Int) := by rw [IntKind.wrap_u64, IntKind.wrap_u64]; omega
  go_enter Tryz.func40, Tryz.ntmps40
  go_wp2_with (first | (refine L_box_agg hS rfl rfl ?_; refine ⟨_, rfl, ?_⟩; clear hS; intro _ _ hS) | (refine L_alloc_agg hS rfl rfl ?_; refine ⟨_, zero29, ?_⟩; clear hS; intro _ _ hS) | (refine L_build rfl rfl ?_; refine ⟨_, built74_two (k % 4294967296) (k / 4294967296) _ _ (by omega) (by omega) (by omega) (by omega), ?_⟩) | (go_at_call 68; refine Gives.use (G1) hS ?_; clear hS; intro _ hS) | (refine L_store (t := 29) hS rfl rfl ?_; refine ⟨_, _, _, _, _, (.head), run_store_row hS _ _ _ rfl _ rfl _ _ rfl _ (.head) (size29_iv _ _) (iv_sizes _ _ _ _) (oneCells_iv _ _), ?_⟩; clear hS; intro _ hS))
  (try simp only [Exit.inBlock, Exit.then]); refine bodyPost_ret (res_cell rfl hS _ _ _ _ (.inl (.head _)) rfl _ Tryz.underlying29 rfl (size29_iv _ _)) rfl ⟨?_, hS.below⟩
  rfl
theorem fromInt_any (z : Int) (h : -9223372036854775808 ≤ z ∧ z ≤ 9223372036854775807) : Gives Tryz.prog 40 #[.int .i64 z] (.agg (ivZ z)) := by
  by_cases h0 : z < 0
  · obtain ⟨k, rfl⟩ : ∃ k : Nat, z = -(k : Int) := ⟨z.natAbs, by omega⟩
    exact fromInt_neg k (by omega) (by omega)
  · obtain ⟨k, rfl⟩ : ∃ k : Nat, z = (k : Int) := ⟨z.natAbs, by omega⟩
    exact fromInt_pos k (by omega)

/-- The number that the first two limbs make, as ToInt reckons it. -/
def low64 (n : Nat) : Nat := n % 18446744073709551616
theorem low64_eq (n : Nat) : limb n 1 * 4294967296 + limb n 0 = low64 n := by
  unfold limb low64; rw [pw_one, pw_zero, Nat.div_one]; omega
/-- What ToInt tries. -/
def tryInt (s : Bool) (n : Nat) : Int := if s then IntKind.i64.wrap (-IntKind.i64.wrap (low64 n)) else IntKind.i64.wrap (low64 n)
theorem tryInt_range (s : Bool) (n : Nat) : -9223372036854775808 ≤ tryInt s n ∧ tryInt s n ≤ 9223372036854775807 := by
  unfold tryInt; split <;> (rw [IntKind.wrap_i64]; omega)
theorem tryInt_eq {s : Bool} {n : Nat} (h : -9223372036854775808 ≤ vz s n ∧ vz s n ≤ 9223372036854775807) : tryInt s n = vz s n := by
  unfold tryInt vz low64 at *
  cases s
  · simp only [Bool.false_eq_true, if_false] at *; rw [IntKind.wrap_i64]; omega
  · simp only [if_true] at *; rw [IntKind.wrap_i64, IntKind.wrap_i64]; omega
/-- What ToInt returns. -/
def toI (s : Bool) (n : Nat) : Value := if -9223372036854775808 ≤ vz s n ∧ vz s n ≤ 9223372036854775807 then .tuple #[.int .i64 (vz s n), .bool true] else .tuple #[.int .i64 0, .bool false]
theorem or_low (n : Nat) : bits BinOp.or IntKind.u64 ((limb n 1 : Nat) * 4294967296 : Int) ((limb n 0 : Nat) : Int) = ((low64 n : Nat) : Int) := by
  have h0 := limb_lt n 0
  have h1 := limb_lt n 1
  rw [show ((limb n 1 : Nat) * 4294967296 : Int) = ((limb n 1 * 4294967296 : Nat) : Int) by simp, u64_or_nat _ _ (by omega) (by omega), nat_join 32 _ _ (by omega) (by omega), low64_eq]

/-- The number of limbs of n without leading zeros, of the first k. -/
def nlG : Nat → Nat → Nat
  | 0, _ => 0
  | k + 1, n => if limb n k = 0 then nlG k n else k + 1
def nl (n : Nat) : Nat := nlG 32 n
theorem nlG_zero {n k : Nat} (h : limb n k = 0) : nlG (k + 1) n = nlG k n := if_pos h
theorem nlG_not {n k : Nat} (h : limb n k ≠ 0) : nlG (k + 1) n = k + 1 := if_neg h
theorem nlG_le (n : Nat) : ∀ k, nlG k n ≤ k
  | 0 => Nat.le_refl _
  | k + 1 => by
    unfold nlG; split
    · have := nlG_le n k; omega
    · omega
theorem nlG_lt {n : Nat} : ∀ k, n < pw k → n < pw (nlG k n)
  | 0, h => h
  | k + 1, h => by
    unfold nlG; split
    · rename_i h0
      refine nlG_lt k ?_
      have h1 := mod_pw n k
      rw [Nat.mod_eq_of_lt h, h0, Nat.zero_mul] at h1
      rw [h1]; exact Nat.mod_lt _ (pw_pos k)
    · exact h
theorem nlG_top {n : Nat} : ∀ k, nlG k n = 0 ∨ limb n (nlG k n - 1) ≠ 0
  | 0 => .inl rfl
  | k + 1 => by
    unfold nlG; split
    · exact nlG_top k
    · rename_i h0; exact .inr h0
theorem nl_le (n : Nat) : nl n ≤ 32 := nlG_le n 32
theorem nl_lt {n : Nat} (h : n < pw 32) : n < pw (nl n) := nlG_lt 32 h
theorem nl_top (n : Nat) : nl n = 0 ∨ limb n (nl n - 1) ≠ 0 := nlG_top 32

set_option maxHeartbeats 400000 in
theorem limbCount_any (n : Nat) : Gives Tryz.prog 84 #[.agg (mgk 32 n)] (.int .i64 ((nl n : Nat) : Int)) := by
  intro w
  have hS := St.start w
  go_enter Tryz.func84, Tryz.ntmps84
  go_wp2_with (first | (refine L_box_agg hS rfl rfl ?_; refine ⟨_, rfl, ?_⟩; clear hS; intro _ _ hS))
  rename_i b1 w1 _ _
  go_loopw [3] (fun i wr => ∃ k : Nat, k ≤ 32 ∧ i = .int .i64 k ∧ Hid (nl n = nlG k n) ∧ St none w wr [] [(b1, .cells (mgk 32 n) 74)]) (fun i _ => (intOf i).toNat)
  case atStart => exact ⟨32, by omega, by go_num, (rfl : nl n = nlG 32 n), hS⟩
  case round =>
    clear hS
    obtain ⟨k, hk, rfl, HE, hS⟩ := hrel
    rcases k with _ | j
    · go_wp2
      go_ret
      exact ⟨by rw [HE.out]; rfl, hS.below⟩
    · have hj : (j : Int) < 32 := by omega
      have ej : (((j + 1 : Nat) : Int) - 1) = (j : Int) := by omega
      have hpos : (0 : Int) < ((j + 1 : Nat) : Int) := by omega
      by_cases he : limb n j = 0
      · have HQ : Hid (nl n = nlG j n) := HE.out.trans (nlG_zero he)
        have hb1 : (((limb n j : Nat) : Int) == 0) = true := by rw [he]; rfl
        clear he
        go_wp2_with (first | (refine L_load (t := 26) rfl rfl ?_; refine ⟨_, run_load_cell hS _ _ rfl _ _ rfl _ _ (.inl (.head _)) _ Tryz.underlying26 rfl _ (mgk_get' (by omega)), ?_⟩))
        go_roundw
        case rel => exact ⟨j, by omega, by go_num, HQ, hS⟩
        case measure => simp [intOf]
      · have HQ : Hid (nl n = j + 1) := HE.out.trans (nlG_not he)
        have hb1 : (((limb n j : Nat) : Int) == 0) = false := by simp; omega
        clear he
        go_wp2_with (first | (refine L_load (t := 26) rfl rfl ?_; refine ⟨_, run_load_cell hS _ _ rfl _ _ rfl _ _ (.inl (.head _)) _ Tryz.underlying26 rfl _ (mgk_get' (by omega)), ?_⟩))
        go_ret
        exact ⟨by rw [HQ.out]; rfl, hS.below⟩
end Go.Proofs.YtfdlgeomaballaaGreat
