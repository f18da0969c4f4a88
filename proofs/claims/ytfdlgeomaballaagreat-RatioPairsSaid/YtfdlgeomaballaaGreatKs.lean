/- The walks of the shifts of the long division. -/
import Derived.Test.YtfdlgeomaballaaGreatWi
import Derived.Test.YtfdlgeomaballaaGreatKn
import Derived.Test.YtfdlgeomaballaaGreatGd
import Derived.Test.YtfdlgeomaballaaGreatIx
namespace Go.Proofs.YtfdlgeomaballaaGreat
open Go.RowKit
set_option linter.unusedVariables false
theorem size105 : (Tryz.prog.info? 105).map (·.size) = some 33 := by kernel_rfl
theorem size105_mg (n : Nat) : (Tryz.prog.info? 105).map (·.size) = some (mgk 33 n).size := by rw [mgk_size]; exact size105
theorem zero105 : (Tryz.prog.info? 105).map (·.zero) = some (some (.agg (mgk 33 0))) := by rw [mgk_zero]; kernel_rfl

theorem sh_next {m p k c lo t : Nat} (h : m % pw k * p = c * pw k + lo) (ht : c + limb m k * p = t) : m % pw (k + 1) * p = t / 4294967296 * pw (k + 1) + (lo + t % 4294967296 * pw k) := by
  have e : limb m k * pw k * p = limb m k * p * pw k := by ac_rfl
  have ht2 := Nat.div_add_mod t 4294967296
  have k2 : (4294967296 * (t / 4294967296) + t % 4294967296) * pw k = (c + limb m k * p) * pw k := by rw [ht2, ht]
  simp only [Nat.add_mul] at k2
  have m2 : 4294967296 * (t / 4294967296) * pw k = t / 4294967296 * (pw k * 4294967296) := by rw [Nat.mul_comm 4294967296, Nat.mul_assoc, Nat.mul_comm (pw k)]
  rw [mod_pw, Nat.add_mul, pw_succ]
  omega
theorem sh_carry {x p c s : Nat} (hx : x < 4294967296) (hp : 2 ^ s = p) (hc : c < p) : (c + x * p) / 4294967296 < p ∧ bits BinOp.or IntKind.u64 ((c : Nat) : Int) (((x * p : Nat)) : Int) = ((c + x * p : Nat) : Int) ∨ 2147483648 < p := by
  by_cases hb : p ≤ 2147483648
  · left
    have h1 : (x + 1) * p ≤ 4294967296 * p := Nat.mul_le_mul_right _ hx
    rw [Nat.add_mul, Nat.one_mul] at h1
    refine ⟨?_, ?_⟩
    · rw [Nat.div_lt_iff_lt_mul (by omega), Nat.mul_comm p]; omega
    · have h2 : 4294967296 * p ≤ 4294967296 * 2147483648 := Nat.mul_le_mul_left _ hb
      have h3 : x * p ||| c = x * p + c := nat_join s _ _ (by rw [hp]; exact Nat.mul_mod_left ..) (by rw [hp]; exact hc)
      rw [u64_or_nat _ _ (by omega) (by omega), Nat.or_comm, h3, Nat.add_comm]
  · exact .inr (by omega)

set_option maxRecDepth 10000 in
set_option maxHeartbeats 1000000 in
theorem shiftLeft_core (m s p : Nat) (hm : m < pw 32) (hs : s < 32) (hp : 2 ^ s = p) (hpp : 0 < p) (hpb : p ≤ 2147483648) : Gives Tryz.prog 100 #[.agg (mgk 32 m), .int .i64 ((s : Nat) : Int)] (.agg (mgk 33 (m * p))) := by
  intro w
  have hS := St.start w
  have HM := Lib.hid hm
  have HP := Lib.hid hp
  have hpz : (2 : Int) ^ s = ((p : Nat) : Int) := by rw [← hp]; simp
  clear hm hp
  go_enter Tryz.func100, Tryz.ntmps100
  go_wp2_with (first | (refine L_box_agg (o := ⟨some 2, _, _, _, _, _⟩) hS rfl rfl ?_; refine ⟨_, rfl, ?_⟩; clear hS; intro b2 _ hS) | (refine L_alloc_agg (o := ⟨some 4, _, _, _, _, _⟩) hS rfl rfl ?_; refine ⟨_, zero105, ?_⟩; clear hS; intro b4 _ hS) | (refine L_alloc_agg (o := ⟨some 5, _, _, _, _, _⟩) hS rfl rfl ?_; refine ⟨_, zero105, ?_⟩; clear hS; intro b5 _ hS) | (refine L_load (t := 74) rfl rfl ?_; refine ⟨_, run_load_row hS _ _ rfl _ rfl _ _ (.inl (.tail _ (.tail _ (.head _)))) _ Tryz.underlying74 rfl (size74_mg _), ?_⟩))
  go_loopw [6, 10] (fun cy i wr => ∃ k c lo : Nat, k ≤ 32 ∧ i = .int .i64 k ∧ cy = .int .u64 ((c : Nat) : Int) ∧ c < p ∧ Hid (lo < pw k) ∧ Hid (m % pw k * p = c * pw k + lo) ∧ St none w wr [] [(b5, .cells (mgk 33 lo) 105), (b4, .cells (mgk 33 0) 105), (b2, .cells (mgk 32 m) 74)]) (fun _ i _ => 32 - (intOf i).toNat)
  case atStart => exact ⟨0, 0, 0, by omega, rfl, rfl, hpp, pw_pos 0, (show m % pw 0 * p = 0 * pw 0 + 0 by rw [mod_pw_zero]; simp), hS⟩
  case round =>
    clear hS
    obtain ⟨k, c, lo, hk, rfl, rfl, hc, HL, HI, hS⟩ := hrel
    have hx := limb_lt m k
    by_cases hlt : k < 32
    · have hj := (sh_carry hx HP.out hc).resolve_right (by omega)
      obtain ⟨V, hV⟩ : ∃ V, limb m k * p = V := ⟨_, rfl⟩
      have hVZ : ((limb m k : Nat) : Int) * ((p : Nat) : Int) = ((V : Nat) : Int) := by rw [← hV]; simp
      have hVb : V ≤ 9223372036854775807 := by
        have : limb m k * p ≤ 4294967295 * 2147483648 := Nat.mul_le_mul (by omega) hpb
        omega
      have HN := Lib.hid (sh_next HI.out (rfl : c + limb m k * p = _))
      rw [hV] at hj HN
      obtain ⟨hj1, hor⟩ := hj
      obtain ⟨t, ht⟩ : ∃ t, c + V = t := ⟨_, rfl⟩
      rw [ht] at hj1 hor HN
      have htb : t ≤ 18446744073709551615 := by omega
      clear hV ht
      have HLt : Hid (lo + t % 4294967296 * pw k < pw (k + 1)) := low_lt HL.out (Nat.mod_lt _ (by omega))
      go_wp2_with (first | ((with_reducible refine L_slot 13 ?_); refine L_index rfl rfl ?_; refine ⟨_, run_index_cell _ _ _ _ rfl _ rfl _ (k) rfl rfl 32 26 Tryz.underlying74 (hlt) _ Tryz.underlying26 rfl size26 _ (mgk_get' (hlt)), ?_⟩) | ((with_reducible refine L_storeAt 23 ?_); (refine L_store (t := 26) hS rfl rfl ?_; refine ⟨_, _, mgk 33 (lo + t % 4294967296 * pw k), _, _, (.head), run_store_cell hS _ _ _ rfl _ _ rfl _ rfl _ _ _ (.head) size26 rfl rfl ?_ ?_, ?_⟩; (focus (rw [mgk_size]; omega)); (focus (exact mgk_fill' _ (t % 4294967296) rfl HL.out (Nat.mod_lt _ (by omega)))); clear hS; intro _ hS)))
      go_roundw
      case rel => exact ⟨k + 1, t / 4294967296, _, by omega, by go_num, rfl, hj1, HLt, HN, hS⟩
      case measure => simp [intOf]; omega
    · have ek : k = 32 := by omega
      subst ek
      have hcb : c ≤ 2147483647 := by omega
      have HE : Hid (lo + c * pw 32 = m * p) := by
        have := HI.out
        rw [Nat.mod_eq_of_lt HM.out] at this
        show lo + c * pw 32 = m * p
        omega
      go_wp2_with (first | ((with_reducible refine L_storeAt 29 ?_); (refine L_store (t := 26) hS rfl rfl ?_; refine ⟨_, _, mgk 33 (lo + c * pw 32), _, _, (.head), run_store_cell hS _ _ _ rfl _ _ rfl _ rfl _ _ _ (.head) size26 rfl rfl ?_ ?_, ?_⟩; (focus (rw [mgk_size]; omega)); (focus (exact mgk_fill' _ c rfl HL.out (by omega))); clear hS; intro _ hS)) | ((with_reducible refine L_slot 30 ?_); (refine L_load (t := 105) rfl rfl ?_; refine ⟨_, run_load_row hS _ _ rfl _ rfl _ _ (.inl (.head _)) _ Tryz.underlying105 rfl (size105_mg _), ?_⟩)) | ((with_reducible refine L_storeAt 4 ?_); (refine L_store (t := 105) hS rfl rfl ?_; refine ⟨_, _, _, _, _, (.tail .head), run_store_row hS _ _ _ rfl _ rfl _ _ rfl _ (.tail .head) (size105_mg _) (mg_sizes _ _ _) (oneCells _ _), ?_⟩; clear hS; intro _ hS)))
      (try simp only [Exit.inBlock, Exit.then]); refine bodyPost_ret (res_cell rfl hS _ _ _ _ (.inl (.tail _ (.head _))) rfl _ Tryz.underlying105 rfl (size105_mg _)) rfl ⟨?_, hS.below⟩
      rw [HE.out]
theorem shiftLeft_any (m s : Nat) (hm : m < pw 32) (hs : s < 32) : Gives Tryz.prog 100 #[.agg (mgk 32 m), .int .i64 ((s : Nat) : Int)] (.agg (mgk 33 (m * 2 ^ s))) :=
  shiftLeft_core m s (2 ^ s) hm hs rfl (Nat.pow_pos (by omega)) (Nat.pow_le_pow_right (by omega) (show s ≤ 31 by omega))
end Go.Proofs.YtfdlgeomaballaaGreat
