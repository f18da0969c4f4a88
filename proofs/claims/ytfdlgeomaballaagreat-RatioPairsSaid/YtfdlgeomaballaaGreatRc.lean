/- The walks of the document's own answers: sum, difference. -/
import Derived.Test.YtfdlgeomaballaaGreatRb
namespace Go.Proofs.YtfdlgeomaballaaGreat
open Go.RowKit
set_option linter.unusedVariables false

set_option maxHeartbeats 800000 in
theorem rsum (n m : Nat) (hn : n < pw 32) (hm : m < pw 32) : Gives Tryz.prog 72 #[.agg (mgk 32 n), .agg (mgk 32 m)] (.tuple #[.agg (mgk 32 ((n + m) % pw 32)), .bool (decide (n + m < pw 32))]) := by
  intro w
  have hS := St.start w
  have HN := Lib.hid hn
  have HM := Lib.hid hm
  clear hn hm
  go_enter Tryz.func72, Tryz.ntmps72
  go_wp2_with (first | (refine L_box_agg hS rfl rfl ?_; refine ⟨_, rfl, ?_⟩; clear hS; intro _ _ hS) | (refine L_alloc_agg hS rfl rfl ?_; refine ⟨_, zero27, ?_⟩; clear hS; intro _ _ hS))
  rename_i b1 _ b2 _ b3 _ b4 w1 _ _
  go_loopw [7, 8] (fun cy i wr => ∃ k : Nat, k ≤ 32 ∧ i = .int .i64 k ∧ cy = .int .u64 ((pcar n m k : Nat) : Int) ∧ St none w wr [] [(b4, .cells (mgk 32 (psum n m k)) 27), (b3, .cells (mgk 32 0) 27), (b2, .cells (mgk 32 m) 27), (b1, .cells (mgk 32 n) 27)]) (fun _ i _ => 32 - (intOf i).toNat)
  case atStart =>
    exact ⟨0, by omega, rfl, by rw [pcar_zero]; rfl, by rw [psum_zero]; exact hS⟩
  case round =>
    clear hS
    obtain ⟨k, hk, rfl, rfl, hS⟩ := hrel
    have hc := pcar_le n m k
    by_cases hlt : k < 32
    · have hx := limb_lt n k
      have hy := limb_lt m k
      obtain ⟨V, hV⟩ : ∃ V, limb n k + limb m k + pcar n m k = V := ⟨_, rfl⟩
      have hVZ : ((limb n k : Nat) : Int) + ((limb m k : Nat) : Int) + ((pcar n m k : Nat) : Int) = ((V : Nat) : Int) := by omega
      have hVb : V ≤ 8589934591 := by omega
      go_wp2_with (fail)
      (try simp only [Act.put]); (try simp only [List.setIfInBounds_toArray, List.set_cons_succ, List.set_cons_zero]); refine wp_region_w0 hS (by kernel_rfl) (by kernel_rfl) ?_
      repeat (first
        | (refine S_load (t := 26) rfl rfl rfl rfl ?_; refine ⟨_, fun _ hS' => run_load_cell hS' _ _ rfl _ _ rfl _ _ (.inl (.tail _ (.tail _ (.head _)))) _ Tryz.underlying26 rfl _ (mgk_get' (by omega)), ?_⟩; simp only [Act.put, List.setIfInBounds_toArray, List.set_cons_succ, List.set_cons_zero])
        | (refine S_load (t := 26) rfl rfl rfl rfl ?_; refine ⟨_, fun _ hS' => run_load_cell hS' _ _ rfl _ _ rfl _ _ (.inl (.tail _ (.tail _ (.tail _ (.head _))))) _ Tryz.underlying26 rfl _ (mgk_get' (by omega)), ?_⟩; simp only [Act.put, List.setIfInBounds_toArray, List.set_cons_succ, List.set_cons_zero])
        | (refine S_run rfl rfl ?_; apply Exists.intro; refine ⟨fun _ => ?_, ?_⟩; (focus (go_simp; (try go_bits); exact rfl)); simp only [Act.put, List.setIfInBounds_toArray, List.set_cons_succ, List.set_cons_zero]))
      refine S_end0 ?_; clear hS; intro _ hS
      go_wp2_with (first | (refine L_store (t := 26) hS rfl rfl ?_; refine ⟨_, _, mgk 32 (psum n m (k + 1)), _, _, (.head), run_store_cell hS _ _ _ rfl _ _ rfl _ rfl _ _ _ (.head) size26 rfl rfl ?_ ?_, ?_⟩; (focus (rw [mgk_size]; omega)); (focus (exact (mgk_fill' _ (addS (limb n k) (limb m k) (pcar n m k)) (by unfold addS; rw [hV]; rfl) (psum_lt _ _ _) (addS_lt _ _ _)).trans (by rw [psum_next]; rfl))); clear hS; intro _ hS))
      go_roundw
      case rel => exact ⟨k + 1, by omega, by go_num, by rw [pcar_next, hV]; rfl, hS⟩
      case measure => simp [intOf]; omega
    · have ek : k = 32 := by omega
      subst ek
      go_wp2_with (first | (refine L_load (t := 27) rfl rfl ?_; refine ⟨_, run_load_row hS _ _ rfl _ rfl _ _ (.inl (.head _)) _ Tryz.underlying27 rfl (size27_mg _), ?_⟩) | (refine L_store (t := 27) hS rfl rfl ?_; refine ⟨_, _, _, _, _, (.tail .head), run_store_row hS _ _ _ rfl _ rfl _ _ rfl _ (.tail .head) (size27_mg _) (mg_sizes _ _ _) (oneCells _ _), ?_⟩; clear hS; intro _ hS))
      (try simp only [Exit.inBlock, Exit.then]); refine bodyPost_ret (res_cell_tmp rfl _ _ _ (run_loadRow hS _ _ _ _ (.inl (.tail _ (.head _))) _ Tryz.underlying27 rfl (size27_mg _)) rfl _ rfl) rfl ⟨?_, hS.below⟩
      refine ret2 (by rw [psum_end HN.out HM.out]) (congrArg Value.bool ?_)
      have h0 := pcar_end HN.out HM.out
      by_cases h1 : pcar n m 32 = 0
      · simp [h1, h0.1 h1]
      · have h2 : ¬ n + m < pw 32 := fun h => h1 (h0.2 h)
        simp [h1, h2]

/-- One limb of a difference in 64 bits. -/
def dif64 (x y c : Nat) : Nat := if x < y + c then x + 18446744073709551616 - y - c else x - y - c
theorem dif64_wrap {x y c : Nat} (hx : x < 4294967296) (hy : y < 4294967296) (hc : c ≤ 1) : IntKind.u64.wrap (IntKind.u64.wrap ((x : Int) - (y : Int)) - (c : Int)) = ((dif64 x y c : Nat) : Int) := by
  have wr : ∀ z : Int, IntKind.u64.wrap z = z % 18446744073709551616 := fun z => by simp [IntKind.wrap, IntKind.signed, IntKind.bits]
  rw [wr, wr]
  unfold dif64
  split <;> omega
theorem dif64_lt {x y c : Nat} (hx : x < 4294967296) : dif64 x y c < 18446744073709551616 := by unfold dif64; split <;> omega
theorem dif64_low {x y c : Nat} (hx : x < 4294967296) (hy : y < 4294967296) (hc : c ≤ 1) : dif64 x y c % 4294967296 = subD x y c := by unfold dif64 subD; split <;> omega
theorem dif64_high {x y c : Nat} (hx : x < 4294967296) (hy : y < 4294967296) (hc : c ≤ 1) : dif64 x y c / 9223372036854775808 = brw x y c := by unfold dif64 brw; split <;> omega
set_option maxHeartbeats 800000 in
theorem rdiff (n m : Nat) (hn : n < pw 32) (hm : m ≤ n) : Gives Tryz.prog 71 #[.agg (mgk 32 n), .agg (mgk 32 m)] (.agg (mgk 32 (n - m))) := by
  intro w
  have hS := St.start w
  have HN := Lib.hid hn
  have HM := Lib.hid hm
  clear hn hm
  go_enter Tryz.func71, Tryz.ntmps71
  go_wp2_with (first | (refine L_box_agg hS rfl rfl ?_; refine ⟨_, rfl, ?_⟩; clear hS; intro _ _ hS) | (refine L_alloc_agg hS rfl rfl ?_; refine ⟨_, zero27, ?_⟩; clear hS; intro _ _ hS))
  rename_i b1 _ b2 _ b3 _ b4 w1 _ _
  go_loopw [6, 7] (fun cy i wr => ∃ k : Nat, k ≤ 32 ∧ i = .int .i64 k ∧ cy = .int .u64 ((mbrw n m k : Nat) : Int) ∧ St none w wr [] [(b4, .cells (mgk 32 (mdif n m k)) 27), (b3, .cells (mgk 32 0) 27), (b2, .cells (mgk 32 m) 27), (b1, .cells (mgk 32 n) 27)]) (fun _ i _ => 32 - (intOf i).toNat)
  case atStart =>
    exact ⟨0, by omega, rfl, by rw [mbrw_zero]; rfl, by rw [mdif_zero]; exact hS⟩
  case round =>
    clear hS
    obtain ⟨k, hk, rfl, rfl, hS⟩ := hrel
    have hc := mbrw_le n m k
    by_cases hlt : k < 32
    · have hx := limb_lt n k
      have hy := limb_lt m k
      go_wp2_with (fail)
      (try simp only [Act.put]); (try simp only [List.setIfInBounds_toArray, List.set_cons_succ, List.set_cons_zero]); refine wp_region_w0 hS (by kernel_rfl) (by kernel_rfl) ?_
      repeat (first
        | (refine S_load (t := 26) rfl rfl rfl rfl ?_; refine ⟨_, fun _ hS' => run_load_cell hS' _ _ rfl _ _ rfl _ _ (.inl (.tail _ (.tail _ (.head _)))) _ Tryz.underlying26 rfl _ (mgk_get' (by omega)), ?_⟩; simp only [Act.put, List.setIfInBounds_toArray, List.set_cons_succ, List.set_cons_zero])
        | (refine S_load (t := 26) rfl rfl rfl rfl ?_; refine ⟨_, fun _ hS' => run_load_cell hS' _ _ rfl _ _ rfl _ _ (.inl (.tail _ (.tail _ (.tail _ (.head _))))) _ Tryz.underlying26 rfl _ (mgk_get' (by omega)), ?_⟩; simp only [Act.put, List.setIfInBounds_toArray, List.set_cons_succ, List.set_cons_zero])
        | (refine S_run rfl rfl ?_; apply Exists.intro; refine ⟨fun _ => ?_, ?_⟩; (focus (go_simp; (try go_bits); exact rfl)); simp only [Act.put, List.setIfInBounds_toArray, List.set_cons_succ, List.set_cons_zero]))
      refine S_end0 ?_; clear hS; intro _ hS
      have HVZ := dif64_wrap hx hy hc
      have HVL := Lib.hid (dif64_low hx hy hc)
      have HVH := Lib.hid (dif64_high hx hy hc)
      have HVB := dif64_lt (y := limb m k) (c := mbrw n m k) hx
      generalize dif64 (limb n k) (limb m k) (mbrw n m k) = V at *
      rw [HVZ]
      clear HVZ
      go_wp2_with (first | (refine L_store (t := 26) hS rfl rfl ?_; refine ⟨_, _, mgk 32 (mdif n m (k + 1)), _, _, (.head), run_store_cell hS _ _ _ rfl _ _ rfl _ rfl _ _ _ (.head) size26 rfl rfl ?_ ?_, ?_⟩; (focus (rw [mgk_size]; omega)); (focus (exact (mgk_fill' _ (subD (limb n k) (limb m k) (mbrw n m k)) (by rw [← HVL.out]; rfl) (mdif_lt _ _ _) (subD_lt _ _ _)).trans (by rw [mdif_next]; rfl))); clear hS; intro _ hS))
      go_roundw
      case rel => exact ⟨k + 1, by omega, by go_num, by rw [mbrw_next, ← HVH.out]; rfl, hS⟩
      case measure => simp [intOf]; omega
    · have ek : k = 32 := by omega
      subst ek
      go_wp2_with (first | (refine L_load (t := 27) rfl rfl ?_; refine ⟨_, run_load_row hS _ _ rfl _ rfl _ _ (.inl (.head _)) _ Tryz.underlying27 rfl (size27_mg _), ?_⟩) | (refine L_store (t := 27) hS rfl rfl ?_; refine ⟨_, _, _, _, _, (.tail .head), run_store_row hS _ _ _ rfl _ rfl _ _ rfl _ (.tail .head) (size27_mg _) (mg_sizes _ _ _) (oneCells _ _), ?_⟩; clear hS; intro _ hS))
      (try simp only [Exit.inBlock, Exit.then]); refine bodyPost_ret (res_cell rfl hS _ _ _ _ (.inl (.tail _ (.head _))) rfl _ Tryz.underlying27 rfl (size27_mg _)) rfl ⟨?_, hS.below⟩
      rw [mdif_end HN.out HM.out]
end Go.Proofs.YtfdlgeomaballaaGreat
