/- Division of canonical numbers, by what they denote. -/
import Derived.Test.YtfdlgeomaballaaKm
import Derived.Test.YtfdlgeomaballaaZz
namespace Go.Proofs.Ytfdlgeomaballaa
open Go.RowKit
set_option linter.unusedVariables false

theorem divMod_Z (x y q r : Int) (hq : x / y = q) (hr : x % y = r) (hx : x.natAbs < pw 32) (hy : y.natAbs < pw 32) (h0 : y ≠ 0) : Gives Try.prog 19 #[.agg (ivZ x), .agg (ivZ y)] (.tuple #[.agg (ivZ q), .agg (ivZ r), .int .i64 0]) := by
  have hp : 0 < y.natAbs := by omega
  have := divMod_of (decide (x < 0)) (decide (y < 0)) x.natAbs y.natAbs hx hy hp (divide_any _ _ hx hy hp)
  unfold divR at this
  rw [vz_self, vz_self, hq, hr] at this
  exact this
theorem neg_Z (x : Int) (hx : x.natAbs < pw 32) : Gives Try.prog 28 #[.agg (ivZ x)] (.agg (ivZ (-x))) := by
  have := neg_any (decide (x < 0)) x.natAbs hx
  rwa [vz_self] at this
theorem mul_over (x y : Int) (hx : x.natAbs < pw 32) (hy : y.natAbs < pw 32) (h : ¬ (x * y).natAbs < pw 32) : Gives Try.prog 17 #[.agg (ivZ x), .agg (ivZ y)] (.tuple #[.agg (ivZ 0), .int .i64 10]) := by
  have := mul_any (decide (x < 0)) (decide (y < 0)) x.natAbs y.natAbs hx hy
  rw [vz_self, vz_self, resZ_not h] at this
  exact this
set_option maxRecDepth 100000 in
set_option maxHeartbeats 1000000 in
theorem divMod_zero (s t : Bool) (n : Nat) (hn : n < pw 32) : Gives Try.prog 19 #[.agg (iv s n), .agg (iv t 0)] (.tuple #[.agg (ivZ 0), .agg (ivZ 0), .int .i64 11]) := by
  intro w
  have hS := St.start w
  have GZ := isZero 0 (pw_pos 32)
  rw [isz_true rfl] at GZ
  rw [ivZ_zero]
  go_enter Try.func19, Try.ntmps19
  go_wp2_with (first | ((with_reducible refine L_box? ?_); (refine L_box_agg hS rfl rfl ?_; refine ⟨_, rfl, ?_⟩; clear hS; intro _ _ hS)) | ((with_reducible refine L_alloc? ?_); (refine L_alloc_agg hS rfl rfl ?_; refine ⟨_, zero25, ?_⟩; clear hS; intro _ _ hS)) | ((with_reducible refine L_load? ?_); (refine L_load (t := 23) rfl rfl ?_; refine ⟨_, run_load_mid hS _ _ rfl _ _ rfl _ _ (.inl (.tail _ (.tail _ (.head _)))) _ Try.underlying23 rfl (mgk 32 _) (size23_mg _) (fun k _ => iv_mag _ _ k), ?_⟩)) | (go_at_call 88; (with_reducible refine Gives.use (GZ) hS ?_); clear hS; intro _ hS) | ((with_reducible refine L_build? ?_); (refine L_build rfl rfl ?_; refine ⟨_, built25, ?_⟩)) | ((with_reducible refine L_store? ?_); (refine L_store (t := 25) hS rfl rfl ?_; refine ⟨_, _, _, _, _, (.tail .head), run_store_row hS _ _ _ rfl _ rfl _ _ rfl _ (.tail .head) (size25_iv _ _) (iv_sizes _ _ _ _) (oneCells_iv _ _), ?_⟩; clear hS; intro _ hS)) | ((with_reducible refine L_store? ?_); (refine L_store (t := 25) hS rfl rfl ?_; refine ⟨_, _, _, _, _, (.head), run_store_row hS _ _ _ rfl _ rfl _ _ rfl _ (.head) (size25_iv _ _) (iv_sizes _ _ _ _) (oneCells_iv _ _), ?_⟩; clear hS; intro _ hS)))
  (try simp only [Exit.inBlock, Exit.then]); refine bodyPost_ret (res_cell_cell_tmp rfl _ _ _ _ _ (run_loadRow hS _ _ _ _ (.inl (.tail _ (.head _))) _ Try.underlying25 rfl (size25_iv _ _)) (run_loadRow hS _ _ _ _ (.inl (.head _)) _ Try.underlying25 rfl (size25_iv _ _)) rfl rfl _ rfl) rfl ⟨?_, hS.below⟩
  rfl
theorem divMod_Z0 (x : Int) (hx : x.natAbs < pw 32) : Gives Try.prog 19 #[.agg (ivZ x), .agg (ivZ 0)] (.tuple #[.agg (ivZ 0), .agg (ivZ 0), .int .i64 11]) := by
  have := divMod_zero (decide (x < 0)) false x.natAbs hx
  rwa [← ivZ_zero] at this
end Go.Proofs.Ytfdlgeomaballaa
