/- The walks of the document's own answers: FromInt. -/
import Derived.Test.YtfdlgeomaballaaGreatRd
import Derived.Test.YtfdlgeomaballaaGreatTi
import Derived.Test.YtfdlgeomaballaaGreatGd
namespace Go.Proofs.YtfdlgeomaballaaGreat
open Go.RowKit
set_option linter.unusedVariables false

set_option maxHeartbeats 800000 in
theorem rfromInt_core (s : Bool) (z : Int) (k lo hi : Nat) (v0 : Int) (hv0 : IntKind.u64.wrap z = v0) (hz : decide (z < 0) = s) (hneg : s = true → IntKind.u64.wrap (-v0) = ((k : Nat) : Int)) (hpos : s = false → v0 = ((k : Nat) : Int)) (hk : k < 18446744073709551616)
    (hlo : IntKind.u32.wrap ((k : Nat) : Int) = ((lo : Nat) : Int)) (hhi : ((k : Nat) : Int) / 4294967296 = ((hi : Nat) : Int)) (rlo : lo < 4294967296) (rhi : hi < 4294967296) (HP1 : Hid ((iv s 0).setIfInBounds 1 (.int .u32 ((lo : Nat) : Int)) = iv s lo)) (HP2 : Hid ((iv s lo).setIfInBounds 2 (.int .u32 ((hi : Nat) : Int)) = iv s k)) : Gives Tryz.prog 20 #[.int .i64 z] (.agg (iv s k)) := by
  intro w
  have hS := St.start w
  cases s
  · have hn : ¬ z < 0 := of_decide_eq_false hz
    have hv := hpos rfl
    clear hneg hpos
    go_enter Tryz.func20, Tryz.ntmps20
    go_wp2_with (first | ((with_reducible refine L_alloc? ?_); (refine L_alloc_agg hS rfl rfl ?_; refine ⟨_, zero29, ?_⟩; clear hS; intro _ _ hS)) | ((with_reducible refine L_storeAt 13 ?_); refine L_store (t := 4) hS rfl rfl ?_; refine ⟨_, _, iv false 0, _, _, .head, run_store_cell hS _ _ _ rfl _ _ rfl _ rfl _ _ _ .head size4 rfl rfl ?_ ?_, ?_⟩; (focus (rw [iv_size]; omega)); (focus (exact iv_neg_put _ _ _)); clear hS; intro _ hS) | ((with_reducible refine L_storeAt 20 ?_); refine L_store (t := 26) hS rfl rfl ?_; refine ⟨_, _, iv false lo, _, _, .head, run_store_cell hS _ _ _ rfl _ _ rfl _ rfl _ _ _ .head size26 rfl rfl ?_ ?_, ?_⟩; (focus (rw [iv_size]; omega)); (focus (exact HP1.out)); clear hS; intro _ hS) | ((with_reducible refine L_storeAt 22 ?_); refine L_store (t := 26) hS rfl rfl ?_; refine ⟨_, _, iv false k, _, _, .head, run_store_cell hS _ _ _ rfl _ _ rfl _ rfl _ _ _ .head size26 rfl rfl ?_ ?_, ?_⟩; (focus (rw [iv_size]; omega)); (focus (exact HP2.out)); clear hS; intro _ hS) | ((with_reducible refine L_slot 23 ?_); (refine L_load (t := 29) (o := ⟨some 23, _, _, _, _, _⟩) rfl rfl ?_; refine ⟨_, run_load_row hS _ _ rfl _ rfl _ _ (.inl (.head _)) _ Tryz.underlying29 rfl (size29_iv _ _), ?_⟩)) | ((with_reducible refine L_storeAt 2 ?_); (refine L_store (t := 29) hS rfl rfl ?_; refine ⟨_, _, _, _, _, (.tail .head), run_store_row hS _ _ _ rfl _ rfl _ _ rfl _ (.tail .head) (size29_iv _ _) (iv_sizes _ _ _ _) (oneCells_iv _ _), ?_⟩; clear hS; intro _ hS)))
    (try simp only [Exit.inBlock, Exit.then]); refine bodyPost_ret (res_cell rfl hS _ _ _ _ (.inl (.tail _ (.head _))) rfl _ Tryz.underlying29 rfl (size29_iv _ _)) rfl ⟨?_, hS.below⟩
    rfl
  · have hn : z < 0 := of_decide_eq_true hz
    have hv := hneg rfl
    clear hneg hpos
    go_enter Tryz.func20, Tryz.ntmps20
    go_wp2_with (first | ((with_reducible refine L_alloc? ?_); (refine L_alloc_agg hS rfl rfl ?_; refine ⟨_, zero29, ?_⟩; clear hS; intro _ _ hS)) | ((with_reducible refine L_storeAt 13 ?_); refine L_store (t := 4) hS rfl rfl ?_; refine ⟨_, _, iv true 0, _, _, .head, run_store_cell hS _ _ _ rfl _ _ rfl _ rfl _ _ _ .head size4 rfl rfl ?_ ?_, ?_⟩; (focus (rw [iv_size]; omega)); (focus (exact iv_neg_put _ _ _)); clear hS; intro _ hS) | ((with_reducible refine L_storeAt 20 ?_); refine L_store (t := 26) hS rfl rfl ?_; refine ⟨_, _, iv true lo, _, _, .head, run_store_cell hS _ _ _ rfl _ _ rfl _ rfl _ _ _ .head size26 rfl rfl ?_ ?_, ?_⟩; (focus (rw [iv_size]; omega)); (focus (exact HP1.out)); clear hS; intro _ hS) | ((with_reducible refine L_storeAt 22 ?_); refine L_store (t := 26) hS rfl rfl ?_; refine ⟨_, _, iv true k, _, _, .head, run_store_cell hS _ _ _ rfl _ _ rfl _ rfl _ _ _ .head size26 rfl rfl ?_ ?_, ?_⟩; (focus (rw [iv_size]; omega)); (focus (exact HP2.out)); clear hS; intro _ hS) | ((with_reducible refine L_slot 23 ?_); (refine L_load (t := 29) (o := ⟨some 23, _, _, _, _, _⟩) rfl rfl ?_; refine ⟨_, run_load_row hS _ _ rfl _ rfl _ _ (.inl (.head _)) _ Tryz.underlying29 rfl (size29_iv _ _), ?_⟩)) | ((with_reducible refine L_storeAt 2 ?_); (refine L_store (t := 29) hS rfl rfl ?_; refine ⟨_, _, _, _, _, (.tail .head), run_store_row hS _ _ _ rfl _ rfl _ _ rfl _ (.tail .head) (size29_iv _ _) (iv_sizes _ _ _ _) (oneCells_iv _ _), ?_⟩; clear hS; intro _ hS)))
    (try simp only [Exit.inBlock, Exit.then]); refine bodyPost_ret (res_cell rfl hS _ _ _ _ (.inl (.tail _ (.head _))) rfl _ Tryz.underlying29 rfl (size29_iv _ _)) rfl ⟨?_, hS.below⟩
    rfl
theorem rfromInt_any (z : Int) (h : -9223372036854775808 ≤ z ∧ z ≤ 9223372036854775807) : Gives Tryz.prog 20 #[.int .i64 z] (.agg (ivZ z)) := by
  have e : ivZ z = iv (decide (z < 0)) z.natAbs := rfl
  rw [e]
  have hk : z.natAbs < 18446744073709551616 := by omega
  refine rfromInt_core _ z z.natAbs (z.natAbs % 4294967296) (z.natAbs / 4294967296) (IntKind.u64.wrap z) rfl rfl (fun hs => ?_) (fun hs => ?_) hk ?_ ?_ (by omega) (by omega) ?_ ?_
  · have : z < 0 := of_decide_eq_true hs
    rw [IntKind.wrap_u64, IntKind.wrap_u64]; omega
  · have : ¬ z < 0 := of_decide_eq_false hs
    rw [IntKind.wrap_u64]; omega
  · rw [IntKind.wrap_u32]; omega
  · omega
  · have := iv_put (decide (z < 0)) (m := 0) (k := 0) (v := z.natAbs % 4294967296) (by omega) (pw_pos 0) (by omega)
    rw [pw_zero, Nat.zero_add, Nat.mul_one] at this
    exact this
  · have := iv_put (decide (z < 0)) (m := z.natAbs % 4294967296) (k := 1) (v := z.natAbs / 4294967296) (by omega) (by rw [pw_one]; omega) (by omega)
    rw [pw_one, show z.natAbs % 4294967296 + z.natAbs / 4294967296 * 4294967296 = z.natAbs by omega] at this
    exact this
end Go.Proofs.YtfdlgeomaballaaGreat
