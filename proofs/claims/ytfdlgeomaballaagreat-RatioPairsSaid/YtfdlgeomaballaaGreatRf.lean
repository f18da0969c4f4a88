/- The walks of the document's own answers: Neg, Sub, Cmp. -/
import Derived.Test.YtfdlgeomaballaaGreatRd
import Derived.Test.YtfdlgeomaballaaGreatGd
namespace Go.Proofs.YtfdlgeomaballaaGreat
open Go.RowKit
set_option linter.unusedVariables false

set_option maxHeartbeats 400000 in
theorem rneg_any (s : Bool) (n : Nat) (hn : n < pw 32) : Gives Tryz.prog 51 #[.agg (iv s n)] (.agg (ivZ (-vz s n))) := by
  intro w
  have hS := St.start w
  have HN := Lib.hid hn
  have GC := rcanon (!s) n hn
  clear hn
  rw [← vz_not]
  go_enter Tryz.func51, Tryz.ntmps51
  go_wp2_with (first | ((with_reducible refine L_box? ?_); (refine L_box_agg hS rfl rfl ?_; refine ⟨_, rfl, ?_⟩; clear hS; intro _ _ hS)) | ((with_reducible refine L_alloc? ?_); (refine L_alloc_agg hS rfl rfl ?_; refine ⟨_, zero29, ?_⟩; clear hS; intro _ _ hS)) | ((with_reducible refine L_slot 7 ?_); (refine L_load (t := 27) rfl rfl ?_; refine ⟨_, run_load_mid hS _ _ rfl _ _ rfl _ _ (.inl (.tail _ (.head _))) _ Tryz.underlying27 rfl (mgk 32 _) (size27_mg _) (fun k _ => iv_mag _ _ k), ?_⟩)) | ((with_reducible refine L_slot 4 ?_); (refine L_load (t := 4) rfl rfl ?_; refine ⟨_, run_load_cell hS _ _ rfl _ _ rfl _ _ (.inl (.tail _ (.head _))) _ Tryz.underlying4 rfl _ (iv_neg _ _), ?_⟩)) | (go_at_call 49; (with_reducible refine Gives.use (GC) hS ?_); clear hS; intro _ hS) | ((with_reducible refine L_store? ?_); (refine L_store (t := 29) hS rfl rfl ?_; refine ⟨_, _, _, _, _, (.head), run_store_row hS _ _ _ rfl _ rfl _ _ rfl _ (.head) (size29_iv _ _) (iv_sizes _ _ _ _) (oneCells_iv _ _), ?_⟩; clear hS; intro _ hS)))
  (try simp only [Exit.inBlock, Exit.then]); refine bodyPost_ret (res_cell rfl hS _ _ _ _ (.inl (.head _)) rfl _ Tryz.underlying29 rfl (size29_iv _ _)) rfl ⟨?_, hS.below⟩
  rfl

end Go.Proofs.YtfdlgeomaballaaGreat
