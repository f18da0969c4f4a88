/- The walks of the document's own answers: Neg, Sub, Cmp. -/
import Derived.Test.YtfdlgeomaballaaRd
import Derived.Test.YtfdlgeomaballaaGd
namespace Go.Proofs.Ytfdlgeomaballaa
open Go.RowKit
set_option linter.unusedVariables false

set_option maxHeartbeats 400000 in
theorem rneg_any (s : Bool) (n : Nat) (hn : n < pw 32) : Gives Try.prog 29 #[.agg (iv s n)] (.agg (ivZ (-vz s n))) := by
  intro w
  have hS := St.start w
  have HN := Lib.hid hn
  have GC := rcanon (!s) n hn
  clear hn
  rw [← vz_not]
  go_enter Try.func29, Try.ntmps29
  go_wp2_with (first | ((with_reducible refine L_box? ?_); (refine L_box_agg hS rfl rfl ?_; refine ⟨_, rfl, ?_⟩; clear hS; intro _ _ hS)) | ((with_reducible refine L_alloc? ?_); (refine L_alloc_agg hS rfl rfl ?_; refine ⟨_, zero25, ?_⟩; clear hS; intro _ _ hS)) | ((with_reducible refine L_slot 7 ?_); (refine L_load (t := 23) rfl rfl ?_; refine ⟨_, run_load_mid hS _ _ rfl _ _ rfl _ _ (.inl (.tail _ (.head _))) _ Try.underlying23 rfl (mgk 32 _) (size23_mg _) (fun k _ => iv_mag _ _ k), ?_⟩)) | ((with_reducible refine L_slot 4 ?_); (refine L_load (t := 4) rfl rfl ?_; refine ⟨_, run_load_cell hS _ _ rfl _ _ rfl _ _ (.inl (.tail _ (.head _))) _ Try.underlying4 rfl _ (iv_neg _ _), ?_⟩)) | (go_at_call 82; (with_reducible refine Gives.use (GC) hS ?_); clear hS; intro _ hS) | ((with_reducible refine L_store? ?_); (refine L_store (t := 25) hS rfl rfl ?_; refine ⟨_, _, _, _, _, (.head), run_store_row hS _ _ _ rfl _ rfl _ _ rfl _ (.head) (size25_iv _ _) (iv_sizes _ _ _ _) (oneCells_iv _ _), ?_⟩; clear hS; intro _ hS)))
  (try simp only [Exit.inBlock, Exit.then]); refine bodyPost_ret (res_cell rfl hS _ _ _ _ (.inl (.head _)) rfl _ Try.underlying25 rfl (size25_iv _ _)) rfl ⟨?_, hS.below⟩
  rfl

set_option maxRecDepth 100000 in
set_option maxHeartbeats 1000000 in
theorem rsub_core (s t : Bool) (n m : Nat) (z : Int) (v : Value) (cs : Array Value) (e : Int) (hv : v = .tuple #[.agg (ivZ z), .int .i64 e]) (G1 : Gives Try.prog 29 #[.agg (iv t m)] (.agg (ivZ (-vz t m)))) (G2 : Gives Try.prog 14 #[.agg (iv s n), .agg (ivZ (-vz t m))] v) :
    Gives Try.prog 16 #[.agg (iv s n), .agg (iv t m)] v := by
  subst hv
  intro w
  have hS := St.start w
  generalize -vz t m = y at *
  go_enter Try.func16, Try.ntmps16
  go_wp2_with (first | ((with_reducible refine L_box? ?_); (refine L_box_agg hS rfl rfl ?_; refine ⟨_, rfl, ?_⟩; clear hS; intro _ _ hS)) | ((with_reducible refine L_alloc? ?_); (refine L_alloc_agg hS rfl rfl ?_; refine ⟨_, zero25, ?_⟩; clear hS; intro _ _ hS)))
  (try simp only [Act.put]); (try simp only [List.setIfInBounds_toArray, List.set_cons_succ, List.set_cons_zero]); refine wp_region_u1 hS 6 [7] (.head (o' := .cells (ivZ z) 25)) (by kernel_rfl) (by kernel_rfl) ?_
  ((with_reducible refine S_slot 6 ?_); (refine S_load (t := 25) (o := ⟨some 6, _, _, _, _, _⟩) rfl rfl rfl rfl ?_; refine ⟨_, fun _ hS' => run_load_row hS' _ _ rfl _ rfl _ _ (.inl (.tail _ (.tail _ (.head _)))) _ Try.underlying25 rfl (size25_iv _ _), ?_⟩; simp only [Act.put, List.setIfInBounds_toArray, List.set_cons_succ, List.set_cons_zero]))
  ((with_reducible refine S_slot 7 ?_); (refine S_load (t := 25) (o := ⟨some 7, _, _, _, _, _⟩) rfl rfl rfl rfl ?_; refine ⟨_, fun _ hS' => run_load_row hS' _ _ rfl _ rfl _ _ (.inl (.tail _ (.head _))) _ Try.underlying25 rfl (size25_iv _ _), ?_⟩; simp only [Act.put, List.setIfInBounds_toArray, List.set_cons_succ, List.set_cons_zero]))
  (refine S_call 29 rfl rfl rfl rfl ?_; apply Exists.intro; refine ⟨fun _ => ?_, ?_⟩; (focus (go_simp; exact rfl)); apply Exists.intro; (with_reducible refine ⟨G1, ?_⟩); simp only [Act.put, List.setIfInBounds_toArray, List.set_cons_succ, List.set_cons_zero])
  (refine S_call 14 rfl rfl rfl rfl ?_; apply Exists.intro; refine ⟨fun _ => ?_, ?_⟩; (focus (go_simp; exact rfl)); apply Exists.intro; (with_reducible refine ⟨G2, ?_⟩); simp only [Act.put, List.setIfInBounds_toArray, List.set_cons_succ, List.set_cons_zero])
  (refine S_run rfl rfl ?_; apply Exists.intro; refine ⟨fun _ => ?_, ?_⟩; (focus (go_simp; (try go_bits); exact rfl)); simp only [Act.put, List.setIfInBounds_toArray, List.set_cons_succ, List.set_cons_zero])
  (refine S_run rfl rfl ?_; apply Exists.intro; refine ⟨fun _ => ?_, ?_⟩; (focus (go_simp; (try go_bits); exact rfl)); simp only [Act.put, List.setIfInBounds_toArray, List.set_cons_succ, List.set_cons_zero])
  (refine S_store (t := 25) rfl rfl rfl ?_; refine ⟨_, _, _, _, (.head), fun _ hS' => run_store_row hS' _ _ _ rfl _ rfl _ _ rfl _ (.head) (size25_Z _) (ivz_sizes _ _ _) (oneCells_Z _), ?_⟩; simp only [Act.put])
  (refine S_run rfl rfl ?_; apply Exists.intro; refine ⟨fun _ => ?_, ?_⟩; (focus (go_simp; (try go_bits); exact rfl)); simp only [Act.put, List.setIfInBounds_toArray, List.set_cons_succ, List.set_cons_zero])
  refine S_nil ?_
  intro wn hS
  go_wp2
  (try simp only [Exit.inBlock, Exit.then]); refine bodyPost_ret (res_cell_tmp rfl _ _ _ (run_loadRow hS _ _ _ _ (.inl (.head _)) _ Try.underlying25 rfl (size25_Z _)) rfl _ rfl) rfl ⟨?_, hS.below⟩
  rfl
theorem rsub_any (s t : Bool) (n m : Nat) (hn : n < pw 32) (hm : m < pw 32) : Gives Try.prog 16 #[.agg (iv s n), .agg (iv t m)] (resZ (vz s n - vz t m)) := by
  have e : ivZ (-vz t m) = iv (decide (-vz t m < 0)) m := by
    unfold ivZ; rw [Int.natAbs_neg, vz_abs]
  have h2 : vz (decide (-vz t m < 0)) m = -vz t m := by
    have := vz_self (-vz t m)
    rwa [Int.natAbs_neg, vz_abs] at this
  have G2 := radd_any s (decide (-vz t m < 0)) n m hn hm
  rw [h2, ← e, ← Int.sub_eq_add_neg] at G2
  by_cases hf : (vz s n - vz t m).natAbs < pw 32
  · exact rsub_core s t n m _ _ #[] 0 (resZ_fits hf) (rneg_any t m hm) G2
  · exact rsub_core s t n m _ _ #[] 10 (resZ_not hf) (rneg_any t m hm) G2
end Go.Proofs.Ytfdlgeomaballaa
