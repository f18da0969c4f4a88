/- The walks of the document's own answers: Cmp, Abs. -/
import Derived.Test.YtfdlgeomaballaaGreatRf
namespace Go.Proofs.YtfdlgeomaballaaGreat
open Go.RowKit
set_option linter.unusedVariables false

theorem cmpZ_of_less {x y : Int} (h : sgn x < sgn y) : cmpZ x y = -1 := cmpZ_lt (by unfold sgn at h; split at h <;> split at h <;> (try split at h) <;> (try split at h) <;> omega)
theorem cmpZ_of_more {x y : Int} (h : sgn y < sgn x) : cmpZ x y = 1 := cmpZ_gt (by unfold sgn at h; split at h <;> split at h <;> (try split at h) <;> (try split at h) <;> omega)
theorem cmpZ_of_same {x y : Int} (h : sgn x = sgn y) : sgn x * cmpv x.natAbs y.natAbs = cmpZ x y := by
  unfold sgn at h ⊢
  unfold cmpv cmpZ
  split at h <;> split at h <;> (try split at h) <;> (try split at h) <;> (try omega)
  all_goals
    simp only [*, if_true, if_false]
    repeat' split
    all_goals omega
set_option maxRecDepth 10000 in
set_option maxHeartbeats 1000000 in
theorem rcmp_core (s t : Bool) (n m : Nat) (p q o z : Int) (G1 : Gives Tryz.prog 15 #[.agg (iv s n)] (.int .i64 p)) (G2 : Gives Tryz.prog 15 #[.agg (iv t m)] (.int .i64 q)) (G3 : Gives Tryz.prog 78 #[.agg (mgk 32 n), .agg (mgk 32 m)] (.int .i64 o))
    (h : (p < q ∧ z = -1) ∨ (q < p ∧ z = 1) ∨ (p = q ∧ p * o = z ∧ -1 ≤ z ∧ z ≤ 1)) : Gives Tryz.prog 82 #[.agg (iv s n), .agg (iv t m)] (.int .i64 z) := by
  intro w
  have hS := St.start w
  rcases h with ⟨h1, rfl⟩ | ⟨h1, rfl⟩ | ⟨rfl, h1, h2⟩
  · go_enter Tryz.func82, Tryz.ntmps82
    go_wp2_with (first | ((with_reducible refine L_box? ?_); (refine L_box_agg hS rfl rfl ?_; refine ⟨_, rfl, ?_⟩; clear hS; intro _ _ hS)))
    (try simp only [Act.put]); (try simp only [List.setIfInBounds_toArray, List.set_cons_succ, List.set_cons_zero]); refine wp_region_w0 hS (by kernel_rfl) (by kernel_rfl) ?_
    ((with_reducible refine S_slot 7 ?_); (refine S_load (t := 29) (o := ⟨some 7, _, _, _, _, _⟩) rfl rfl rfl rfl ?_; refine ⟨_, fun _ hS' => run_load_row hS' _ _ rfl _ rfl _ _ (.inl (.tail _ (.head _))) _ Tryz.underlying29 rfl (size29_iv _ _), ?_⟩; simp only [Act.put, List.setIfInBounds_toArray, List.set_cons_succ, List.set_cons_zero]))
    (refine S_call 15 rfl rfl rfl rfl ?_; apply Exists.intro; refine ⟨fun _ => ?_, ?_⟩; (focus (go_simp; exact rfl)); apply Exists.intro; (with_reducible refine ⟨G1, ?_⟩); simp only [Act.put, List.setIfInBounds_toArray, List.set_cons_succ, List.set_cons_zero])
    ((with_reducible refine S_slot 9 ?_); (refine S_load (t := 29) (o := ⟨some 9, _, _, _, _, _⟩) rfl rfl rfl rfl ?_; refine ⟨_, fun _ hS' => run_load_row hS' _ _ rfl _ rfl _ _ (.inl (.head _)) _ Tryz.underlying29 rfl (size29_iv _ _), ?_⟩; simp only [Act.put, List.setIfInBounds_toArray, List.set_cons_succ, List.set_cons_zero]))
    (refine S_call 15 rfl rfl rfl rfl ?_; apply Exists.intro; refine ⟨fun _ => ?_, ?_⟩; (focus (go_simp; exact rfl)); apply Exists.intro; (with_reducible refine ⟨G2, ?_⟩); simp only [Act.put, List.setIfInBounds_toArray, List.set_cons_succ, List.set_cons_zero])
    (refine S_run rfl rfl ?_; apply Exists.intro; refine ⟨fun _ => ?_, ?_⟩; (focus (go_simp; (try go_bits); exact rfl)); simp only [Act.put, List.setIfInBounds_toArray, List.set_cons_succ, List.set_cons_zero])
    (refine S_run rfl rfl ?_; apply Exists.intro; refine ⟨fun _ => ?_, ?_⟩; (focus (go_simp; (try go_bits); exact rfl)); simp only [Act.put, List.setIfInBounds_toArray, List.set_cons_succ, List.set_cons_zero])
    refine S_end0 ?_; clear hS; intro _ hS
    go_wp2
    go_ret
    exact ⟨rfl, hS.below⟩
  · have h2 : ¬ p < q := by omega
    go_enter Tryz.func82, Tryz.ntmps82
    go_wp2_with (first | ((with_reducible refine L_box? ?_); (refine L_box_agg hS rfl rfl ?_; refine ⟨_, rfl, ?_⟩; clear hS; intro _ _ hS)))
    (try simp only [Act.put]); (try simp only [List.setIfInBounds_toArray, List.set_cons_succ, List.set_cons_zero]); refine wp_region_w0 hS (by kernel_rfl) (by kernel_rfl) ?_
    ((with_reducible refine S_slot 7 ?_); (refine S_load (t := 29) (o := ⟨some 7, _, _, _, _, _⟩) rfl rfl rfl rfl ?_; refine ⟨_, fun _ hS' => run_load_row hS' _ _ rfl _ rfl _ _ (.inl (.tail _ (.head _))) _ Tryz.underlying29 rfl (size29_iv _ _), ?_⟩; simp only [Act.put, List.setIfInBounds_toArray, List.set_cons_succ, List.set_cons_zero]))
    (refine S_call 15 rfl rfl rfl rfl ?_; apply Exists.intro; refine ⟨fun _ => ?_, ?_⟩; (focus (go_simp; exact rfl)); apply Exists.intro; (with_reducible refine ⟨G1, ?_⟩); simp only [Act.put, List.setIfInBounds_toArray, List.set_cons_succ, List.set_cons_zero])
    ((with_reducible refine S_slot 9 ?_); (refine S_load (t := 29) (o := ⟨some 9, _, _, _, _, _⟩) rfl rfl rfl rfl ?_; refine ⟨_, fun _ hS' => run_load_row hS' _ _ rfl _ rfl _ _ (.inl (.head _)) _ Tryz.underlying29 rfl (size29_iv _ _), ?_⟩; simp only [Act.put, List.setIfInBounds_toArray, List.set_cons_succ, List.set_cons_zero]))
    (refine S_call 15 rfl rfl rfl rfl ?_; apply Exists.intro; refine ⟨fun _ => ?_, ?_⟩; (focus (go_simp; exact rfl)); apply Exists.intro; (with_reducible refine ⟨G2, ?_⟩); simp only [Act.put, List.setIfInBounds_toArray, List.set_cons_succ, List.set_cons_zero])
    (refine S_run rfl rfl ?_; apply Exists.intro; refine ⟨fun _ => ?_, ?_⟩; (focus (go_simp; (try go_bits); exact rfl)); simp only [Act.put, List.setIfInBounds_toArray, List.set_cons_succ, List.set_cons_zero])
    (refine S_run rfl rfl ?_; apply Exists.intro; refine ⟨fun _ => ?_, ?_⟩; (focus (go_simp; (try go_bits); exact rfl)); simp only [Act.put, List.setIfInBounds_toArray, List.set_cons_succ, List.set_cons_zero])
    refine S_end0 ?_; clear hS; intro _ hS
    go_wp2
    go_ret
    exact ⟨rfl, hS.below⟩
  · have h3 : ¬ p < p := by omega
    go_enter Tryz.func82, Tryz.ntmps82
    go_wp2_with (first | ((with_reducible refine L_box? ?_); (refine L_box_agg hS rfl rfl ?_; refine ⟨_, rfl, ?_⟩; clear hS; intro _ _ hS)))
    (try simp only [Act.put]); (try simp only [List.setIfInBounds_toArray, List.set_cons_succ, List.set_cons_zero]); refine wp_region_w0 hS (by kernel_rfl) (by kernel_rfl) ?_
    ((with_reducible refine S_slot 7 ?_); (refine S_load (t := 29) (o := ⟨some 7, _, _, _, _, _⟩) rfl rfl rfl rfl ?_; refine ⟨_, fun _ hS' => run_load_row hS' _ _ rfl _ rfl _ _ (.inl (.tail _ (.head _))) _ Tryz.underlying29 rfl (size29_iv _ _), ?_⟩; simp only [Act.put, List.setIfInBounds_toArray, List.set_cons_succ, List.set_cons_zero]))
    (refine S_call 15 rfl rfl rfl rfl ?_; apply Exists.intro; refine ⟨fun _ => ?_, ?_⟩; (focus (go_simp; exact rfl)); apply Exists.intro; (with_reducible refine ⟨G1, ?_⟩); simp only [Act.put, List.setIfInBounds_toArray, List.set_cons_succ, List.set_cons_zero])
    ((with_reducible refine S_slot 9 ?_); (refine S_load (t := 29) (o := ⟨some 9, _, _, _, _, _⟩) rfl rfl rfl rfl ?_; refine ⟨_, fun _ hS' => run_load_row hS' _ _ rfl _ rfl _ _ (.inl (.head _)) _ Tryz.underlying29 rfl (size29_iv _ _), ?_⟩; simp only [Act.put, List.setIfInBounds_toArray, List.set_cons_succ, List.set_cons_zero]))
    (refine S_call 15 rfl rfl rfl rfl ?_; apply Exists.intro; refine ⟨fun _ => ?_, ?_⟩; (focus (go_simp; exact rfl)); apply Exists.intro; (with_reducible refine ⟨G2, ?_⟩); simp only [Act.put, List.setIfInBounds_toArray, List.set_cons_succ, List.set_cons_zero])
    (refine S_run rfl rfl ?_; apply Exists.intro; refine ⟨fun _ => ?_, ?_⟩; (focus (go_simp; (try go_bits); exact rfl)); simp only [Act.put, List.setIfInBounds_toArray, List.set_cons_succ, List.set_cons_zero])
    (refine S_run rfl rfl ?_; apply Exists.intro; refine ⟨fun _ => ?_, ?_⟩; (focus (go_simp; (try go_bits); exact rfl)); simp only [Act.put, List.setIfInBounds_toArray, List.set_cons_succ, List.set_cons_zero])
    refine S_end0 ?_; clear hS; intro _ hS
    go_wp2_with (first | ((with_reducible refine L_slot 21 ?_); (refine L_load (t := 27) rfl rfl ?_; refine ⟨_, run_load_mid hS _ _ rfl _ _ rfl _ _ (.inl (.tail _ (.head _))) _ Tryz.underlying27 rfl (mgk 32 _) (size27_mg _) (fun k _ => iv_mag _ _ k), ?_⟩)) | ((with_reducible refine L_slot 23 ?_); (refine L_load (t := 27) rfl rfl ?_; refine ⟨_, run_load_mid hS _ _ rfl _ _ rfl _ _ (.inl (.head _)) _ Tryz.underlying27 rfl (mgk 32 _) (size27_mg _) (fun k _ => iv_mag _ _ k), ?_⟩)) | (go_at_call 78; (with_reducible refine Gives.use (G3) hS ?_); clear hS; intro _ hS))
    go_ret
    exact ⟨rfl, hS.below⟩
theorem rcmp_any (s t : Bool) (n m : Nat) (hn : n < pw 32) (hm : m < pw 32) : Gives Tryz.prog 82 #[.agg (iv s n), .agg (iv t m)] (.int .i64 (cmpZ (vz s n) (vz t m))) := by
  refine rcmp_core s t n m _ _ _ _ (rsign_any s n hn) (rsign_any t m hm) (rcompare n m hn hm) ?_
  rcases Int.lt_trichotomy (sgn (vz s n)) (sgn (vz t m)) with h | h | h
  · exact .inl ⟨h, cmpZ_of_less h⟩
  · refine .inr (.inr ⟨h, ?_, ?_⟩)
    · have := cmpZ_of_same h
      rwa [vz_abs, vz_abs] at this
    · unfold cmpZ; split <;> (try split) <;> omega
  · exact .inr (.inl ⟨h, cmpZ_of_more h⟩)
end Go.Proofs.YtfdlgeomaballaaGreat
