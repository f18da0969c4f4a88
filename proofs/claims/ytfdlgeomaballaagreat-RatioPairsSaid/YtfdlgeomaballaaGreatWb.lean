/- The walks of the functions on numbers with a sign: the sum, the difference, the order. -/
import Derived.Test.YtfdlgeomaballaaGreatWa
namespace Go.Proofs.YtfdlgeomaballaaGreat
open Go.RowKit
set_option maxHeartbeats 400000 in
theorem signed_any (s : Bool) (n : Nat) (hn : n < pw 32) : Gives Tryz.prog 68 #[.bool s, .agg (mgk 32 n)] (.agg (ivZ (vz s n))) := by
  intro w
  have hS := St.start w
  have HN := Lib.hid hn
  clear hn
  rw [ivZ_vz]
  cases s
  all_goals
    go_enter Tryz.func68, Tryz.ntmps68
    go_wp2_with (first | (refine L_box_agg hS rfl rfl ?_; refine ⟨_, rfl, ?_⟩; clear hS; intro _ _ hS) | (refine L_alloc_agg hS rfl rfl ?_; refine ⟨_, zero29, ?_⟩; clear hS; intro _ _ hS))
    rename_i b3 _ b4 w1 _ _
  · refine wp_region_w1 hS 8 [] [(b4, .cells (iv (false && !isz n) n) 29), (b3, .cells (mgk 32 n) 74)] (by kernel_rfl) (by kernel_rfl) ?_
    repeat (first
      | (refine S_load (t := 74) rfl rfl rfl rfl ?_; refine ⟨_, fun _ hS' => run_load_row hS' _ _ rfl _ rfl _ _ (.inl (.tail _ (.head _))) _ Tryz.underlying74 rfl (size74_mg _), ?_⟩; simp only [Act.put, List.setIfInBounds_toArray, List.set_cons_succ, List.set_cons_zero])
      | (refine S_store (t := 29) rfl rfl rfl ?_; refine ⟨_, _, _, _, (.head), fun _ hS' => run_store_row hS' _ _ _ rfl _ rfl _ _ rfl _ (.head) (size29_iv _ _) (iv_sizes _ _ _ _) (oneCells_iv _ _), ?_⟩; simp only [Act.put])
      | (refine S_build rfl rfl rfl ?_; refine ⟨_, built29_iv _ _, ?_⟩; simp only [Act.put, List.setIfInBounds_toArray, List.set_cons_succ, List.set_cons_zero])
      | (refine S_run rfl rfl ?_; apply Exists.intro; refine ⟨fun _ => ?_, ?_⟩; (focus (go_simp; (try go_bits); exact rfl)); simp only [Act.put, List.setIfInBounds_toArray, List.set_cons_succ, List.set_cons_zero])
      | (refine S_skip rfl rfl ?_; simp only [Act.put, List.setIfInBounds_toArray, List.set_cons_succ, List.set_cons_zero]))
    refine S_nil ?_
    intro wn hS
    go_wp2
    (try simp only [Exit.inBlock, Exit.then]); refine bodyPost_ret (res_cell rfl hS _ _ _ _ (.inl (.head _)) rfl _ Tryz.underlying29 rfl (size29_iv _ _)) rfl ⟨?_, hS.below⟩
    rfl
  · refine wp_region_w1 hS 8 [] [(b4, .cells (iv (true && !isz n) n) 29), (b3, .cells (mgk 32 n) 74)] (by kernel_rfl) (by kernel_rfl) ?_
    repeat (first
      | (refine S_load (t := 74) rfl rfl rfl rfl ?_; refine ⟨_, fun _ hS' => run_load_row hS' _ _ rfl _ rfl _ _ (.inl (.tail _ (.head _))) _ Tryz.underlying74 rfl (size74_mg _), ?_⟩; simp only [Act.put, List.setIfInBounds_toArray, List.set_cons_succ, List.set_cons_zero])
      | (refine S_call 65 rfl rfl rfl rfl ?_; apply Exists.intro; refine ⟨fun _ => ?_, ?_⟩; (focus (go_simp; exact rfl)); apply Exists.intro; (with_reducible refine ⟨isZero _ HN.out, ?_⟩); simp only [Act.put, List.setIfInBounds_toArray, List.set_cons_succ, List.set_cons_zero])
      | (refine S_store (t := 29) rfl rfl rfl ?_; refine ⟨_, _, _, _, (.head), fun _ hS' => run_store_row hS' _ _ _ rfl _ rfl _ _ rfl _ (.head) (size29_iv _ _) (iv_sizes _ _ _ _) (oneCells_iv _ _), ?_⟩; simp only [Act.put])
      | (refine S_build rfl rfl rfl ?_; refine ⟨_, built29_iv _ _, ?_⟩; simp only [Act.put, List.setIfInBounds_toArray, List.set_cons_succ, List.set_cons_zero])
      | (refine S_run rfl rfl ?_; apply Exists.intro; refine ⟨fun _ => ?_, ?_⟩; (focus (go_simp; (try go_bits); exact rfl)); simp only [Act.put, List.setIfInBounds_toArray, List.set_cons_succ, List.set_cons_zero])
      | (refine S_skip rfl rfl ?_; simp only [Act.put, List.setIfInBounds_toArray, List.set_cons_succ, List.set_cons_zero]))
    refine S_nil ?_
    intro wn hS
    go_wp2
    (try simp only [Exit.inBlock, Exit.then]); refine bodyPost_ret (res_cell rfl hS _ _ _ _ (.inl (.head _)) rfl _ Tryz.underlying29 rfl (size29_iv _ _)) rfl ⟨?_, hS.below⟩
    rfl

/-- A magnitude with a sign, if it fits. -/
def chk (s : Bool) (n : Nat) (fits : Bool) : Value := if fits then .tuple #[.agg (ivZ (vz s n)), .int .i64 0] else .tuple #[.agg (ivZ 0), .int .i64 10]
set_option maxHeartbeats 400000 in
theorem checked_any (s : Bool) (n : Nat) (hn : n < pw 32) (fits : Bool) : Gives Tryz.prog 93 #[.bool s, .agg (mgk 32 n), .bool fits] (chk s n fits) := by
  intro w
  have hS := St.start w
  have HN := Lib.hid hn
  clear hn
  cases fits
  · go_enter Tryz.func93, Tryz.ntmps93
    go_wp2_with (first | (refine L_box_agg hS rfl rfl ?_; refine ⟨_, rfl, ?_⟩; clear hS; intro _ _ hS) | (refine L_alloc_agg hS rfl rfl ?_; refine ⟨_, zero29, ?_⟩; clear hS; intro _ _ hS) | (refine L_build rfl rfl ?_; refine ⟨_, built29, ?_⟩) | (refine L_store (t := 29) hS rfl rfl ?_; refine ⟨_, _, _, _, _, (.head), run_store_row hS _ _ _ rfl _ rfl _ _ rfl _ (.head) (size29_iv _ _) (iv_sizes _ _ _ _) (oneCells_iv _ _), ?_⟩; clear hS; intro _ hS))
    (try simp only [Exit.inBlock, Exit.then]); refine bodyPost_ret (res_cell_tmp rfl _ _ _ (run_loadRow hS _ _ _ _ (.inl (.head _)) _ Tryz.underlying29 rfl (size29_iv _ _)) rfl _ rfl) rfl ⟨?_, hS.below⟩
    rw [← ivZ_zero]; rfl
  · go_enter Tryz.func93, Tryz.ntmps93
    go_wp2_with (first | (refine L_box_agg hS rfl rfl ?_; refine ⟨_, rfl, ?_⟩; clear hS; intro _ _ hS) | (refine L_alloc_agg hS rfl rfl ?_; refine ⟨_, zero29, ?_⟩; clear hS; intro _ _ hS) | (refine L_load (t := 74) rfl rfl ?_; refine ⟨_, run_load_row hS _ _ rfl _ rfl _ _ (.inl (.tail _ (.head _))) _ Tryz.underlying74 rfl (size74_mg _), ?_⟩) | (go_at_call 68; (with_reducible refine Gives.use (signed_any _ _ HN.out) hS ?_); clear hS; intro _ hS) | (refine L_store (t := 29) hS rfl rfl ?_; refine ⟨_, _, _, _, _, (.head), run_store_row hS _ _ _ rfl _ rfl _ _ rfl _ (.head) (size29_iv _ _) (iv_sizes _ _ _ _) (oneCells_iv _ _), ?_⟩; clear hS; intro _ hS))
    (try simp only [Exit.inBlock, Exit.then]); refine bodyPost_ret (res_cell_tmp rfl _ _ _ (run_loadRow hS _ _ _ _ (.inl (.head _)) _ Tryz.underlying29 rfl (size29_iv _ _)) rfl _ rfl) rfl ⟨?_, hS.below⟩
    rfl

/-- The sign of a number. -/
def sgn (z : Int) : Int := if z < 0 then -1 else if z = 0 then 0 else 1
theorem sgn_vz_zero (s : Bool) : sgn (vz s 0) = 0 := by cases s <;> rfl
theorem sgn_vz_true {n : Nat} (h : n ≠ 0) : sgn (vz true n) = -1 := by unfold sgn; rw [if_pos (by unfold vz; simp; omega)]
theorem sgn_vz_false {n : Nat} (h : n ≠ 0) : sgn (vz false n) = 1 := by unfold sgn; rw [if_neg (by unfold vz; simp), if_neg (by unfold vz; simp; omega)]
set_option maxHeartbeats 400000 in
theorem sign_any (s : Bool) (n : Nat) (hn : n < pw 32) : Gives Tryz.prog 37 #[.agg (iv s n)] (.int .i64 (sgn (vz s n))) := by
  intro w
  have hS := St.start w
  have HN := Lib.hid hn
  clear hn
  by_cases h0 : n = 0
  · have hz := isz_true h0
    have HV : Hid (sgn (vz s n) = 0) := by subst h0; exact sgn_vz_zero s
    clear h0
    go_enter Tryz.func37, Tryz.ntmps37
    go_wp2_with (first | (refine L_box_agg hS rfl rfl ?_; refine ⟨_, rfl, ?_⟩; clear hS; intro _ _ hS) | (refine L_load (t := 27) rfl rfl ?_; refine ⟨_, run_load_mid hS _ _ rfl _ _ rfl _ _ (.inl (.head _)) _ Tryz.underlying27 rfl (mgk 32 _) (size27_mg _) (fun k _ => iv_mag _ _ k), ?_⟩) | (go_at_call 65; (with_reducible refine Gives.use (isZero _ HN.out) hS ?_); clear hS; intro _ hS))
    go_ret
    exact ⟨by rw [HV.out]; rfl, hS.below⟩
  · have hz := isz_false h0
    cases s
    · have HV := Lib.hid (sgn_vz_false h0)
      clear h0
      go_enter Tryz.func37, Tryz.ntmps37
      go_wp2_with (first | (refine L_box_agg hS rfl rfl ?_; refine ⟨_, rfl, ?_⟩; clear hS; intro _ _ hS) | (refine L_load (t := 27) rfl rfl ?_; refine ⟨_, run_load_mid hS _ _ rfl _ _ rfl _ _ (.inl (.head _)) _ Tryz.underlying27 rfl (mgk 32 _) (size27_mg _) (fun k _ => iv_mag _ _ k), ?_⟩) | (refine L_load (t := 4) rfl rfl ?_; refine ⟨_, run_load_cell hS _ _ rfl _ _ rfl _ _ (.inl (.head _)) _ Tryz.underlying4 rfl _ (iv_neg _ _), ?_⟩) | (go_at_call 65; (with_reducible refine Gives.use (isZero _ HN.out) hS ?_); clear hS; intro _ hS))
      go_ret
      exact ⟨by rw [HV.out]; rfl, hS.below⟩
    · have HV := Lib.hid (sgn_vz_true h0)
      clear h0
      go_enter Tryz.func37, Tryz.ntmps37
      go_wp2_with (first | (refine L_box_agg hS rfl rfl ?_; refine ⟨_, rfl, ?_⟩; clear hS; intro _ _ hS) | (refine L_load (t := 27) rfl rfl ?_; refine ⟨_, run_load_mid hS _ _ rfl _ _ rfl _ _ (.inl (.head _)) _ Tryz.underlying27 rfl (mgk 32 _) (size27_mg _) (fun k _ => iv_mag _ _ k), ?_⟩) | (refine L_load (t := 4) rfl rfl ?_; refine ⟨_, run_load_cell hS _ _ rfl _ _ rfl _ _ (.inl (.head _)) _ Tryz.underlying4 rfl _ (iv_neg _ _), ?_⟩) | (go_at_call 65; (with_reducible refine Gives.use (isZero _ HN.out) hS ?_); clear hS; intro _ hS))
      go_ret
      exact ⟨by rw [HV.out]; rfl, hS.below⟩

theorem vz_not (s : Bool) (n : Nat) : vz (!s) n = -vz s n := by cases s <;> simp [vz]
set_option maxHeartbeats 400000 in
theorem neg_any (s : Bool) (n : Nat) (hn : n < pw 32) : Gives Tryz.prog 41 #[.agg (iv s n)] (.agg (ivZ (-vz s n))) := by
  intro w
  have hS := St.start w
  have HN := Lib.hid hn
  clear hn
  rw [← vz_not]
  go_enter Tryz.func41, Tryz.ntmps41
  go_wp2_with (first | (refine L_box_agg hS rfl rfl ?_; refine ⟨_, rfl, ?_⟩; clear hS; intro _ _ hS) | (refine L_alloc_agg hS rfl rfl ?_; refine ⟨_, zero29, ?_⟩; clear hS; intro _ _ hS) | (refine L_load (t := 27) rfl rfl ?_; refine ⟨_, run_load_mid hS _ _ rfl _ _ rfl _ _ (.inl (.tail _ (.head _))) _ Tryz.underlying27 rfl (mgk 32 _) (size27_mg _) (fun k _ => iv_mag _ _ k), ?_⟩) | (refine L_load (t := 4) rfl rfl ?_; refine ⟨_, run_load_cell hS _ _ rfl _ _ rfl _ _ (.inl (.tail _ (.head _))) _ Tryz.underlying4 rfl _ (iv_neg _ _), ?_⟩) | (go_at_call 68; (with_reducible refine Gives.use (signed_any _ _ HN.out) hS ?_); clear hS; intro _ hS) | (refine L_store (t := 29) hS rfl rfl ?_; refine ⟨_, _, _, _, _, (.head), run_store_row hS _ _ _ rfl _ rfl _ _ rfl _ (.head) (size29_iv _ _) (iv_sizes _ _ _ _) (oneCells_iv _ _), ?_⟩; clear hS; intro _ hS))
  (try simp only [Exit.inBlock, Exit.then]); refine bodyPost_ret (res_cell rfl hS _ _ _ _ (.inl (.head _)) rfl _ Tryz.underlying29 rfl (size29_iv _ _)) rfl ⟨?_, hS.below⟩
  rfl
end Go.Proofs.YtfdlgeomaballaaGreat
