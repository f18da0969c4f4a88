/- The walks of the document's own answers: Add. -/
import Derived.Test.YtfdlgeomaballaaGreatRc
namespace Go.Proofs.YtfdlgeomaballaaGreat
open Go.RowKit
set_option linter.unusedVariables false

theorem vz_canon (s : Bool) (n : Nat) : vz (s && !isz n) n = vz s n := by
  by_cases h : n = 0
  · subst h; rw [vz_zero, vz_zero]
  · rw [isz_false h]; simp
theorem rcanon' (s s' : Bool) (n : Nat) (hn : n < pw 32) (h : (s && !isz n) = s') : Gives Tryz.prog 49 #[.bool s, .agg (mgk 32 n)] (.agg (iv s' n)) := by
  have := rcanon s n hn
  rwa [ivZ_vz, h] at this
theorem resZ_vz {s : Bool} {n : Nat} (hn : n < pw 32) : resZ (vz s n) = .tuple #[.agg (ivZ (vz s n)), .int .i64 0] := resZ_fits (by rw [vz_abs]; exact hn)

set_option maxRecDepth 100000 in
set_option maxHeartbeats 1000000 in
theorem radd_same (s t u : Bool) (n m : Nat) (hn : n < pw 32) (hm : m < pw 32) (hs : (s && !isz n) = u) (ht : (t && !isz m) = u) : Gives Tryz.prog 58 #[.agg (iv s n), .agg (iv t m)] (resZ (vz u n + vz u m)) := by
  intro w
  have hS := St.start w
  have HN := Lib.hid hn
  have HM := Lib.hid hm
  have HC1 := rcanon' s u n hn hs
  have HC2 := rcanon' t u m hm ht
  have hss : (u == u) = true := by simp
  rw [vz_add_same]
  by_cases hfit : n + m < pw 32
  · have HR : Hid (resZ (vz u (n + m)) = _) := resZ_vz hfit
    have hd := decide_eq_true hfit
    have HL : Hid ((n + m) % pw 32 = n + m) := Nat.mod_eq_of_lt hfit
    clear hn hm hfit hs ht
    go_enter Tryz.func58, Tryz.ntmps58
    go_wp2_with (first | (refine L_box_agg hS rfl rfl ?_; refine ⟨_, rfl, ?_⟩; clear hS; intro _ _ hS) | (refine L_alloc_agg hS rfl rfl ?_; refine ⟨_, zero29, ?_⟩; clear hS; intro _ _ hS))
    (try simp only [Act.put]); (try simp only [List.setIfInBounds_toArray, List.set_cons_succ, List.set_cons_zero]); refine wp_region_u2 hS 10 11 [] (.tail (.tail (.head (o' := .cells (iv u n) 29)))) (.tail (.head (o' := .cells (iv u m) 29))) (by kernel_rfl) (by kernel_rfl) ?_
    (refine S_run rfl rfl ?_; apply Exists.intro; refine ⟨fun _ => ?_, ?_⟩; (focus (go_simp; (try go_bits); exact rfl)); simp only [Act.put, List.setIfInBounds_toArray, List.set_cons_succ, List.set_cons_zero])
    (refine S_load (t := 4) rfl rfl rfl rfl ?_; refine ⟨_, fun _ hS' => run_load_cell hS' _ _ rfl _ _ rfl _ _ (.inl (.tail _ (.tail _ (.head _)))) _ Tryz.underlying4 rfl _ (iv_neg _ _), ?_⟩; simp only [Act.put, List.setIfInBounds_toArray, List.set_cons_succ, List.set_cons_zero])
    (refine S_run rfl rfl ?_; apply Exists.intro; refine ⟨fun _ => ?_, ?_⟩; (focus (go_simp; (try go_bits); exact rfl)); simp only [Act.put, List.setIfInBounds_toArray, List.set_cons_succ, List.set_cons_zero])
    (refine S_load (t := 27) rfl rfl rfl rfl ?_; refine ⟨_, fun _ hS' => run_load_mid hS' _ _ rfl _ _ rfl _ _ (.inl (.tail _ (.tail _ (.head _)))) _ Tryz.underlying27 rfl (mgk 32 _) (size27_mg _) (fun k _ => iv_mag _ _ k), ?_⟩; simp only [Act.put, List.setIfInBounds_toArray, List.set_cons_succ, List.set_cons_zero])
    (refine S_call 49 rfl rfl rfl rfl ?_; apply Exists.intro; refine ⟨fun _ => ?_, ?_⟩; (focus (go_simp; exact rfl)); apply Exists.intro; (with_reducible refine ⟨HC1, ?_⟩); simp only [Act.put, List.setIfInBounds_toArray, List.set_cons_succ, List.set_cons_zero])
    (refine S_run rfl rfl ?_; apply Exists.intro; refine ⟨fun _ => ?_, ?_⟩; (focus (go_simp; (try go_bits); exact rfl)); simp only [Act.put, List.setIfInBounds_toArray, List.set_cons_succ, List.set_cons_zero])
    (refine S_load (t := 4) rfl rfl rfl rfl ?_; refine ⟨_, fun _ hS' => run_load_cell hS' _ _ rfl _ _ rfl _ _ (.inl (.tail _ (.head _))) _ Tryz.underlying4 rfl _ (iv_neg _ _), ?_⟩; simp only [Act.put, List.setIfInBounds_toArray, List.set_cons_succ, List.set_cons_zero])
    (refine S_run rfl rfl ?_; apply Exists.intro; refine ⟨fun _ => ?_, ?_⟩; (focus (go_simp; (try go_bits); exact rfl)); simp only [Act.put, List.setIfInBounds_toArray, List.set_cons_succ, List.set_cons_zero])
    (refine S_load (t := 27) rfl rfl rfl rfl ?_; refine ⟨_, fun _ hS' => run_load_mid hS' _ _ rfl _ _ rfl _ _ (.inl (.tail _ (.head _))) _ Tryz.underlying27 rfl (mgk 32 _) (size27_mg _) (fun k _ => iv_mag _ _ k), ?_⟩; simp only [Act.put, List.setIfInBounds_toArray, List.set_cons_succ, List.set_cons_zero])
    (refine S_call 49 rfl rfl rfl rfl ?_; apply Exists.intro; refine ⟨fun _ => ?_, ?_⟩; (focus (go_simp; exact rfl)); apply Exists.intro; (with_reducible refine ⟨HC2, ?_⟩); simp only [Act.put, List.setIfInBounds_toArray, List.set_cons_succ, List.set_cons_zero])
    (refine S_store (t := 29) rfl rfl rfl ?_; refine ⟨_, _, _, _, (.tail (.tail .head)), fun _ hS' => run_store_row hS' _ _ _ rfl _ rfl _ _ rfl _ (.tail (.tail .head)) (size29_iv _ _) (iv_sizes _ _ _ _) (oneCells_iv _ _), ?_⟩; simp only [Act.put])
    (refine S_store (t := 29) rfl rfl rfl ?_; refine ⟨_, _, _, _, (.tail .head), fun _ hS' => run_store_row hS' _ _ _ rfl _ rfl _ _ rfl _ (.tail .head) (size29_iv _ _) (iv_sizes _ _ _ _) (oneCells_iv _ _), ?_⟩; simp only [Act.put])
    refine S_end2 ?_; clear hS; intro _ hS
    go_wp2_with (first | (refine L_load (t := 4) rfl rfl ?_; refine ⟨_, run_load_cell hS _ _ rfl _ _ rfl _ _ (.inl (.tail _ (.tail _ (.head _)))) _ Tryz.underlying4 rfl _ (iv_neg _ _), ?_⟩) | (refine L_load (t := 4) rfl rfl ?_; refine ⟨_, run_load_cell hS _ _ rfl _ _ rfl _ _ (.inl (.tail _ (.head _))) _ Tryz.underlying4 rfl _ (iv_neg _ _), ?_⟩) | (refine L_load (t := 4) rfl rfl ?_; refine ⟨_, run_load_cell hS _ _ rfl _ _ rfl _ _ (.inl (.tail _ (.tail _ (.tail _ (.head _))))) _ Tryz.underlying4 rfl _ (iv_neg _ _), ?_⟩) | (refine L_load (t := 27) rfl rfl ?_; refine ⟨_, run_load_mid hS _ _ rfl _ _ rfl _ _ (.inl (.tail _ (.tail _ (.head _)))) _ Tryz.underlying27 rfl (mgk 32 _) (size27_mg _) (fun k _ => iv_mag _ _ k), ?_⟩) | (refine L_load (t := 27) rfl rfl ?_; refine ⟨_, run_load_mid hS _ _ rfl _ _ rfl _ _ (.inl (.tail _ (.head _))) _ Tryz.underlying27 rfl (mgk 32 _) (size27_mg _) (fun k _ => iv_mag _ _ k), ?_⟩) | (refine L_alloc_agg hS rfl rfl ?_; refine ⟨_, zero27, ?_⟩; clear hS; intro _ _ hS) | (refine L_load (t := 27) rfl rfl ?_; refine ⟨_, run_load_row hS _ _ rfl _ rfl _ _ (.inl (.head _)) _ Tryz.underlying27 rfl (size27_mg _), ?_⟩) | (refine L_store (t := 27) hS rfl rfl ?_; refine ⟨_, _, _, _, _, (.head), run_store_row hS _ _ _ rfl _ rfl _ _ rfl _ (.head) (size27_mg _) (mg_sizes _ _ _) (oneCells _ _), ?_⟩; clear hS; intro _ hS) | (refine L_store (t := 29) hS rfl rfl ?_; refine ⟨_, _, _, _, _, (.tail .head), run_store_row hS _ _ _ rfl _ rfl _ _ rfl _ (.tail .head) (size29_iv _ _) (iv_sizes _ _ _ _) (oneCells_iv _ _), ?_⟩; clear hS; intro _ hS) | (go_at_call 72; (with_reducible refine Gives.use (rsum _ _ HN.out HM.out) hS ?_); clear hS; intro _ hS) | (go_at_call 49; (with_reducible refine Gives.use (rcanon _ _ (Nat.mod_lt _ (pw_pos _))) hS ?_); clear hS; intro _ hS))
    (try simp only [Exit.inBlock, Exit.then]); refine bodyPost_ret (res_cell_tmp rfl _ _ _ (run_loadRow hS _ _ _ _ (.inl (.tail _ (.head _))) _ Tryz.underlying29 rfl (size29_iv _ _)) rfl _ rfl) rfl ⟨?_, hS.below⟩
    rw [HR.out, HL.out]; rfl
  · have HR : Hid (resZ (vz u (n + m)) = _) := resZ_not (z := vz u (n + m)) (by rw [vz_abs]; exact hfit)
    have hd := decide_eq_false hfit
    clear hn hm hfit hs ht
    go_enter Tryz.func58, Tryz.ntmps58
    go_wp2_with (first | (refine L_box_agg hS rfl rfl ?_; refine ⟨_, rfl, ?_⟩; clear hS; intro _ _ hS) | (refine L_alloc_agg hS rfl rfl ?_; refine ⟨_, zero29, ?_⟩; clear hS; intro _ _ hS))
    (try simp only [Act.put]); (try simp only [List.setIfInBounds_toArray, List.set_cons_succ, List.set_cons_zero]); refine wp_region_u2 hS 10 11 [] (.tail (.tail (.head (o' := .cells (iv u n) 29)))) (.tail (.head (o' := .cells (iv u m) 29))) (by kernel_rfl) (by kernel_rfl) ?_
    (refine S_run rfl rfl ?_; apply Exists.intro; refine ⟨fun _ => ?_, ?_⟩; (focus (go_simp; (try go_bits); exact rfl)); simp only [Act.put, List.setIfInBounds_toArray, List.set_cons_succ, List.set_cons_zero])
    (refine S_load (t := 4) rfl rfl rfl rfl ?_; refine ⟨_, fun _ hS' => run_load_cell hS' _ _ rfl _ _ rfl _ _ (.inl (.tail _ (.tail _ (.head _)))) _ Tryz.underlying4 rfl _ (iv_neg _ _), ?_⟩; simp only [Act.put, List.setIfInBounds_toArray, List.set_cons_succ, List.set_cons_zero])
    (refine S_run rfl rfl ?_; apply Exists.intro; refine ⟨fun _ => ?_, ?_⟩; (focus (go_simp; (try go_bits); exact rfl)); simp only [Act.put, List.setIfInBounds_toArray, List.set_cons_succ, List.set_cons_zero])
    (refine S_load (t := 27) rfl rfl rfl rfl ?_; refine ⟨_, fun _ hS' => run_load_mid hS' _ _ rfl _ _ rfl _ _ (.inl (.tail _ (.tail _ (.head _)))) _ Tryz.underlying27 rfl (mgk 32 _) (size27_mg _) (fun k _ => iv_mag _ _ k), ?_⟩; simp only [Act.put, List.setIfInBounds_toArray, List.set_cons_succ, List.set_cons_zero])
    (refine S_call 49 rfl rfl rfl rfl ?_; apply Exists.intro; refine ⟨fun _ => ?_, ?_⟩; (focus (go_simp; exact rfl)); apply Exists.intro; (with_reducible refine ⟨HC1, ?_⟩); simp only [Act.put, List.setIfInBounds_toArray, List.set_cons_succ, List.set_cons_zero])
    (refine S_run rfl rfl ?_; apply Exists.intro; refine ⟨fun _ => ?_, ?_⟩; (focus (go_simp; (try go_bits); exact rfl)); simp only [Act.put, List.setIfInBounds_toArray, List.set_cons_succ, List.set_cons_zero])
    (refine S_load (t := 4) rfl rfl rfl rfl ?_; refine ⟨_, fun _ hS' => run_load_cell hS' _ _ rfl _ _ rfl _ _ (.inl (.tail _ (.head _))) _ Tryz.underlying4 rfl _ (iv_neg _ _), ?_⟩; simp only [Act.put, List.setIfInBounds_toArray, List.set_cons_succ, List.set_cons_zero])
    (refine S_run rfl rfl ?_; apply Exists.intro; refine ⟨fun _ => ?_, ?_⟩; (focus (go_simp; (try go_bits); exact rfl)); simp only [Act.put, List.setIfInBounds_toArray, List.set_cons_succ, List.set_cons_zero])
    (refine S_load (t := 27) rfl rfl rfl rfl ?_; refine ⟨_, fun _ hS' => run_load_mid hS' _ _ rfl _ _ rfl _ _ (.inl (.tail _ (.head _))) _ Tryz.underlying27 rfl (mgk 32 _) (size27_mg _) (fun k _ => iv_mag _ _ k), ?_⟩; simp only [Act.put, List.setIfInBounds_toArray, List.set_cons_succ, List.set_cons_zero])
    (refine S_call 49 rfl rfl rfl rfl ?_; apply Exists.intro; refine ⟨fun _ => ?_, ?_⟩; (focus (go_simp; exact rfl)); apply Exists.intro; (with_reducible refine ⟨HC2, ?_⟩); simp only [Act.put, List.setIfInBounds_toArray, List.set_cons_succ, List.set_cons_zero])
    (refine S_store (t := 29) rfl rfl rfl ?_; refine ⟨_, _, _, _, (.tail (.tail .head)), fun _ hS' => run_store_row hS' _ _ _ rfl _ rfl _ _ rfl _ (.tail (.tail .head)) (size29_iv _ _) (iv_sizes _ _ _ _) (oneCells_iv _ _), ?_⟩; simp only [Act.put])
    (refine S_store (t := 29) rfl rfl rfl ?_; refine ⟨_, _, _, _, (.tail .head), fun _ hS' => run_store_row hS' _ _ _ rfl _ rfl _ _ rfl _ (.tail .head) (size29_iv _ _) (iv_sizes _ _ _ _) (oneCells_iv _ _), ?_⟩; simp only [Act.put])
    refine S_end2 ?_; clear hS; intro _ hS
    go_wp2_with (first | (refine L_load (t := 4) rfl rfl ?_; refine ⟨_, run_load_cell hS _ _ rfl _ _ rfl _ _ (.inl (.tail _ (.tail _ (.head _)))) _ Tryz.underlying4 rfl _ (iv_neg _ _), ?_⟩) | (refine L_load (t := 4) rfl rfl ?_; refine ⟨_, run_load_cell hS _ _ rfl _ _ rfl _ _ (.inl (.tail _ (.head _))) _ Tryz.underlying4 rfl _ (iv_neg _ _), ?_⟩) | (refine L_load (t := 27) rfl rfl ?_; refine ⟨_, run_load_mid hS _ _ rfl _ _ rfl _ _ (.inl (.tail _ (.tail _ (.head _)))) _ Tryz.underlying27 rfl (mgk 32 _) (size27_mg _) (fun k _ => iv_mag _ _ k), ?_⟩) | (refine L_load (t := 27) rfl rfl ?_; refine ⟨_, run_load_mid hS _ _ rfl _ _ rfl _ _ (.inl (.tail _ (.head _))) _ Tryz.underlying27 rfl (mgk 32 _) (size27_mg _) (fun k _ => iv_mag _ _ k), ?_⟩) | (refine L_alloc_agg hS rfl rfl ?_; refine ⟨_, zero27, ?_⟩; clear hS; intro _ _ hS) | (refine L_load (t := 27) rfl rfl ?_; refine ⟨_, run_load_row hS _ _ rfl _ rfl _ _ (.inl (.head _)) _ Tryz.underlying27 rfl (size27_mg _), ?_⟩) | (refine L_store (t := 27) hS rfl rfl ?_; refine ⟨_, _, _, _, _, (.head), run_store_row hS _ _ _ rfl _ rfl _ _ rfl _ (.head) (size27_mg _) (mg_sizes _ _ _) (oneCells _ _), ?_⟩; clear hS; intro _ hS) | (refine L_store (t := 29) hS rfl rfl ?_; refine ⟨_, _, _, _, _, (.tail .head), run_store_row hS _ _ _ rfl _ rfl _ _ rfl _ (.tail .head) (size29_iv _ _) (iv_sizes _ _ _ _) (oneCells_iv _ _), ?_⟩; clear hS; intro _ hS) | (refine L_build rfl rfl ?_; refine ⟨_, built29, ?_⟩) | (go_at_call 72; (with_reducible refine Gives.use (rsum _ _ HN.out HM.out) hS ?_); clear hS; intro _ hS))
    (try simp only [Exit.inBlock, Exit.then]); refine bodyPost_ret (res_cell_tmp rfl _ _ _ (run_loadRow hS _ _ _ _ (.inl (.tail _ (.head _))) _ Tryz.underlying29 rfl (size29_iv _ _)) rfl _ rfl) rfl ⟨?_, hS.below⟩
    rw [HR.out, ← ivZ_zero]; rfl
set_option maxRecDepth 100000 in
set_option maxHeartbeats 1000000 in
theorem radd_other (s t u v : Bool) (n m : Nat) (hn : n < pw 32) (hm : m < pw 32) (hs : (s && !isz n) = u) (ht : (t && !isz m) = v) (huv : u ≠ v) : Gives Tryz.prog 58 #[.agg (iv s n), .agg (iv t m)] (resZ (vz u n + vz v m)) := by
  intro w
  have hS := St.start w
  have HN := Lib.hid hn
  have HM := Lib.hid hm
  have HC1 := rcanon' s u n hn hs
  have HC2 := rcanon' t v m hm ht
  have hss : (u == v) = false := by simpa using huv
  by_cases hlt : n < m
  · have HR : Hid (resZ (vz v (m - n)) = _) := resZ_vz (Nat.lt_of_le_of_lt (Nat.sub_le _ _) hm)
    have HD : Hid (m - n < pw 32) := Nat.lt_of_le_of_lt (Nat.sub_le _ _) hm
    have HE : Hid (n ≤ m) := Nat.le_of_lt hlt
    rw [vz_add_lt huv hlt]
    have hc := cmpv_lt hlt
    clear hn hm hlt hs ht huv
    go_enter Tryz.func58, Tryz.ntmps58
    go_wp2_with (first | (refine L_box_agg hS rfl rfl ?_; refine ⟨_, rfl, ?_⟩; clear hS; intro _ _ hS) | (refine L_alloc_agg hS rfl rfl ?_; refine ⟨_, zero29, ?_⟩; clear hS; intro _ _ hS))
    (try simp only [Act.put]); (try simp only [List.setIfInBounds_toArray, List.set_cons_succ, List.set_cons_zero]); refine wp_region_u2 hS 10 11 [] (.tail (.tail (.head (o' := .cells (iv u n) 29)))) (.tail (.head (o' := .cells (iv v m) 29))) (by kernel_rfl) (by kernel_rfl) ?_
    (refine S_run rfl rfl ?_; apply Exists.intro; refine ⟨fun _ => ?_, ?_⟩; (focus (go_simp; (try go_bits); exact rfl)); simp only [Act.put, List.setIfInBounds_toArray, List.set_cons_succ, List.set_cons_zero])
    (refine S_load (t := 4) rfl rfl rfl rfl ?_; refine ⟨_, fun _ hS' => run_load_cell hS' _ _ rfl _ _ rfl _ _ (.inl (.tail _ (.tail _ (.head _)))) _ Tryz.underlying4 rfl _ (iv_neg _ _), ?_⟩; simp only [Act.put, List.setIfInBounds_toArray, List.set_cons_succ, List.set_cons_zero])
    (refine S_run rfl rfl ?_; apply Exists.intro; refine ⟨fun _ => ?_, ?_⟩; (focus (go_simp; (try go_bits); exact rfl)); simp only [Act.put, List.setIfInBounds_toArray, List.set_cons_succ, List.set_cons_zero])
    (refine S_load (t := 27) rfl rfl rfl rfl ?_; refine ⟨_, fun _ hS' => run_load_mid hS' _ _ rfl _ _ rfl _ _ (.inl (.tail _ (.tail _ (.head _)))) _ Tryz.underlying27 rfl (mgk 32 _) (size27_mg _) (fun k _ => iv_mag _ _ k), ?_⟩; simp only [Act.put, List.setIfInBounds_toArray, List.set_cons_succ, List.set_cons_zero])
    (refine S_call 49 rfl rfl rfl rfl ?_; apply Exists.intro; refine ⟨fun _ => ?_, ?_⟩; (focus (go_simp; exact rfl)); apply Exists.intro; (with_reducible refine ⟨HC1, ?_⟩); simp only [Act.put, List.setIfInBounds_toArray, List.set_cons_succ, List.set_cons_zero])
    (refine S_run rfl rfl ?_; apply Exists.intro; refine ⟨fun _ => ?_, ?_⟩; (focus (go_simp; (try go_bits); exact rfl)); simp only [Act.put, List.setIfInBounds_toArray, List.set_cons_succ, List.set_cons_zero])
    (refine S_load (t := 4) rfl rfl rfl rfl ?_; refine ⟨_, fun _ hS' => run_load_cell hS' _ _ rfl _ _ rfl _ _ (.inl (.tail _ (.head _))) _ Tryz.underlying4 rfl _ (iv_neg _ _), ?_⟩; simp only [Act.put, List.setIfInBounds_toArray, List.set_cons_succ, List.set_cons_zero])
    (refine S_run rfl rfl ?_; apply Exists.intro; refine ⟨fun _ => ?_, ?_⟩; (focus (go_simp; (try go_bits); exact rfl)); simp only [Act.put, List.setIfInBounds_toArray, List.set_cons_succ, List.set_cons_zero])
    (refine S_load (t := 27) rfl rfl rfl rfl ?_; refine ⟨_, fun _ hS' => run_load_mid hS' _ _ rfl _ _ rfl _ _ (.inl (.tail _ (.head _))) _ Tryz.underlying27 rfl (mgk 32 _) (size27_mg _) (fun k _ => iv_mag _ _ k), ?_⟩; simp only [Act.put, List.setIfInBounds_toArray, List.set_cons_succ, List.set_cons_zero])
    (refine S_call 49 rfl rfl rfl rfl ?_; apply Exists.intro; refine ⟨fun _ => ?_, ?_⟩; (focus (go_simp; exact rfl)); apply Exists.intro; (with_reducible refine ⟨HC2, ?_⟩); simp only [Act.put, List.setIfInBounds_toArray, List.set_cons_succ, List.set_cons_zero])
    (refine S_store (t := 29) rfl rfl rfl ?_; refine ⟨_, _, _, _, (.tail (.tail .head)), fun _ hS' => run_store_row hS' _ _ _ rfl _ rfl _ _ rfl _ (.tail (.tail .head)) (size29_iv _ _) (iv_sizes _ _ _ _) (oneCells_iv _ _), ?_⟩; simp only [Act.put])
    (refine S_store (t := 29) rfl rfl rfl ?_; refine ⟨_, _, _, _, (.tail .head), fun _ hS' => run_store_row hS' _ _ _ rfl _ rfl _ _ rfl _ (.tail .head) (size29_iv _ _) (iv_sizes _ _ _ _) (oneCells_iv _ _), ?_⟩; simp only [Act.put])
    refine S_end2 ?_; clear hS; intro _ hS
    go_wp2_with (first | (refine L_load (t := 4) rfl rfl ?_; refine ⟨_, run_load_cell hS _ _ rfl _ _ rfl _ _ (.inl (.tail _ (.tail _ (.head _)))) _ Tryz.underlying4 rfl _ (iv_neg _ _), ?_⟩) | (refine L_load (t := 4) rfl rfl ?_; refine ⟨_, run_load_cell hS _ _ rfl _ _ rfl _ _ (.inl (.tail _ (.head _))) _ Tryz.underlying4 rfl _ (iv_neg _ _), ?_⟩) | (refine L_load (t := 27) rfl rfl ?_; refine ⟨_, run_load_mid hS _ _ rfl _ _ rfl _ _ (.inl (.tail _ (.tail _ (.head _)))) _ Tryz.underlying27 rfl (mgk 32 _) (size27_mg _) (fun k _ => iv_mag _ _ k), ?_⟩) | (refine L_load (t := 27) rfl rfl ?_; refine ⟨_, run_load_mid hS _ _ rfl _ _ rfl _ _ (.inl (.tail _ (.head _))) _ Tryz.underlying27 rfl (mgk 32 _) (size27_mg _) (fun k _ => iv_mag _ _ k), ?_⟩) | (refine L_load (t := 29) rfl rfl ?_; refine ⟨_, run_load_row hS _ _ rfl _ rfl _ _ (.inl (.tail _ (.head _))) _ Tryz.underlying29 rfl (size29_iv _ _), ?_⟩) | (refine L_load (t := 29) rfl rfl ?_; refine ⟨_, run_load_row hS _ _ rfl _ rfl _ _ (.inl (.tail _ (.tail _ (.head _)))) _ Tryz.underlying29 rfl (size29_iv _ _), ?_⟩) | (refine L_store (t := 29) hS rfl rfl ?_; refine ⟨_, _, _, _, _, (.tail .head), run_store_row hS _ _ _ rfl _ rfl _ _ rfl _ (.tail .head) (size29_iv _ _) (iv_sizes _ _ _ _) (oneCells_iv _ _), ?_⟩; clear hS; intro _ hS) | (refine L_store (t := 29) hS rfl rfl ?_; refine ⟨_, _, _, _, _, (.tail (.tail .head)), run_store_row hS _ _ _ rfl _ rfl _ _ rfl _ (.tail (.tail .head)) (size29_iv _ _) (iv_sizes _ _ _ _) (oneCells_iv _ _), ?_⟩; clear hS; intro _ hS) | (go_at_call 78; (with_reducible refine Gives.use (rcompare _ _ HN.out HM.out) hS ?_); clear hS; intro _ hS))
    (try simp only [Act.put]); (try simp only [List.setIfInBounds_toArray, List.set_cons_succ, List.set_cons_zero]); refine wp_region_u1 hS 8 [] (.head (o' := .cells (ivZ (vz v (m - n))) 29)) (by kernel_rfl) (by kernel_rfl) ?_
    (refine S_run rfl rfl ?_; apply Exists.intro; refine ⟨fun _ => ?_, ?_⟩; (focus (go_simp; (try go_bits); exact rfl)); simp only [Act.put, List.setIfInBounds_toArray, List.set_cons_succ, List.set_cons_zero])
    (refine S_load (t := 4) rfl rfl rfl rfl ?_; refine ⟨_, fun _ hS' => run_load_cell hS' _ _ rfl _ _ rfl _ _ (.inl (.tail _ (.tail _ (.head _)))) _ Tryz.underlying4 rfl _ (iv_neg _ _), ?_⟩; simp only [Act.put, List.setIfInBounds_toArray, List.set_cons_succ, List.set_cons_zero])
    (refine S_run rfl rfl ?_; apply Exists.intro; refine ⟨fun _ => ?_, ?_⟩; (focus (go_simp; (try go_bits); exact rfl)); simp only [Act.put, List.setIfInBounds_toArray, List.set_cons_succ, List.set_cons_zero])
    (refine S_load (t := 27) rfl rfl rfl rfl ?_; refine ⟨_, fun _ hS' => run_load_mid hS' _ _ rfl _ _ rfl _ _ (.inl (.tail _ (.tail _ (.head _)))) _ Tryz.underlying27 rfl (mgk 32 _) (size27_mg _) (fun k _ => iv_mag _ _ k), ?_⟩; simp only [Act.put, List.setIfInBounds_toArray, List.set_cons_succ, List.set_cons_zero])
    (refine S_run rfl rfl ?_; apply Exists.intro; refine ⟨fun _ => ?_, ?_⟩; (focus (go_simp; (try go_bits); exact rfl)); simp only [Act.put, List.setIfInBounds_toArray, List.set_cons_succ, List.set_cons_zero])
    (refine S_load (t := 27) rfl rfl rfl rfl ?_; refine ⟨_, fun _ hS' => run_load_mid hS' _ _ rfl _ _ rfl _ _ (.inl (.tail _ (.head _))) _ Tryz.underlying27 rfl (mgk 32 _) (size27_mg _) (fun k _ => iv_mag _ _ k), ?_⟩; simp only [Act.put, List.setIfInBounds_toArray, List.set_cons_succ, List.set_cons_zero])
    (refine S_call 71 rfl rfl rfl rfl ?_; apply Exists.intro; refine ⟨fun _ => ?_, ?_⟩; (focus (go_simp; exact rfl)); apply Exists.intro; (with_reducible refine ⟨rdiff _ _ HM.out HE.out, ?_⟩); simp only [Act.put, List.setIfInBounds_toArray, List.set_cons_succ, List.set_cons_zero])
    (refine S_call 49 rfl rfl rfl rfl ?_; apply Exists.intro; refine ⟨fun _ => ?_, ?_⟩; (focus (go_simp; exact rfl)); apply Exists.intro; (with_reducible refine ⟨rcanon _ _ HD.out, ?_⟩); simp only [Act.put, List.setIfInBounds_toArray, List.set_cons_succ, List.set_cons_zero])
    (refine S_store (t := 29) rfl rfl rfl ?_; refine ⟨_, _, _, _, (.head), fun _ hS' => run_store_row hS' _ _ _ rfl _ rfl _ _ rfl _ (.head) (size29_iv _ _) (iv_sizes _ _ _ _) (oneCells_iv _ _), ?_⟩; simp only [Act.put])
    (refine S_run rfl rfl ?_; apply Exists.intro; refine ⟨fun _ => ?_, ?_⟩; (focus (go_simp; (try go_bits); exact rfl)); simp only [Act.put, List.setIfInBounds_toArray, List.set_cons_succ, List.set_cons_zero])
    refine S_nil ?_
    intro wn hS
    go_wp2
    (try simp only [Exit.inBlock, Exit.then]); refine bodyPost_ret (res_cell_tmp rfl _ _ _ (run_loadRow hS _ _ _ _ (.inl (.head _)) _ Tryz.underlying29 rfl (size29_iv _ _)) rfl _ rfl) rfl ⟨?_, hS.below⟩
    rw [HR.out]; rfl
  · have hle : m ≤ n := by omega
    have HR : Hid (resZ (vz u (n - m)) = _) := resZ_vz (Nat.lt_of_le_of_lt (Nat.sub_le _ _) hn)
    have HD : Hid (n - m < pw 32) := Nat.lt_of_le_of_lt (Nat.sub_le _ _) hn
    have HE := Lib.hid hle
    rw [vz_add_ge huv hle]
    have hc : 0 ≤ cmpv n m := by unfold cmpv; rw [if_neg hlt]; split <;> omega
    clear hn hm hlt hs ht huv hle
    go_enter Tryz.func58, Tryz.ntmps58
    go_wp2_with (first | (refine L_box_agg hS rfl rfl ?_; refine ⟨_, rfl, ?_⟩; clear hS; intro _ _ hS) | (refine L_alloc_agg hS rfl rfl ?_; refine ⟨_, zero29, ?_⟩; clear hS; intro _ _ hS))
    (try simp only [Act.put]); (try simp only [List.setIfInBounds_toArray, List.set_cons_succ, List.set_cons_zero]); refine wp_region_u2 hS 10 11 [] (.tail (.tail (.head (o' := .cells (iv u n) 29)))) (.tail (.head (o' := .cells (iv v m) 29))) (by kernel_rfl) (by kernel_rfl) ?_
    (refine S_run rfl rfl ?_; apply Exists.intro; refine ⟨fun _ => ?_, ?_⟩; (focus (go_simp; (try go_bits); exact rfl)); simp only [Act.put, List.setIfInBounds_toArray, List.set_cons_succ, List.set_cons_zero])
    (refine S_load (t := 4) rfl rfl rfl rfl ?_; refine ⟨_, fun _ hS' => run_load_cell hS' _ _ rfl _ _ rfl _ _ (.inl (.tail _ (.tail _ (.head _)))) _ Tryz.underlying4 rfl _ (iv_neg _ _), ?_⟩; simp only [Act.put, List.setIfInBounds_toArray, List.set_cons_succ, List.set_cons_zero])
    (refine S_run rfl rfl ?_; apply Exists.intro; refine ⟨fun _ => ?_, ?_⟩; (focus (go_simp; (try go_bits); exact rfl)); simp only [Act.put, List.setIfInBounds_toArray, List.set_cons_succ, List.set_cons_zero])
    (refine S_load (t := 27) rfl rfl rfl rfl ?_; refine ⟨_, fun _ hS' => run_load_mid hS' _ _ rfl _ _ rfl _ _ (.inl (.tail _ (.tail _ (.head _)))) _ Tryz.underlying27 rfl (mgk 32 _) (size27_mg _) (fun k _ => iv_mag _ _ k), ?_⟩; simp only [Act.put, List.setIfInBounds_toArray, List.set_cons_succ, List.set_cons_zero])
    (refine S_call 49 rfl rfl rfl rfl ?_; apply Exists.intro; refine ⟨fun _ => ?_, ?_⟩; (focus (go_simp; exact rfl)); apply Exists.intro; (with_reducible refine ⟨HC1, ?_⟩); simp only [Act.put, List.setIfInBounds_toArray, List.set_cons_succ, List.set_cons_zero])
    (refine S_run rfl rfl ?_; apply Exists.intro; refine ⟨fun _ => ?_, ?_⟩; (focus (go_simp; (try go_bits); exact rfl)); simp only [Act.put, List.setIfInBounds_toArray, List.set_cons_succ, List.set_cons_zero])
    (refine S_load (t := 4) rfl rfl rfl rfl ?_; refine ⟨_, fun _ hS' => run_load_cell hS' _ _ rfl _ _ rfl _ _ (.inl (.tail _ (.head _))) _ Tryz.underlying4 rfl _ (iv_neg _ _), ?_⟩; simp only [Act.put, List.setIfInBounds_toArray, List.set_cons_succ, List.set_cons_zero])
    (refine S_run rfl rfl ?_; apply Exists.intro; refine ⟨fun _ => ?_, ?_⟩; (focus (go_simp; (try go_bits); exact rfl)); simp only [Act.put, List.setIfInBounds_toArray, List.set_cons_succ, List.set_cons_zero])
    (refine S_load (t := 27) rfl rfl rfl rfl ?_; refine ⟨_, fun _ hS' => run_load_mid hS' _ _ rfl _ _ rfl _ _ (.inl (.tail _ (.head _))) _ Tryz.underlying27 rfl (mgk 32 _) (size27_mg _) (fun k _ => iv_mag _ _ k), ?_⟩; simp only [Act.put, List.setIfInBounds_toArray, List.set_cons_succ, List.set_cons_zero])
    (refine S_call 49 rfl rfl rfl rfl ?_; apply Exists.intro; refine ⟨fun _ => ?_, ?_⟩; (focus (go_simp; exact rfl)); apply Exists.intro; (with_reducible refine ⟨HC2, ?_⟩); simp only [Act.put, List.setIfInBounds_toArray, List.set_cons_succ, List.set_cons_zero])
    (refine S_store (t := 29) rfl rfl rfl ?_; refine ⟨_, _, _, _, (.tail (.tail .head)), fun _ hS' => run_store_row hS' _ _ _ rfl _ rfl _ _ rfl _ (.tail (.tail .head)) (size29_iv _ _) (iv_sizes _ _ _ _) (oneCells_iv _ _), ?_⟩; simp only [Act.put])
    (refine S_store (t := 29) rfl rfl rfl ?_; refine ⟨_, _, _, _, (.tail .head), fun _ hS' => run_store_row hS' _ _ _ rfl _ rfl _ _ rfl _ (.tail .head) (size29_iv _ _) (iv_sizes _ _ _ _) (oneCells_iv _ _), ?_⟩; simp only [Act.put])
    refine S_end2 ?_; clear hS; intro _ hS
    go_wp2_with (first | (refine L_load (t := 4) rfl rfl ?_; refine ⟨_, run_load_cell hS _ _ rfl _ _ rfl _ _ (.inl (.tail _ (.tail _ (.head _)))) _ Tryz.underlying4 rfl _ (iv_neg _ _), ?_⟩) | (refine L_load (t := 4) rfl rfl ?_; refine ⟨_, run_load_cell hS _ _ rfl _ _ rfl _ _ (.inl (.tail _ (.head _))) _ Tryz.underlying4 rfl _ (iv_neg _ _), ?_⟩) | (refine L_load (t := 27) rfl rfl ?_; refine ⟨_, run_load_mid hS _ _ rfl _ _ rfl _ _ (.inl (.tail _ (.tail _ (.head _)))) _ Tryz.underlying27 rfl (mgk 32 _) (size27_mg _) (fun k _ => iv_mag _ _ k), ?_⟩) | (refine L_load (t := 27) rfl rfl ?_; refine ⟨_, run_load_mid hS _ _ rfl _ _ rfl _ _ (.inl (.tail _ (.head _))) _ Tryz.underlying27 rfl (mgk 32 _) (size27_mg _) (fun k _ => iv_mag _ _ k), ?_⟩) | (go_at_call 78; (with_reducible refine Gives.use (rcompare _ _ HN.out HM.out) hS ?_); clear hS; intro _ hS))
    (try simp only [Act.put]); (try simp only [List.setIfInBounds_toArray, List.set_cons_succ, List.set_cons_zero]); refine wp_region_u1 hS 8 [] (.head (o' := .cells (ivZ (vz u (n - m))) 29)) (by kernel_rfl) (by kernel_rfl) ?_
    (refine S_run rfl rfl ?_; apply Exists.intro; refine ⟨fun _ => ?_, ?_⟩; (focus (go_simp; (try go_bits); exact rfl)); simp only [Act.put, List.setIfInBounds_toArray, List.set_cons_succ, List.set_cons_zero])
    (refine S_load (t := 4) rfl rfl rfl rfl ?_; refine ⟨_, fun _ hS' => run_load_cell hS' _ _ rfl _ _ rfl _ _ (.inl (.tail _ (.tail _ (.head _)))) _ Tryz.underlying4 rfl _ (iv_neg _ _), ?_⟩; simp only [Act.put, List.setIfInBounds_toArray, List.set_cons_succ, List.set_cons_zero])
    (refine S_run rfl rfl ?_; apply Exists.intro; refine ⟨fun _ => ?_, ?_⟩; (focus (go_simp; (try go_bits); exact rfl)); simp only [Act.put, List.setIfInBounds_toArray, List.set_cons_succ, List.set_cons_zero])
    (refine S_load (t := 27) rfl rfl rfl rfl ?_; refine ⟨_, fun _ hS' => run_load_mid hS' _ _ rfl _ _ rfl _ _ (.inl (.tail _ (.tail _ (.head _)))) _ Tryz.underlying27 rfl (mgk 32 _) (size27_mg _) (fun k _ => iv_mag _ _ k), ?_⟩; simp only [Act.put, List.setIfInBounds_toArray, List.set_cons_succ, List.set_cons_zero])
    (refine S_run rfl rfl ?_; apply Exists.intro; refine ⟨fun _ => ?_, ?_⟩; (focus (go_simp; (try go_bits); exact rfl)); simp only [Act.put, List.setIfInBounds_toArray, List.set_cons_succ, List.set_cons_zero])
    (refine S_load (t := 27) rfl rfl rfl rfl ?_; refine ⟨_, fun _ hS' => run_load_mid hS' _ _ rfl _ _ rfl _ _ (.inl (.tail _ (.head _))) _ Tryz.underlying27 rfl (mgk 32 _) (size27_mg _) (fun k _ => iv_mag _ _ k), ?_⟩; simp only [Act.put, List.setIfInBounds_toArray, List.set_cons_succ, List.set_cons_zero])
    (refine S_call 71 rfl rfl rfl rfl ?_; apply Exists.intro; refine ⟨fun _ => ?_, ?_⟩; (focus (go_simp; exact rfl)); apply Exists.intro; (with_reducible refine ⟨rdiff _ _ HN.out HE.out, ?_⟩); simp only [Act.put, List.setIfInBounds_toArray, List.set_cons_succ, List.set_cons_zero])
    (refine S_call 49 rfl rfl rfl rfl ?_; apply Exists.intro; refine ⟨fun _ => ?_, ?_⟩; (focus (go_simp; exact rfl)); apply Exists.intro; (with_reducible refine ⟨rcanon _ _ HD.out, ?_⟩); simp only [Act.put, List.setIfInBounds_toArray, List.set_cons_succ, List.set_cons_zero])
    (refine S_store (t := 29) rfl rfl rfl ?_; refine ⟨_, _, _, _, (.head), fun _ hS' => run_store_row hS' _ _ _ rfl _ rfl _ _ rfl _ (.head) (size29_iv _ _) (iv_sizes _ _ _ _) (oneCells_iv _ _), ?_⟩; simp only [Act.put])
    (refine S_run rfl rfl ?_; apply Exists.intro; refine ⟨fun _ => ?_, ?_⟩; (focus (go_simp; (try go_bits); exact rfl)); simp only [Act.put, List.setIfInBounds_toArray, List.set_cons_succ, List.set_cons_zero])
    refine S_nil ?_
    intro wn hS
    go_wp2
    (try simp only [Exit.inBlock, Exit.then]); refine bodyPost_ret (res_cell_tmp rfl _ _ _ (run_loadRow hS _ _ _ _ (.inl (.head _)) _ Tryz.underlying29 rfl (size29_iv _ _)) rfl _ rfl) rfl ⟨?_, hS.below⟩
    rw [HR.out]; rfl
theorem radd_any (s t : Bool) (n m : Nat) (hn : n < pw 32) (hm : m < pw 32) : Gives Tryz.prog 58 #[.agg (iv s n), .agg (iv t m)] (resZ (vz s n + vz t m)) := by
  have h : Gives Tryz.prog 58 #[.agg (iv s n), .agg (iv t m)] (resZ (vz (s && !isz n) n + vz (t && !isz m) m)) := by
    by_cases h : (s && !isz n) = (t && !isz m)
    · rw [h]; exact radd_same s t _ n m hn hm h rfl
    · exact radd_other s t _ _ n m hn hm rfl rfl h
  rwa [vz_canon, vz_canon] at h
end Go.Proofs.YtfdlgeomaballaaGreat
