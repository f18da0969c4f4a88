/- Division in general. -/
import Derived.Test.YtfdlgeomaballaaKl
namespace Go.Proofs.Ytfdlgeomaballaa
open Go.RowKit
set_option linter.unusedVariables false

theorem norm_facts {m n1 s top : Nat} (hm : m < pw (n1 + 1)) (ht : limb m n1 = top) (h0 : top ≠ 0) (hs : s + bl top = 32) : s < 32 ∧ m * 2 ^ s < pw (n1 + 1) ∧ 2147483648 ≤ m * 2 ^ s / pw n1 ∧ pw n1 ≤ m := by
  have hb := bl_pos h0
  have hdv : m / pw n1 = top := by
    rw [← ht]; unfold limb
    exact (Nat.mod_eq_of_lt (by rw [Nat.div_lt_iff_lt_mul (pw_pos n1), Nat.mul_comm, ← pw_succ]; exact hm)).symm
  have hdm := Nat.div_add_mod m (pw n1)
  have hml := Nat.mod_lt m (pw_pos n1)
  rw [hdv] at hdm
  have h1 : top + 1 ≤ 2 ^ bl top := bl_lt top
  have h2 : 2 ^ (bl top - 1) ≤ top := bl_ge h0
  have e1 : 2 ^ bl top * 2 ^ s = 4294967296 := by rw [← Nat.pow_add, show bl top + s = 32 by omega]
  have e2 : 2 ^ (bl top - 1) * 2 ^ s = 2147483648 := by rw [← Nat.pow_add, show bl top - 1 + s = 31 by omega]
  have k1 : (top + 1) * 2 ^ s ≤ 4294967296 := by rw [← e1]; exact Nat.mul_le_mul_right _ h1
  have k2 : 2147483648 ≤ top * 2 ^ s := by rw [← e2]; exact Nat.mul_le_mul_right _ h2
  have hp : 0 < 2 ^ s := Nat.pow_pos (by omega)
  refine ⟨by omega, ?_, ?_, ?_⟩
  · have h3 : m < (top + 1) * pw n1 := by rw [Nat.add_mul, Nat.one_mul, Nat.mul_comm top]; omega
    have h4 : m * 2 ^ s < (top + 1) * pw n1 * 2 ^ s := Nat.mul_lt_mul_of_pos_right h3 hp
    have h5 : (top + 1) * pw n1 * 2 ^ s = (top + 1) * 2 ^ s * pw n1 := Nat.mul_right_comm ..
    have h6 : (top + 1) * 2 ^ s * pw n1 ≤ 4294967296 * pw n1 := Nat.mul_le_mul_right _ k1
    rw [pw_succ, Nat.mul_comm (pw n1)]
    rw [h5] at h4
    exact Nat.lt_of_lt_of_le h4 h6
  · rw [Nat.le_div_iff_mul_le (pw_pos n1)]
    have h3 : top * pw n1 ≤ m := by rw [Nat.mul_comm]; omega
    have h4 : top * pw n1 * 2 ^ s ≤ m * 2 ^ s := Nat.mul_le_mul_right _ h3
    have h5 : top * pw n1 * 2 ^ s = top * 2 ^ s * pw n1 := Nat.mul_right_comm ..
    have h6 : 2147483648 * pw n1 ≤ top * 2 ^ s * pw n1 := Nat.mul_le_mul_right _ k2
    rw [h5] at h4
    exact Nat.le_trans h6 h4
  · have h3 : 1 * pw n1 ≤ top * pw n1 := Nat.mul_le_mul_right _ (by omega)
    rw [Nat.mul_comm top] at h3; omega

theorem limbs_any (A0 B0 n : Nat) (hA0 : A0 < pw 32) (hB0 : B0 < pw 32) (hn : nl B0 = n) (h2 : 2 ≤ n) (hle : B0 ≤ A0) :
    Gives Try.prog 119 #[.agg (mgk 32 A0), .agg (mgk 32 B0), .int .i64 ((n : Nat) : Int)] (.tuple #[.agg (mgk 32 (A0 / B0)), .agg (mgk 32 (A0 % B0))]) := by
  obtain ⟨n2, rfl⟩ : ∃ n2, n = n2 + 1 + 1 := ⟨n - 2, by omega⟩
  have hnb : n2 + 1 + 1 ≤ 32 := by have := nl_le B0; omega
  have hBn : B0 < pw (n2 + 1 + 1) := by have := nl_lt hB0; rwa [hn] at this
  have htop : limb B0 (n2 + 1) ≠ 0 := by
    rcases nl_top B0 with h | h
    · omega
    · rw [hn] at h; exact h
  have hbl : bl (limb B0 (n2 + 1)) ≤ 32 := by
    refine bl_le ?_
    have := limb_lt B0 (n2 + 1)
    exact this
  obtain ⟨s, hs⟩ : ∃ s, s + bl (limb B0 (n2 + 1)) = 32 := ⟨32 - bl (limb B0 (n2 + 1)), by omega⟩
  obtain ⟨f1, f2, f3, f4⟩ := norm_facts hBn rfl htop hs
  have hla : n2 + 1 + 1 ≤ nl A0 := by
    refine Classical.byContradiction fun hc => ?_
    have h1 := nl_lt hA0
    have h3 : pw (nl A0) ≤ pw (n2 + 1) := pw_le (by omega)
    omega
  have hla2 := nl_le A0
  refine limbs_core A0 B0 (n2 + 1 + 1) (n2 + 1) n2 s 0 _ _ (nl A0) _ rfl rfl hnb hA0 hB0 f1 rfl rfl rfl hs rfl hla hla2 f2 f3 ?_
  have hA : A0 < pw (nl A0) := nl_lt hA0
  have hp : 0 < 2 ^ s := Nat.pow_pos (by omega)
  have hsb : 2 ^ s ≤ 2147483648 := Nat.pow_le_pow_right (by omega) (show s ≤ 31 by omega)
  have g1 : A0 * 2 ^ s < pw (nl A0) * 2 ^ s := Nat.mul_lt_mul_of_pos_right hA hp
  have g2 : pw (nl A0) * 2 ^ s ≤ pw (nl A0) * 2147483648 := Nat.mul_le_mul_left _ hsb
  have g3 : 2147483648 * pw (n2 + 1) ≤ B0 * 2 ^ s := (Nat.le_div_iff_mul_le (pw_pos _)).1 f3
  have g4 : 2147483648 * pw (n2 + 1) * pw (nl A0 - (n2 + 1 + 1) + 1) ≤ B0 * 2 ^ s * pw (nl A0 - (n2 + 1 + 1) + 1) := Nat.mul_le_mul_right _ g3
  have g5 : 2147483648 * pw (n2 + 1) * pw (nl A0 - (n2 + 1 + 1) + 1) = pw (nl A0) * 2147483648 := by
    rw [Nat.mul_assoc, ← pw_add, Nat.mul_comm]
    congr 2; omega
  rw [g5] at g4
  exact Nat.lt_of_lt_of_le g1 (Nat.le_trans g2 g4)

set_option maxRecDepth 10000 in
set_option maxHeartbeats 2000000 in
theorem divide_any (n m : Nat) (hn : n < pw 32) (hm : m < pw 32) (h0 : 0 < m) : DivGives n m := by
  by_cases h1 : m < 4294967296
  · exact divide_one n m hn h0 h1
  have h2 : 2 ≤ nl m := by
    refine Classical.byContradiction fun hc => ?_
    have h3 := nl_lt hm
    have h4 : pw (nl m) ≤ pw 1 := pw_le (by omega)
    rw [pw_one] at h4; omega
  intro w
  have hS := St.start w
  have HN := Lib.hid hn
  have HM := Lib.hid hm
  obtain ⟨k, hk⟩ : ∃ k, nl m = k := ⟨_, rfl⟩
  have G : Gives Try.prog 118 #[.agg (mgk 32 m)] (.int .i64 ((k : Nat) : Int)) := by
    have := limbCount_any m; rwa [hk] at this
  have hk1 : (((k : Nat) : Int) == 1) = false := by simp; omega
  by_cases hlt : n < m
  · have GC := compare_any n m hn hm
    rw [cmpv_lt hlt] at GC
    have HR : Hid (n / m = 0 ∧ n % m = n) := ⟨Nat.div_eq_of_lt hlt, Nat.mod_eq_of_lt hlt⟩
    clear hn hm h0 h1 h2 hk hlt
    unfold DivGives at *
    rw [HR.out.1, HR.out.2]
    go_enter Try.func89, Try.ntmps89
    go_wp2_with (first | ((with_reducible refine L_slot 2 ?_); (refine L_box_agg (o := ⟨some 2, _, _, _, _, _⟩) hS rfl rfl ?_; refine ⟨_, rfl, ?_⟩; clear hS; intro b2 _ hS)) | ((with_reducible refine L_slot 3 ?_); (refine L_box_agg (o := ⟨some 3, _, _, _, _, _⟩) hS rfl rfl ?_; refine ⟨_, rfl, ?_⟩; clear hS; intro b3 _ hS)) | ((with_reducible refine L_slot 4 ?_); (refine L_alloc_agg (o := ⟨some 4, _, _, _, _, _⟩) hS rfl rfl ?_; refine ⟨_, zero75, ?_⟩; clear hS; intro b4 _ hS)) | ((with_reducible refine L_slot 5 ?_); (refine L_alloc_agg (o := ⟨some 5, _, _, _, _, _⟩) hS rfl rfl ?_; refine ⟨_, zero75, ?_⟩; clear hS; intro b5 _ hS)) | ((with_reducible refine L_slot 7 ?_); (refine L_load (t := 75) rfl rfl ?_; refine ⟨_, run_load_row hS _ _ rfl _ rfl _ _ (.inl (.tail _ (.tail _ (.head _)))) _ Try.underlying75 rfl (size75_mg _), ?_⟩)) | ((with_reducible refine L_slot 21 ?_); (refine L_load (t := 75) rfl rfl ?_; refine ⟨_, run_load_row hS _ _ rfl _ rfl _ _ (.inl (.tail _ (.tail _ (.tail _ (.head _))))) _ Try.underlying75 rfl (size75_mg _), ?_⟩)) | ((with_reducible refine L_slot 22 ?_); (refine L_load (t := 75) rfl rfl ?_; refine ⟨_, run_load_row hS _ _ rfl _ rfl _ _ (.inl (.tail _ (.tail _ (.head _)))) _ Try.underlying75 rfl (size75_mg _), ?_⟩)) | ((with_reducible refine L_slot 27 ?_); (refine L_load (t := 75) rfl rfl ?_; refine ⟨_, run_load_row hS _ _ rfl _ rfl _ _ (.inl (.tail _ (.tail _ (.tail _ (.head _))))) _ Try.underlying75 rfl (size75_mg _), ?_⟩)) | ((with_reducible refine L_slot 28 ?_); (refine L_load (t := 75) rfl rfl ?_; refine ⟨_, run_load_row hS _ _ rfl _ rfl _ _ (.inl (.tail _ (.tail _ (.head _)))) _ Try.underlying75 rfl (size75_mg _), ?_⟩)) | (go_at_call 118; (with_reducible refine Gives.use (G) hS ?_); clear hS; intro _ hS) | (go_at_call 79; (with_reducible refine Gives.use (GC) hS ?_); clear hS; intro _ hS))
    (try simp only [Act.put]); (try simp only [List.setIfInBounds_toArray, List.set_cons_succ, List.set_cons_zero]); refine wp_region_u2 hS 2 3 [1] (.tail (.head (o' := .cells (mgk 32 0) 75))) (.head (o' := .cells (mgk 32 n) 75)) (by kernel_rfl) (by kernel_rfl) ?_
    (refine S_build rfl rfl rfl ?_; refine ⟨_, built75, ?_⟩; simp only [Act.put, List.setIfInBounds_toArray, List.set_cons_succ, List.set_cons_zero])
    (refine S_float (t := 75) rfl rfl rfl ?_ (by decide); refine ⟨.agg (mgk 32 (n)), fun q _ hq _ hS' => run_load_row hS' _ _ rfl _ rfl (mgk 32 (n)) 75 (by rcases q with _ | _ | _ | q; (focus exact .inl (.tail _ (.tail _ (.tail _ (.head _))))); (focus exact .inl (.tail _ (.tail _ (.tail _ (.head _))))); (focus exact .inl (.tail _ (.tail _ (.tail _ (.head _))))); exact absurd hq (by simp)) _ Try.underlying75 rfl (size75_mg _), ?_⟩; simp only [Act.put, List.setIfInBounds_toArray, List.set_cons_succ, List.set_cons_zero])
    (refine S_store (t := 75) rfl rfl rfl ?_; refine ⟨_, _, _, _, (.tail .head), fun _ hS' => run_store_row hS' _ _ _ rfl _ rfl _ _ rfl _ (.tail .head) (size75_mg _) (mg_sizes _ _ _) (oneCells _ _), ?_⟩; simp only [Act.put])
    (refine S_store (t := 75) rfl rfl rfl ?_; refine ⟨_, _, _, _, (.head), fun _ hS' => run_store_row hS' _ _ _ rfl _ rfl _ _ rfl _ (.head) (size75_mg _) (mg_sizes _ _ _) (oneCells _ _), ?_⟩; simp only [Act.put])
    refine S_end2 ?_; clear hS; intro _ hS
    go_wp2_with (fail)
    (try simp only [Exit.inBlock, Exit.then])
    (try simp only [Exit.inBlock, Exit.then]); refine bodyPost_ret (res_cell_cell rfl _ _ _ _ _ (run_loadRow hS _ _ _ _ (.inl (.tail _ (.head _))) _ Try.underlying75 rfl (size75_mg _)) (run_loadRow hS _ _ _ _ (.inl (.head _)) _ Try.underlying75 rfl (size75_mg _)) rfl rfl) rfl ⟨?_, hS.below⟩
    rfl
  · have hc : 0 ≤ cmpv n m := by unfold cmpv; rw [if_neg hlt]; split <;> omega
    have GC := compare_any n m hn hm
    generalize cmpv n m = cc at *
    have GD := limbs_any n m k hn hm hk (by omega) (by omega)
    clear hn hm h0 h1 h2 hk hlt
    unfold DivGives at *
    generalize n / m = q at *
    generalize n % m = r at *
    go_enter Try.func89, Try.ntmps89
    go_wp2_with (first | ((with_reducible refine L_slot 2 ?_); (refine L_box_agg (o := ⟨some 2, _, _, _, _, _⟩) hS rfl rfl ?_; refine ⟨_, rfl, ?_⟩; clear hS; intro b2 _ hS)) | ((with_reducible refine L_slot 3 ?_); (refine L_box_agg (o := ⟨some 3, _, _, _, _, _⟩) hS rfl rfl ?_; refine ⟨_, rfl, ?_⟩; clear hS; intro b3 _ hS)) | ((with_reducible refine L_slot 4 ?_); (refine L_alloc_agg (o := ⟨some 4, _, _, _, _, _⟩) hS rfl rfl ?_; refine ⟨_, zero75, ?_⟩; clear hS; intro b4 _ hS)) | ((with_reducible refine L_slot 5 ?_); (refine L_alloc_agg (o := ⟨some 5, _, _, _, _, _⟩) hS rfl rfl ?_; refine ⟨_, zero75, ?_⟩; clear hS; intro b5 _ hS)) | ((with_reducible refine L_slot 7 ?_); (refine L_load (t := 75) rfl rfl ?_; refine ⟨_, run_load_row hS _ _ rfl _ rfl _ _ (.inl (.tail _ (.tail _ (.head _)))) _ Try.underlying75 rfl (size75_mg _), ?_⟩)) | ((with_reducible refine L_slot 21 ?_); (refine L_load (t := 75) rfl rfl ?_; refine ⟨_, run_load_row hS _ _ rfl _ rfl _ _ (.inl (.tail _ (.tail _ (.tail _ (.head _))))) _ Try.underlying75 rfl (size75_mg _), ?_⟩)) | ((with_reducible refine L_slot 22 ?_); (refine L_load (t := 75) rfl rfl ?_; refine ⟨_, run_load_row hS _ _ rfl _ rfl _ _ (.inl (.tail _ (.tail _ (.head _)))) _ Try.underlying75 rfl (size75_mg _), ?_⟩)) | ((with_reducible refine L_slot 27 ?_); (refine L_load (t := 75) rfl rfl ?_; refine ⟨_, run_load_row hS _ _ rfl _ rfl _ _ (.inl (.tail _ (.tail _ (.tail _ (.head _))))) _ Try.underlying75 rfl (size75_mg _), ?_⟩)) | ((with_reducible refine L_slot 28 ?_); (refine L_load (t := 75) rfl rfl ?_; refine ⟨_, run_load_row hS _ _ rfl _ rfl _ _ (.inl (.tail _ (.tail _ (.head _)))) _ Try.underlying75 rfl (size75_mg _), ?_⟩)) | (go_at_call 118; (with_reducible refine Gives.use (G) hS ?_); clear hS; intro _ hS) | (go_at_call 79; (with_reducible refine Gives.use (GC) hS ?_); clear hS; intro _ hS) | (go_at_call 119; (with_reducible refine Gives.use (GD) hS ?_); clear hS; intro _ hS) | ((with_reducible refine L_storeAt 4 ?_); (refine L_store (t := 75) hS rfl rfl ?_; refine ⟨_, _, _, _, _, (.tail .head), run_store_row hS _ _ _ rfl _ rfl _ _ rfl _ (.tail .head) (size75_mg _) (mg_sizes _ _ _) (oneCells _ _), ?_⟩; clear hS; intro _ hS)) | ((with_reducible refine L_storeAt 5 ?_); (refine L_store (t := 75) hS rfl rfl ?_; refine ⟨_, _, _, _, _, (.head), run_store_row hS _ _ _ rfl _ rfl _ _ rfl _ (.head) (size75_mg _) (mg_sizes _ _ _) (oneCells _ _), ?_⟩; clear hS; intro _ hS)))
    (try simp only [Exit.inBlock, Exit.then])
    (try simp only [Exit.inBlock, Exit.then]); refine bodyPost_ret (res_cell_cell rfl _ _ _ _ _ (run_loadRow hS _ _ _ _ (.inl (.tail _ (.head _))) _ Try.underlying75 rfl (size75_mg _)) (run_loadRow hS _ _ _ _ (.inl (.head _)) _ Try.underlying75 rfl (size75_mg _)) rfl rfl) rfl ⟨?_, hS.below⟩
    rfl
end Go.Proofs.Ytfdlgeomaballaa
