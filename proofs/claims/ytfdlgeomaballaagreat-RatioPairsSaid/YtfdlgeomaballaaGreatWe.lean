/- The walks of times and Mul. -/
import Derived.Test.YtfdlgeomaballaaGreatWd
import Derived.Test.YtfdlgeomaballaaGreatMul
namespace Go.Proofs.YtfdlgeomaballaaGreat
open Go.RowKit

set_option maxRecDepth 100000 in
set_option maxHeartbeats 2000000 in
theorem times_any (n m : Nat) (hn : n < pw 32) (hm : m < pw 32) : Gives Tryz.prog 94 #[.agg (mgk 32 n), .agg (mgk 32 m)] (.tuple #[.agg (mgk 32 (n * m % pw 32)), .bool (isz (n * m / pw 32))]) := by
  intro w
  have hS := St.start w
  have HNn := Lib.hid (nl_lt hn)
  have HMm := Lib.hid (nl_lt hm)
  have hln := nl_le n
  have hlm := nl_le m
  have HZ : Hid (n * m / pw 32 < pw 32) := (Nat.div_lt_iff_lt_mul (pw_pos 32)).2 (Nat.mul_lt_mul_of_lt_of_lt hn hm)
  clear hn hm
  go_enter Tryz.func94, Tryz.ntmps94
  go_wp2_with (first | (refine L_box_agg hS rfl rfl ?_; refine ⟨_, rfl, ?_⟩; clear hS; intro _ _ hS) | (refine L_alloc_agg hS rfl rfl ?_; refine ⟨_, zero74, ?_⟩; clear hS; intro _ _ hS) | (refine L_alloc_agg hS rfl rfl ?_; refine ⟨_, zero99, ?_⟩; clear hS; intro _ _ hS))
  rename_i b2 _ b3 _ b4 _ b6 _ _ _
  (try simp only [Act.put]); (try simp only [List.setIfInBounds_toArray, List.set_cons_succ, List.set_cons_zero]); refine wp_region_w0 hS (by kernel_rfl) (by kernel_rfl) ?_
  repeat (first
    | (refine S_load (t := 74) rfl rfl rfl rfl ?_; refine ⟨_, fun _ hS' => run_load_row hS' _ _ rfl _ rfl _ _ (.inl (.tail _ (.tail _ (.head _)))) _ Tryz.underlying74 rfl (size74_mg _), ?_⟩; simp only [Act.put, List.setIfInBounds_toArray, List.set_cons_succ, List.set_cons_zero]) | (refine S_load (t := 74) rfl rfl rfl rfl ?_; refine ⟨_, fun _ hS' => run_load_row hS' _ _ rfl _ rfl _ _ (.inl (.tail _ (.tail _ (.tail _ (.head _))))) _ Tryz.underlying74 rfl (size74_mg _), ?_⟩; simp only [Act.put, List.setIfInBounds_toArray, List.set_cons_succ, List.set_cons_zero])
    | (refine S_call 84 rfl rfl rfl rfl ?_; apply Exists.intro; refine ⟨fun _ => ?_, ?_⟩; (focus (go_simp; exact rfl)); apply Exists.intro; (with_reducible refine ⟨limbCount_any _, ?_⟩); simp only [Act.put, List.setIfInBounds_toArray, List.set_cons_succ, List.set_cons_zero])
    | (refine S_run rfl rfl ?_; apply Exists.intro; refine ⟨fun _ => ?_, ?_⟩; (focus (go_simp; (try go_bits); exact rfl)); simp only [Act.put, List.setIfInBounds_toArray, List.set_cons_succ, List.set_cons_zero]))
  refine S_end0 ?_
  clear hS
  intro w1 hS
  go_wp2_with (fail)
  go_loopw [18] (fun i wr => ∃ k : Nat, k ≤ nl n ∧ i = .int .i64 k ∧ St none w wr [] [(b6, .cells (mgk 64 ((n % pw k) * m)) 99), (b4, .cells (mgk 32 0) 74), (b3, .cells (mgk 32 m) 74), (b2, .cells (mgk 32 n) 74)]) (fun i _ => nl n - (intOf i).toNat)
  case atStart => exact ⟨0, by omega, by go_num, by rw [mod_pw_zero, Nat.zero_mul]; exact hS⟩
  case round =>
    clear hS
    obtain ⟨i, hi, rfl, hS⟩ := hrel
    by_cases hlt : i < nl n
    · go_wp2_with (fail)
      obtain ⟨wo, rfl⟩ : ∃ wo : World, wo = wr := ⟨_, rfl⟩
      go_loopw [10, 22] (fun cy j wr => ∃ q W c : Nat, q ≤ nl m ∧ j = .int .i64 q ∧ cy = .int .u64 ((c : Nat) : Int) ∧ c < 4294967296 ∧ Hid (W < pw (i + nl m)) ∧ Hid (W + c * pw (i + q) = mulV n m i q) ∧ St none w wr [] [(b6, .cells (mgk 64 W) 99), (b4, .cells (mgk 32 0) 74), (b3, .cells (mgk 32 m) 74), (b2, .cells (mgk 32 n) 74)]) (fun _ j _ => nl m - (intOf j).toNat)
      case atStart => exact ⟨0, (n % pw i) * m, 0, by omega, by go_num, by go_num, by omega, mul_small HMm.out, (by rw [Nat.zero_mul]; exact (mulV_zero n m i).symm : (n % pw i) * m + 0 * pw (i + 0) = mulV n m i 0), hS⟩
      case round =>
        clear hS
        obtain ⟨q, W, c, hq, rfl, rfl, hc, HW, HV, hS⟩ := hrel
        by_cases hql : q < nl m
        · obtain ⟨p, hp⟩ : ∃ p, p = limb n i * limb m q := ⟨_, rfl⟩
          have hpz : ((limb n i : Nat) : Int) * ((limb m q : Nat) : Int) = ((p : Nat) : Int) := by rw [hp, Int.natCast_mul]
          have hpb : p ≤ 18446744065119617025 := by rw [hp]; exact mul_bound _ _ (limb_lt _ _) (limb_lt _ _)
          have HT : Hid (mulT n m i q W c = c + (p + limb W (i + q))) := by rw [hp]; rfl
          have hlw := limb_lt W (i + q)
          have hla := limb_lt n i
          have hlb := limb_lt m q
          have HC := Lib.hid (mulT_lt (a := n) (b := m) (i := i) (j := q) (W := W) hc)
          have HP : Hid (put W (i + q) (mulT n m i q W c % 4294967296) < pw (i + nl m)) := put_lt HW.out (by omega) (by omega)
          have HS := Lib.hid (mul_step HV.out)
          have hi32 : (i : Int) < 32 := by omega
          have hq32 : (q : Int) < 32 := by omega
          have hiq : (i : Int) + (q : Int) < 64 := by omega
          clear hp
          go_wp2_with (fail)
          (try simp only [Act.put]); (try simp only [List.setIfInBounds_toArray, List.set_cons_succ, List.set_cons_zero]); refine wp_region_w0 hS (by kernel_rfl) (by kernel_rfl) ?_
          repeat (first
            | (refine S_load (t := 26) rfl rfl rfl rfl ?_; refine ⟨_, fun _ hS' => run_load_cell hS' _ _ rfl _ _ rfl _ _ (.inl (.tail _ (.tail _ (.tail _ (.head _))))) _ Tryz.underlying26 rfl _ (mgk_get' (by omega)), ?_⟩; simp only [Act.put, List.setIfInBounds_toArray, List.set_cons_succ, List.set_cons_zero]) | (refine S_load (t := 26) rfl rfl rfl rfl ?_; refine ⟨_, fun _ hS' => run_load_cell hS' _ _ rfl _ _ rfl _ _ (.inl (.tail _ (.tail _ (.head _)))) _ Tryz.underlying26 rfl _ (mgk_get' (by omega)), ?_⟩; simp only [Act.put, List.setIfInBounds_toArray, List.set_cons_succ, List.set_cons_zero]) | (refine S_load (t := 26) rfl rfl rfl rfl ?_; refine ⟨_, fun _ hS' => run_load_cell hS' _ _ rfl _ _ rfl _ _ (.inl (.head _)) _ Tryz.underlying26 rfl _ (mgk_get' (by omega)), ?_⟩; simp only [Act.put, List.setIfInBounds_toArray, List.set_cons_succ, List.set_cons_zero])
            | (refine S_run rfl rfl ?_; apply Exists.intro; refine ⟨fun _ => ?_, ?_⟩; (focus (go_simp; (try go_bits); exact rfl)); simp only [Act.put, List.setIfInBounds_toArray, List.set_cons_succ, List.set_cons_zero]))
          refine S_end0 ?_; clear hS; intro _ hS
          go_wp2_with (first | (refine L_store (t := 26) hS rfl rfl ?_; refine ⟨_, _, mgk 64 (put W (i + q) (mulT n m i q W c % 4294967296)), _, _, (.head), run_store_cell hS _ _ _ rfl _ _ rfl _ rfl _ _ _ (.head) size26 rfl rfl ?_ ?_, ?_⟩; (focus (rw [mgk_size]; omega)); (focus (exact mgk_put' W (mulT n m i q W c % 4294967296) (by rw [HT.out]; omega) (by omega))); clear hS; intro _ hS))
          go_roundw
          case rel => exact ⟨q + 1, _, mulT n m i q W c / 4294967296, by omega, by go_num, congrArg (Value.int .u64) (by rw [HT.out]; omega), HC.out.2, HP, HS, hS⟩
          case measure => simp [intOf]; omega
        · have eq : q = nl m := by omega
          subst eq
          have hiq : (i : Int) + ((nl m : Nat) : Int) < 64 := by omega
          have HR : Hid (put W (i + nl m) c = (n % pw (i + 1)) * m) := mul_round HMm.out HW.out HV.out
          go_wp2_with (first | (refine L_store (t := 26) hS rfl rfl ?_; refine ⟨_, _, mgk 64 ((n % pw (i + 1)) * m), _, _, (.head), run_store_cell hS _ _ _ rfl _ _ rfl _ rfl _ _ _ (.head) size26 rfl rfl ?_ ?_, ?_⟩; (focus (rw [mgk_size]; omega)); (focus (exact (mgk_put' W c (by omega) hc).trans (congrArg (mgk 64) HR.out))); clear hS; intro _ hS))
          go_roundw
          case rel => exact ⟨i + 1, by omega, by go_num, hS⟩
          case measure => simp [intOf]; omega
    · have ei : i = nl n := by omega
      subst ei
      rw [mul_end HNn.out] at hS
      go_wp2_with (first | (refine L_alloc_agg hS rfl rfl ?_; refine ⟨_, zero74, ?_⟩; clear hS; intro _ _ hS))
      (try simp only [Act.put]); (try simp only [List.setIfInBounds_toArray, List.set_cons_succ, List.set_cons_zero]); refine wp_region_u1 hS 2 [] (.tail (.tail (.head (o' := .cells (mgk 32 (n * m % pw 32)) 74)))) (by kernel_rfl) (by kernel_rfl) ?_
      repeat (first | (refine S_copy rfl rfl rfl ?_; refine ⟨_, _, _, _, _, (.tail (.tail .head)), fun _ hS' => run_copy_over hS' _ _ _ _ rfl _ Tryz.underlying107 size26 _ _ _ _ _ _ rfl rfl _ _ _ _ _ (.tail (.tail .head)) (.inl (.tail _ (.head _))) (mgk_size _ _) (mgk_size _ _) (fun k hk => low_row hk (by omega)) (oneCells _ _), ?_⟩; simp only [Act.put, List.setIfInBounds_toArray, List.set_cons_succ, List.set_cons_zero]) | (refine S_run rfl rfl ?_; apply Exists.intro; refine ⟨fun _ => ?_, ?_⟩; (focus (go_simp; (try go_bits); exact rfl)); simp only [Act.put, List.setIfInBounds_toArray, List.set_cons_succ, List.set_cons_zero]))
      refine S_end1 ?_; clear hS; intro _ hS
      go_wp2_with (fail)
      (try simp only [Act.put]); (try simp only [List.setIfInBounds_toArray, List.set_cons_succ, List.set_cons_zero]); refine wp_region_u1 hS 2 [] (.head (o' := .cells (mgk 32 (n * m / pw 32)) 74)) (by kernel_rfl) (by kernel_rfl) ?_
      repeat (first | (refine S_copy rfl rfl rfl ?_; refine ⟨_, _, _, _, _, (.head), fun _ hS' => run_copy_over hS' _ _ _ _ rfl _ Tryz.underlying107 size26 _ _ _ _ _ _ rfl rfl _ _ _ _ _ (.head) (.inl (.tail _ (.head _))) (mgk_size _ _) (mgk_size _ _) (fun k hk => up_row hk (by omega)) (oneCells _ _), ?_⟩; simp only [Act.put, List.setIfInBounds_toArray, List.set_cons_succ, List.set_cons_zero]) | (refine S_run rfl rfl ?_; apply Exists.intro; refine ⟨fun _ => ?_, ?_⟩; (focus (go_simp; (try go_bits); exact rfl)); simp only [Act.put, List.setIfInBounds_toArray, List.set_cons_succ, List.set_cons_zero]))
      refine S_end1 ?_; clear hS; intro _ hS
      go_wp2_with (fail)
      (try simp only [Act.put]); (try simp only [List.setIfInBounds_toArray, List.set_cons_succ, List.set_cons_zero]); refine wp_region_u1 hS 3 [] (.tail (.tail (.head (o' := .cells (mgk 32 (n * m % pw 32)) 74)))) (by kernel_rfl) (by kernel_rfl) ?_
      repeat (first
        | (refine S_load (t := 74) rfl rfl rfl rfl ?_; refine ⟨_, fun _ hS' => run_load_row hS' _ _ rfl _ rfl _ _ (.inl (.tail _ (.tail _ (.head _)))) _ Tryz.underlying74 rfl (size74_mg _), ?_⟩; simp only [Act.put, List.setIfInBounds_toArray, List.set_cons_succ, List.set_cons_zero]) | (refine S_load (t := 74) rfl rfl rfl rfl ?_; refine ⟨_, fun _ hS' => run_load_row hS' _ _ rfl _ rfl _ _ (.inl (.head _)) _ Tryz.underlying74 rfl (size74_mg _), ?_⟩; simp only [Act.put, List.setIfInBounds_toArray, List.set_cons_succ, List.set_cons_zero])
        | (refine S_call 65 rfl rfl rfl rfl ?_; apply Exists.intro; refine ⟨fun _ => ?_, ?_⟩; (focus (go_simp; exact rfl)); apply Exists.intro; (with_reducible refine ⟨isZero _ HZ.out, ?_⟩); simp only [Act.put, List.setIfInBounds_toArray, List.set_cons_succ, List.set_cons_zero])
        | (refine S_store (t := 74) rfl rfl rfl ?_; refine ⟨_, _, _, _, (.tail (.tail .head)), fun _ hS' => run_store_row hS' _ _ _ rfl _ rfl _ _ rfl _ (.tail (.tail .head)) (size74_mg _) (mg_sizes _ _ _) (oneCells _ _), ?_⟩; simp only [Act.put])
        | (refine S_run rfl rfl ?_; apply Exists.intro; refine ⟨fun _ => ?_, ?_⟩; (focus (go_simp; (try go_bits); exact rfl)); simp only [Act.put, List.setIfInBounds_toArray, List.set_cons_succ, List.set_cons_zero]))
      refine S_end1 ?_; clear hS; intro _ hS
      go_wp2
      (try simp only [Exit.inBlock, Exit.then]); refine bodyPost_ret (res_cell_tmp rfl _ _ _ (run_loadRow hS _ _ _ _ (.inl (.tail _ (.tail _ (.head _)))) _ Tryz.underlying74 rfl (size74_mg _)) rfl _ rfl) rfl ⟨?_, hS.below⟩
      rfl

theorem vz_mul (s t : Bool) (n m : Nat) : vz s n * vz t m = vz (s != t) (n * m) := by
  cases s <;> cases t <;> simp [vz, Int.natCast_mul, Int.neg_mul, Int.mul_neg]
theorem resZ_vz_fits {s : Bool} {n : Nat} (h : n < pw 32) : resZ (vz s n) = .tuple #[.agg (ivZ (vz s n)), .int .i64 0] := resZ_fits (by rw [vz_abs]; exact h)
theorem resZ_vz_not {s : Bool} {n : Nat} (h : ¬ n < pw 32) : resZ (vz s n) = .tuple #[.agg (ivZ 0), .int .i64 10] := resZ_not (by rw [vz_abs]; exact h)

set_option maxRecDepth 100000 in
set_option maxHeartbeats 1000000 in
theorem mul_any (s t : Bool) (n m : Nat) (hn : n < pw 32) (hm : m < pw 32) : Gives Tryz.prog 77 #[.agg (iv s n), .agg (iv t m)] (resZ (vz s n * vz t m)) := by
  intro w
  have hS := St.start w
  rw [vz_mul]
  have HN := Lib.hid hn
  have HM := Lib.hid hm
  obtain ⟨k, hk⟩ : ∃ k, k = n * m % pw 32 := ⟨_, rfl⟩
  have hkl : Hid (k < pw 32) := by rw [hk]; exact Nat.mod_lt _ (pw_pos 32)
  by_cases hfit : n * m < pw 32
  · have G : Gives Tryz.prog 94 #[.agg (mgk 32 n), .agg (mgk 32 m)] (.tuple #[.agg (mgk 32 k), .bool true]) := by
      have := times_any n m hn hm
      rwa [isz_true (Nat.div_eq_of_lt hfit), ← hk] at this
    have HR : Hid (resZ (vz (s != t) (n * m)) = .tuple #[.agg (ivZ (vz (s != t) k)), .int .i64 0]) := by
      show resZ (vz (s != t) (n * m)) = _; rw [resZ_vz_fits hfit, hk, Nat.mod_eq_of_lt hfit]
    clear hn hm hfit hk
    go_enter Tryz.func77, Tryz.ntmps77
    go_wp2_with (first | (refine L_box_agg hS rfl rfl ?_; refine ⟨_, rfl, ?_⟩; clear hS; intro _ _ hS) | (refine L_alloc_agg hS rfl rfl ?_; refine ⟨_, zero29, ?_⟩; clear hS; intro _ _ hS) | (refine L_alloc_agg hS rfl rfl ?_; refine ⟨_, zero74, ?_⟩; clear hS; intro _ _ hS) | (refine L_load (t := 27) rfl rfl ?_; refine ⟨_, run_load_mid hS _ _ rfl _ _ rfl _ _ (.inl (.tail _ (.tail _ (.head _)))) _ Tryz.underlying27 rfl (mgk 32 _) (size27_mg _) (fun k _ => iv_mag _ _ k), ?_⟩) | (refine L_load (t := 27) rfl rfl ?_; refine ⟨_, run_load_mid hS _ _ rfl _ _ rfl _ _ (.inl (.tail _ (.head _))) _ Tryz.underlying27 rfl (mgk 32 _) (size27_mg _) (fun k _ => iv_mag _ _ k), ?_⟩) | (refine L_load (t := 4) rfl rfl ?_; refine ⟨_, run_load_cell hS _ _ rfl _ _ rfl _ _ (.inl (.tail _ (.tail _ (.tail _ (.head _))))) _ Tryz.underlying4 rfl _ (iv_neg _ _), ?_⟩) | (refine L_load (t := 4) rfl rfl ?_; refine ⟨_, run_load_cell hS _ _ rfl _ _ rfl _ _ (.inl (.tail _ (.tail _ (.head _)))) _ Tryz.underlying4 rfl _ (iv_neg _ _), ?_⟩) | (refine L_load (t := 74) rfl rfl ?_; refine ⟨_, run_load_row hS _ _ rfl _ rfl _ _ (.inl (.head _)) _ Tryz.underlying74 rfl (size74_mg _), ?_⟩) | (refine L_store (t := 74) hS rfl rfl ?_; refine ⟨_, _, _, _, _, (.head), run_store_row hS _ _ _ rfl _ rfl _ _ rfl _ (.head) (size74_mg _) (mg_sizes _ _ _) (oneCells _ _), ?_⟩; clear hS; intro _ hS) | (refine L_store (t := 29) hS rfl rfl ?_; refine ⟨_, _, _, _, _, (.tail .head), run_store_row hS _ _ _ rfl _ rfl _ _ rfl _ (.tail .head) (size29_iv _ _) (iv_sizes _ _ _ _) (oneCells_iv _ _), ?_⟩; clear hS; intro _ hS) | (go_at_call 94; (with_reducible refine Gives.use (G) hS ?_); clear hS; intro _ hS) | (go_at_call 93; (with_reducible refine Gives.use (checked_yes _ _ hkl.out) hS ?_); clear hS; intro _ hS))
    (try simp only [Exit.inBlock, Exit.then]); refine bodyPost_ret (res_cell_tmp rfl _ _ _ (run_loadRow hS _ _ _ _ (.inl (.tail _ (.head _))) _ Tryz.underlying29 rfl (size29_iv _ _)) rfl _ rfl) rfl ⟨?_, hS.below⟩
    rw [HR.out]; rfl
  · have G : Gives Tryz.prog 94 #[.agg (mgk 32 n), .agg (mgk 32 m)] (.tuple #[.agg (mgk 32 k), .bool false]) := by
      have := times_any n m hn hm
      rwa [isz_false (fun h => hfit ((Nat.div_eq_zero_iff_lt (pw_pos 32)).1 h)), ← hk] at this
    have HR : Hid (resZ (vz (s != t) (n * m)) = .tuple #[.agg (ivZ 0), .int .i64 10]) := resZ_vz_not hfit
    clear hn hm hfit hk
    go_enter Tryz.func77, Tryz.ntmps77
    go_wp2_with (first | (refine L_box_agg hS rfl rfl ?_; refine ⟨_, rfl, ?_⟩; clear hS; intro _ _ hS) | (refine L_alloc_agg hS rfl rfl ?_; refine ⟨_, zero29, ?_⟩; clear hS; intro _ _ hS) | (refine L_alloc_agg hS rfl rfl ?_; refine ⟨_, zero74, ?_⟩; clear hS; intro _ _ hS) | (refine L_load (t := 27) rfl rfl ?_; refine ⟨_, run_load_mid hS _ _ rfl _ _ rfl _ _ (.inl (.tail _ (.tail _ (.head _)))) _ Tryz.underlying27 rfl (mgk 32 _) (size27_mg _) (fun k _ => iv_mag _ _ k), ?_⟩) | (refine L_load (t := 27) rfl rfl ?_; refine ⟨_, run_load_mid hS _ _ rfl _ _ rfl _ _ (.inl (.tail _ (.head _))) _ Tryz.underlying27 rfl (mgk 32 _) (size27_mg _) (fun k _ => iv_mag _ _ k), ?_⟩) | (refine L_load (t := 4) rfl rfl ?_; refine ⟨_, run_load_cell hS _ _ rfl _ _ rfl _ _ (.inl (.tail _ (.tail _ (.tail _ (.head _))))) _ Tryz.underlying4 rfl _ (iv_neg _ _), ?_⟩) | (refine L_load (t := 4) rfl rfl ?_; refine ⟨_, run_load_cell hS _ _ rfl _ _ rfl _ _ (.inl (.tail _ (.tail _ (.head _)))) _ Tryz.underlying4 rfl _ (iv_neg _ _), ?_⟩) | (refine L_load (t := 74) rfl rfl ?_; refine ⟨_, run_load_row hS _ _ rfl _ rfl _ _ (.inl (.head _)) _ Tryz.underlying74 rfl (size74_mg _), ?_⟩) | (refine L_store (t := 74) hS rfl rfl ?_; refine ⟨_, _, _, _, _, (.head), run_store_row hS _ _ _ rfl _ rfl _ _ rfl _ (.head) (size74_mg _) (mg_sizes _ _ _) (oneCells _ _), ?_⟩; clear hS; intro _ hS) | (refine L_store (t := 29) hS rfl rfl ?_; refine ⟨_, _, _, _, _, (.tail .head), run_store_row hS _ _ _ rfl _ rfl _ _ rfl _ (.tail .head) (size29_iv _ _) (iv_sizes _ _ _ _) (oneCells_iv _ _), ?_⟩; clear hS; intro _ hS) | (go_at_call 94; (with_reducible refine Gives.use (G) hS ?_); clear hS; intro _ hS) | (go_at_call 93; (with_reducible refine Gives.use (checked_no _ _ hkl.out) hS ?_); clear hS; intro _ hS))
    (try simp only [Exit.inBlock, Exit.then]); refine bodyPost_ret (res_cell_tmp rfl _ _ _ (run_loadRow hS _ _ _ _ (.inl (.tail _ (.head _))) _ Tryz.underlying29 rfl (size29_iv _ _)) rfl _ rfl) rfl ⟨?_, hS.below⟩
    rw [HR.out]; rfl
end Go.Proofs.YtfdlgeomaballaaGreat
