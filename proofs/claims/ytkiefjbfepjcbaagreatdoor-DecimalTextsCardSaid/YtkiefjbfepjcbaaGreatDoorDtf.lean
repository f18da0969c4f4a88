/- Merged: Qf, Rc, Rd, Rf, Rh, Qg, Qh, Qi, Ke, Ko, Kp, Nd, Kd, Kl, Km, Zz, Tc, Ti, Re, Td, Te, Tf, Tg, Th, Tu, Ty. -/
import Derived.Test.YtkiefjbfepjcbaaGreatDoorDtd
import Derived.Test.YtkiefjbfepjcbaaGreatDoorDte
import Derived.Test.YtkiefjbfepjcbaaGreatDoorDta
import Derived.Great.BuildSlice
import Derived.Laws.Cover1
section
namespace Go.Proofs.YtkiefjbfepjcbaaGreatDoor
open Go.RowKit Go.Proofs.YtkiefjbfepjcbaaGreatDoor.Sx
set_option linter.unusedSimpArgs false
set_option linter.unusedVariables false

theorem diff_limb (x y c : Nat) (hx : x < 4294967296) (hy : y < 4294967296) (hc : c ≤ 1) :
    IntKind.u32.wrap (ariI .sub .u64 (ariI .sub .u64 ((x : Nat) : Int) ((y : Nat) : Int)) ((c : Nat) : Int)) = (((x + 4294967296 - y - c) % 4294967296 : Nat) : Int) ∧
    shfI .shr .u64 (ariI .sub .u64 (ariI .sub .u64 ((x : Nat) : Int) ((y : Nat) : Int)) ((c : Nat) : Int)) 63 = ((brw x y c : Nat) : Int) := by
  have e : ariI .sub .u64 (ariI .sub .u64 ((x : Nat) : Int) ((y : Nat) : Int)) ((c : Nat) : Int) = (((x + 18446744073709551616 - y - c) % 18446744073709551616 : Nat) : Int) := by
    simp only [ariI, IntKind.wrap_u64]; omega
  rw [e]
  constructor
  · rw [wrap_u32]; congr 1; omega
  · have := shr_of (k := .u64) ((x + 18446744073709551616 - y - c) % 18446744073709551616) 63 9223372036854775808 (by decide) rfl
    rw [show ((63 : Nat) : Int) = 63 by rfl] at this
    rw [this]; congr 1
    unfold brw; split <;> omega
set_option maxHeartbeats 1000000 in
theorem rdiff_loop (n m : Nat) :
    Ev.holds Tryz.prog (env [.agg (mgk 32 n), .agg (mgk 32 m), .int .i64 (32 : Nat), .int .u64 (mbrw n m 32 : Nat), .agg (mgk 32 (mdif n m 32))]) (.loop 114 0 divS114_0 divH114_0 (.exit 0) .none 3) := by
  refine loop_holds plain (m := 3) (x := .exit 0) (alt := none) [.agg (mgk 32 n), .agg (mgk 32 m)] [.int .i64 (32 : Nat), .int .u64 (mbrw n m 32 : Nat), .agg (mgk 32 (mdif n m 32))] tDiff0_ok tDiff0_fine
    (fun vs => ∃ i : Nat, i ≤ 32 ∧ vs = [.int .i64 (i : Nat), .int .u64 (mbrw n m i : Nat), .agg (mgk 32 (mdif n m i))])
    (fun vs => 32 - (vInt (vs.getD 0 undef)).toNat) tDiff0_diff ?_ ?_
  · refine ⟨[.int .i64 (0 : Nat), .int .u64 (mbrw n m 0 : Nat), .agg (mgk 32 (mdif n m 0))], rfl, ⟨0, by omega, rfl⟩, ?_⟩
    have hz : rowCells (.agg (mgk 32 0)) 32 = List.replicate 32 (.int .u32 0) := by rw [rowCells_mgk, mgl_zero]
    rw [mbrw_zero, mdif_zero]
    simp [tDiff0_d, BTm.den, Tm.i, Tm.s, Tm.den, env, vInt, vBool, vStr, exI, SW.den, SV.den, Cell.den, densP, Piece.den, denV, denT, hz]
  · rintro vs hl ⟨i, hi, rfl⟩
    clear hl
    refine tree_ite (ev_nil ⟨fun hlt => tree_leaf ?_, fun hlt => tree_leaf (ev_nil ?_)⟩)
    · have hlt : i < 32 := by
        have : (i : Int) < 32 := by simpa [BTm.den, Tm.i, Tm.s, Tm.den, env, vInt, vBool, vStr, exI] using hlt
        omega
      have hx := limb_lt n i
      have hy := limb_lt m i
      have hc := mbrw_le n m i
      obtain ⟨h1, h2⟩ := diff_limb (limb n i) (limb m i) (mbrw n m i) hx hy hc
      have h3 := mbrw_next n m i
      have h4 := mdif_next n m i
      have h5 := mdif_lt n m i
      rw [← h3] at h2
      obtain ⟨c, hcc⟩ : ∃ c, c = mbrw n m i := ⟨_, rfl⟩
      obtain ⟨c', hcc'⟩ : ∃ c, c = mbrw n m (i + 1) := ⟨_, rfl⟩
      obtain ⟨W, hW⟩ : ∃ c, c = mdif n m i := ⟨_, rfl⟩
      obtain ⟨W', hW'⟩ : ∃ c, c = mdif n m (i + 1) := ⟨_, rfl⟩
      rw [← hcc, ← hW, ← hW'] at h4
      rw [← hcc] at h1 h2 hc
      rw [← hcc'] at h2
      rw [← hW] at h5
      rw [← hcc, ← hW]
      refine ev_need (by simp [BTm.den, Tm.i, Tm.s, Tm.den, env, vInt, vBool, vStr, exI] <;> omega) ?_
      refine ev_need (by simp [BTm.den, Tm.i, Tm.s, Tm.den, env, vInt, vBool, vStr, exI] <;> omega) ?_
      refine ev_elem [.int .u32 (limb n i : Nat)] rfl rfl (l := mgl 32 n) (m := [.int .u32 (limb n i : Nat)]) (k := i) (by simp [BTm.den, Tm.i, Tm.s, Tm.den, env, vInt, vBool, vStr, exI] <;> omega) (fun β => rowCells_mgk 32 n) (fun β => rfl) (mgl_elem (by omega)) ?_
      refine ev_fits ((limb n i : Nat)) (by simp [BTm.den, Tm.i, Tm.s, Tm.den, env, vInt, vBool, vStr, exI]) (rng_u64 _ (by omega)) ?_
      refine ev_need (by simp [BTm.den, Tm.i, Tm.s, Tm.den, env, vInt, vBool, vStr, exI] <;> omega) ?_
      refine ev_need (by simp [BTm.den, Tm.i, Tm.s, Tm.den, env, vInt, vBool, vStr, exI] <;> omega) ?_
      refine ev_elem [.int .u32 (limb m i : Nat)] rfl rfl (l := mgl 32 m) (m := [.int .u32 (limb m i : Nat)]) (k := i) (by simp [BTm.den, Tm.i, Tm.s, Tm.den, env, vInt, vBool, vStr, exI] <;> omega) (fun β => rowCells_mgk 32 m) (fun β => rfl) (mgl_elem (by omega)) ?_
      refine ev_fits ((limb m i : Nat)) (by simp [BTm.den, Tm.i, Tm.s, Tm.den, env, vInt, vBool, vStr, exI]) (rng_u64 _ (by omega)) ?_
      refine ev_need (by simp [BTm.den, Tm.i, Tm.s, Tm.den, env, vInt, vBool, vStr, exI] <;> omega) ?_
      refine ev_need (by simp [BTm.den, Tm.i, Tm.s, Tm.den, env, vInt, vBool, vStr, exI] <;> omega) ?_
      obtain ⟨D, hD⟩ : ∃ D, D = (limb n i + 4294967296 - limb m i - c) % 4294967296 := ⟨_, rfl⟩
      have hDl : D < 4294967296 := by omega
      rw [← hD] at h1 h4
      have hput : mgl 32 W' = (mgl 32 W).take i ++ [.int .u32 (D : Nat)] ++ (mgl 32 W).drop (i + 1) := by
        rw [h4, ← put_low _ h5]; exact mgl_put (by omega) rfl hDl
      refine ev_put [.agg (mgk 32 W')] rfl rfl (l := mgl 32 W) (l' := mgl 32 W') (m := [.int .u32 (D : Nat)]) (k := i) (by simp [BTm.den, Tm.i, Tm.s, Tm.den, env, vInt, vBool, vStr, exI] <;> omega) (fun β => rowCells_mgk 32 _) (fun β => rowCells_mgk 32 _) (fun β => ?_) hput (by rw [mgl_length]; simp; omega) ?_
      · rw [← h1]; simp [BTm.den, Tm.i, Tm.s, Tm.den, env, vInt, vBool, vStr, exI, SW.den, SV.den, Cell.den, densP, Piece.den, denV, denT]
      refine ev_fits (((i + 1 : Nat) : Int)) (by simp [BTm.den, Tm.i, Tm.s, Tm.den, env, vInt, vBool, vStr, exI]) (rng_i64 _ (by omega)) ?_
      refine ev_nil ⟨[.int .i64 (i + 1 : Nat), .int .u64 (c' : Nat), .agg (mgk 32 W')], rfl, ⟨i + 1, by omega, by rw [hcc', hW']⟩, ?_, ?_⟩
      · simp [vInt]; omega
      · rw [← h2]; simp [BTm.den, Tm.i, Tm.s, Tm.den, env, vInt, vBool, vStr, exI, SW.den, SV.den, Cell.den, densP, Piece.den, denV, denT]
    · have hlt : i = 32 := by
        have : ¬ (i : Int) < 32 := by simpa [BTm.den, Tm.i, Tm.s, Tm.den, env, vInt, vBool, vStr, exI] using hlt
        omega
      subst hlt
      exact ⟨rfl, by simp [BTm.den, Tm.i, Tm.s, Tm.den, env, vInt, vBool, vStr, exI, SW.den, SV.den, Cell.den, densP, Piece.den, denV, denT]⟩
theorem mdif_all {n m : Nat} (hn : n < pw 32) (hm : m < pw 32) : mdif n m 32 = (n + pw 32 - m) % pw 32 := by
  unfold mdif; rw [Nat.mod_eq_of_lt hn, Nat.mod_eq_of_lt hm]
theorem rdiff_any (n m : Nat) : Gives Tryz.prog 114 #[.agg (mgk 32 n), .agg (mgk 32 m)] (.agg (mgk 32 (mdif n m 32))) := by
  have h := pure_of plain [.agg (mgk 32 n), .agg (mgk 32 m)] tDiff_ok (by kernel_rfl) (.agg (mgk 32 (mdif n m 32))) (tree_leaf ?_)
  · refine gives_pure ?_
    simpa [rowB, BTm.den, Tm.i, Tm.s, Tm.den, env, vInt, vBool, vStr, exI, SW.den, SV.den, Cell.den, densP, Piece.den, denV, denT, rowCells_mgk, mgl_agg] using h
  · have hl := rdiff_loop n m
    generalize mdif n m 32 = V at *
    generalize mbrw n m 32 = c at *
    refine ev_loop [.int .i64 (32 : Nat), .int .u64 (c : Nat), .agg (mgk 32 V)] rfl rfl hl (ev_nil fun β => ?_)
    simp [BTm.den, Tm.i, Tm.s, Tm.den, env, vInt, vBool, vStr, exI, SW.den, SV.den, Cell.den, densP, Piece.den, denV, denT, rowCells_mgk, mgl_agg]
theorem two_join (n : Nat) (hn : n < pw 2) : limb n 1 * 4294967296 + limb n 0 = n := by
  have h1 := mod_pw n 1
  have h0 := mod_pw n 0
  rw [mod_pw_zero] at h0
  rw [pw_zero] at h0
  rw [Nat.mod_eq_of_lt hn, h0, pw_one] at h1
  omega
theorem join_limbs (n : Nat) : ariI .or .u64 (shfI .shl .u64 ((limb n 1 : Nat) : Int) 32) ((limb n 0 : Nat) : Int) = ((limb n 1 * 4294967296 + limb n 0 : Nat) : Int) := by
  have h1 := limb_lt n 1
  have h0 := limb_lt n 0
  have := shl64_of (limb n 1) 32 4294967296 (by omega) rfl
  rw [show ((32 : Nat) : Int) = 32 by rfl] at this
  rw [this, Nat.mod_eq_of_lt (by omega)]
  exact ari_or64 (s := 32) _ _ (by omega) (by omega) (by omega) (by omega)
theorem rlow (n : Nat) (hn : n < pw 2) : Gives Tryz.prog 157 #[.agg (mgk 32 n)] (.int .u64 ((n : Nat) : Int)) := by
  have h := pure_of plain [.agg (mgk 32 n)] tLow_ok (by kernel_rfl) (.int .u64 ((n : Nat) : Int)) (tree_leaf ?_)
  · refine gives_pure ?_
    simpa [rowB, BTm.den, Tm.i, Tm.s, Tm.den, env, vInt, vBool, vStr, exI, SW.den, SV.den, Cell.den, densP, Piece.den, denV, denT, rowCells_mgk, mgl_agg] using h
  · have h1 := limb_lt n 1
    have h0 := limb_lt n 0
    have hj := join_limbs n
    rw [two_join n hn] at hj
    refine ev_elem [.int .u32 (limb n 1 : Nat)] rfl rfl (l := mgl 32 n) (m := [.int .u32 (limb n 1 : Nat)]) (k := 1) (by simp [BTm.den, Tm.i, Tm.s, Tm.den, env, vInt, vBool, vStr, exI] <;> omega) (fun β => rowCells_mgk 32 n) (fun β => rfl) (mgl_elem (by omega)) ?_
    refine ev_fits ((limb n 1 : Nat)) (by simp [BTm.den, Tm.i, Tm.s, Tm.den, env, vInt, vBool, vStr, exI]) (rng_u64 _ (by omega)) ?_
    refine ev_elem [.int .u32 (limb n 0 : Nat)] rfl rfl (l := mgl 32 n) (m := [.int .u32 (limb n 0 : Nat)]) (k := 0) (by simp [BTm.den, Tm.i, Tm.s, Tm.den, env, vInt, vBool, vStr, exI] <;> omega) (fun β => rowCells_mgk 32 n) (fun β => rfl) (mgl_elem (by omega)) ?_
    refine ev_fits ((limb n 0 : Nat)) (by simp [BTm.den, Tm.i, Tm.s, Tm.den, env, vInt, vBool, vStr, exI]) (rng_u64 _ (by omega)) ?_
    refine ev_nil fun β => ?_
    rw [← hj]
    simp [BTm.den, Tm.i, Tm.s, Tm.den, env, vInt, vBool, vStr, exI, SW.den, SV.den, Cell.den, densP, Piece.den, denV, denT]
theorem mgl_two (n : Nat) (hn : n < pw 2) : mgl 32 n = .int .u32 ((limb n 0 : Nat) : Int) :: .int .u32 ((limb n 1 : Nat) : Int) :: List.replicate 30 (.int .u32 0) := by
  apply List.ext_getElem?
  intro i
  by_cases hi : i < 32
  · rw [mgl_get hi]
    rcases Nat.lt_or_ge i 2 with h | h
    · rcases (by omega : i = 0 ∨ i = 1) with rfl | rfl <;> rfl
    · obtain ⟨j, rfl⟩ : ∃ j, i = j + 2 := ⟨i - 2, by omega⟩
      rw [limb_of_ge (Nat.lt_of_lt_of_le hn (pw_le h))]
      rw [List.getElem?_cons_succ, List.getElem?_cons_succ, List.getElem?_replicate, if_pos (by omega)]; rfl
  · rw [List.getElem?_eq_none (by rw [mgl_length]; omega), List.getElem?_eq_none (by simp; omega)]
theorem rsmall (n : Nat) (hn : n < pw 2) : Gives Tryz.prog 156 #[.int .u64 ((n : Nat) : Int)] (.agg (mgk 32 n)) := by
  have h := pure_of plain [.int .u64 (n : Nat)] tSmall_ok (by kernel_rfl) (.agg (mgk 32 n)) (tree_leaf (ev_nil fun β => ?_))
  · refine gives_pure ?_
    simpa [rowB, BTm.den, Tm.i, Tm.s, Tm.den, env, vInt, vBool, vStr, exI, SW.den, SV.den, Cell.den, densP, Piece.den, denV, denT, rowCells_mgk, mgl_agg] using h
  · rw [← mgl_agg, mgl_two n hn]
    have e0 : limb n 0 = n % 4294967296 := by unfold limb; rw [div_pw_zero]
    have e1 : limb n 1 = n / 4294967296 % 4294967296 := by unfold limb; rw [pw_one]
    have := shr32 n
    rw [e0, e1, ← wrap_u32, ← wrap_u32, ← this]
    simp [BTm.den, Tm.i, Tm.s, Tm.den, env, vInt, vBool, vStr, exI, SW.den, SV.den, Cell.den, densP, Piece.den, denV, denT]
end Go.Proofs.YtkiefjbfepjcbaaGreatDoor
end
section
namespace Go.Proofs.YtkiefjbfepjcbaaGreatDoor
open Go.RowKit
set_option linter.unusedVariables false

set_option maxHeartbeats 800000 in
theorem rsum (n m : Nat) (hn : n < pw 32) (hm : m < pw 32) : Gives Tryz.prog 115 #[.agg (mgk 32 n), .agg (mgk 32 m)] (.tuple #[.agg (mgk 32 ((n + m) % pw 32)), .bool (decide (n + m < pw 32))]) := by
  intro w
  have hS := St.start w
  have HN := Lib.hid hn
  have HM := Lib.hid hm
  clear hn hm
  go_enter Tryz.func115, Tryz.ntmps115
  go_wp2_with (first | (refine L_box_agg hS rfl rfl ?_; refine ⟨_, rfl, ?_⟩; clear hS; intro _ _ hS) | (refine L_alloc_agg hS rfl rfl ?_; refine ⟨_, zero23, ?_⟩; clear hS; intro _ _ hS))
  rename_i b1 _ b2 _ b3 _ b4 w1 _ _
  go_loopw [7, 8] (fun cy i wr => ∃ k : Nat, k ≤ 32 ∧ i = .int .i64 k ∧ cy = .int .u64 ((pcar n m k : Nat) : Int) ∧ St none w wr [] [(b4, .cells (mgk 32 (psum n m k)) 23), (b3, .cells (mgk 32 0) 23), (b2, .cells (mgk 32 m) 23), (b1, .cells (mgk 32 n) 23)]) (fun _ i _ => 32 - (intOf i).toNat)
  case atStart =>
    exact ⟨0, by omega, rfl, by rw [pcar_zero]; rfl, by rw [psum_zero]; exact hS⟩
  case round =>
    clear hS
    obtain ⟨k, hk, rfl, rfl, hS⟩ := hrel
    have hc := pcar_le n m k
    by_cases hlt : k < 32
    · have hx := limb_lt n k
      have hy := limb_lt m k
      obtain ⟨V, hV⟩ : ∃ V, limb n k + limb m k + pcar n m k = V := ⟨_, rfl⟩
      have hVZ : ((limb n k : Nat) : Int) + ((limb m k : Nat) : Int) + ((pcar n m k : Nat) : Int) = ((V : Nat) : Int) := by omega
      have hVb : V ≤ 8589934591 := by omega
      go_wp2_with (fail)
      (try simp only [Act.put]); (try simp only [List.setIfInBounds_toArray, List.set_cons_succ, List.set_cons_zero]); refine wp_region_w0 hS (by kernel_rfl) (by kernel_rfl) ?_
      repeat (first
        | (refine S_load (t := 22) rfl rfl rfl rfl ?_; refine ⟨_, fun _ hS' => run_load_cell hS' _ _ rfl _ _ rfl _ _ (.inl (.tail _ (.tail _ (.head _)))) _ Tryz.underlying22 rfl _ (mgk_get' (by omega)), ?_⟩; simp only [Act.put, List.setIfInBounds_toArray, List.set_cons_succ, List.set_cons_zero])
        | (refine S_load (t := 22) rfl rfl rfl rfl ?_; refine ⟨_, fun _ hS' => run_load_cell hS' _ _ rfl _ _ rfl _ _ (.inl (.tail _ (.tail _ (.tail _ (.head _))))) _ Tryz.underlying22 rfl _ (mgk_get' (by omega)), ?_⟩; simp only [Act.put, List.setIfInBounds_toArray, List.set_cons_succ, List.set_cons_zero])
        | (refine S_run rfl rfl ?_; apply Exists.intro; refine ⟨fun _ => ?_, ?_⟩; (focus (go_simp; (try go_bits); exact rfl)); simp only [Act.put, List.setIfInBounds_toArray, List.set_cons_succ, List.set_cons_zero]))
      refine S_end0 ?_; clear hS; intro _ hS
      go_wp2_with (first | (refine L_store (t := 22) hS rfl rfl ?_; refine ⟨_, _, mgk 32 (psum n m (k + 1)), _, _, (.head), run_store_cell hS _ _ _ rfl _ _ rfl _ rfl _ _ _ (.head) size22 rfl rfl ?_ ?_, ?_⟩; (focus (rw [mgk_size]; omega)); (focus (exact (mgk_fill' _ (addS (limb n k) (limb m k) (pcar n m k)) (by unfold addS; rw [hV]; rfl) (psum_lt _ _ _) (addS_lt _ _ _)).trans (by rw [psum_next]; rfl))); clear hS; intro _ hS))
      go_roundw
      case rel => exact ⟨k + 1, by omega, by go_num, by rw [pcar_next, hV]; rfl, hS⟩
      case measure => simp [intOf]; omega
    · have ek : k = 32 := by omega
      subst ek
      go_wp2_with (first | (refine L_load (t := 23) rfl rfl ?_; refine ⟨_, run_load_row hS _ _ rfl _ rfl _ _ (.inl (.head _)) _ Tryz.underlying23 rfl (size23_mg _), ?_⟩) | (refine L_store (t := 23) hS rfl rfl ?_; refine ⟨_, _, _, _, _, (.tail .head), run_store_row hS _ _ _ rfl _ rfl _ _ rfl _ (.tail .head) (size23_mg _) (mg_sizes _ _ _) (oneCells _ _), ?_⟩; clear hS; intro _ hS))
      (try simp only [Exit.inBlock, Exit.then]); refine bodyPost_ret (res_cell_tmp rfl _ _ _ (run_loadRow hS _ _ _ _ (.inl (.tail _ (.head _))) _ Tryz.underlying23 rfl (size23_mg _)) rfl _ rfl) rfl ⟨?_, hS.below⟩
      refine ret2 (by rw [psum_end HN.out HM.out]) (congrArg Value.bool ?_)
      have h0 := pcar_end HN.out HM.out
      by_cases h1 : pcar n m 32 = 0
      · simp [h1, h0.1 h1]
      · have h2 : ¬ n + m < pw 32 := fun h => h1 (h0.2 h)
        simp [h1, h2]

def dif64 (x y c : Nat) : Nat := if x < y + c then x + 18446744073709551616 - y - c else x - y - c
theorem dif64_wrap {x y c : Nat} (hx : x < 4294967296) (hy : y < 4294967296) (hc : c ≤ 1) : IntKind.u64.wrap (IntKind.u64.wrap ((x : Int) - (y : Int)) - (c : Int)) = ((dif64 x y c : Nat) : Int) := by
  have wr : ∀ z : Int, IntKind.u64.wrap z = z % 18446744073709551616 := fun z => by simp [IntKind.wrap, IntKind.signed, IntKind.bits]
  rw [wr, wr]
  unfold dif64
  split <;> omega
theorem dif64_lt {x y c : Nat} (hx : x < 4294967296) : dif64 x y c < 18446744073709551616 := by unfold dif64; split <;> omega
theorem dif64_low {x y c : Nat} (hx : x < 4294967296) (hy : y < 4294967296) (hc : c ≤ 1) : dif64 x y c % 4294967296 = subD x y c := by unfold dif64 subD; split <;> omega
theorem dif64_high {x y c : Nat} (hx : x < 4294967296) (hy : y < 4294967296) (hc : c ≤ 1) : dif64 x y c / 9223372036854775808 = brw x y c := by unfold dif64 brw; split <;> omega
set_option maxHeartbeats 800000 in
theorem rdiff (n m : Nat) (hn : n < pw 32) (hm : m ≤ n) : Gives Tryz.prog 114 #[.agg (mgk 32 n), .agg (mgk 32 m)] (.agg (mgk 32 (n - m))) := by
  intro w
  have hS := St.start w
  have HN := Lib.hid hn
  have HM := Lib.hid hm
  clear hn hm
  go_enter Tryz.func114, Tryz.ntmps114
  go_wp2_with (first | (refine L_box_agg hS rfl rfl ?_; refine ⟨_, rfl, ?_⟩; clear hS; intro _ _ hS) | (refine L_alloc_agg hS rfl rfl ?_; refine ⟨_, zero23, ?_⟩; clear hS; intro _ _ hS))
  rename_i b1 _ b2 _ b3 _ b4 w1 _ _
  go_loopw [6, 7] (fun cy i wr => ∃ k : Nat, k ≤ 32 ∧ i = .int .i64 k ∧ cy = .int .u64 ((mbrw n m k : Nat) : Int) ∧ St none w wr [] [(b4, .cells (mgk 32 (mdif n m k)) 23), (b3, .cells (mgk 32 0) 23), (b2, .cells (mgk 32 m) 23), (b1, .cells (mgk 32 n) 23)]) (fun _ i _ => 32 - (intOf i).toNat)
  case atStart =>
    exact ⟨0, by omega, rfl, by rw [mbrw_zero]; rfl, by rw [mdif_zero]; exact hS⟩
  case round =>
    clear hS
    obtain ⟨k, hk, rfl, rfl, hS⟩ := hrel
    have hc := mbrw_le n m k
    by_cases hlt : k < 32
    · have hx := limb_lt n k
      have hy := limb_lt m k
      go_wp2_with (fail)
      (try simp only [Act.put]); (try simp only [List.setIfInBounds_toArray, List.set_cons_succ, List.set_cons_zero]); refine wp_region_w0 hS (by kernel_rfl) (by kernel_rfl) ?_
      repeat (first
        | (refine S_load (t := 22) rfl rfl rfl rfl ?_; refine ⟨_, fun _ hS' => run_load_cell hS' _ _ rfl _ _ rfl _ _ (.inl (.tail _ (.tail _ (.head _)))) _ Tryz.underlying22 rfl _ (mgk_get' (by omega)), ?_⟩; simp only [Act.put, List.setIfInBounds_toArray, List.set_cons_succ, List.set_cons_zero])
        | (refine S_load (t := 22) rfl rfl rfl rfl ?_; refine ⟨_, fun _ hS' => run_load_cell hS' _ _ rfl _ _ rfl _ _ (.inl (.tail _ (.tail _ (.tail _ (.head _))))) _ Tryz.underlying22 rfl _ (mgk_get' (by omega)), ?_⟩; simp only [Act.put, List.setIfInBounds_toArray, List.set_cons_succ, List.set_cons_zero])
        | (refine S_run rfl rfl ?_; apply Exists.intro; refine ⟨fun _ => ?_, ?_⟩; (focus (go_simp; (try go_bits); exact rfl)); simp only [Act.put, List.setIfInBounds_toArray, List.set_cons_succ, List.set_cons_zero]))
      refine S_end0 ?_; clear hS; intro _ hS
      have HVZ := dif64_wrap hx hy hc
      have HVL := Lib.hid (dif64_low hx hy hc)
      have HVH := Lib.hid (dif64_high hx hy hc)
      have HVB := dif64_lt (y := limb m k) (c := mbrw n m k) hx
      generalize dif64 (limb n k) (limb m k) (mbrw n m k) = V at *
      rw [HVZ]
      clear HVZ
      go_wp2_with (first | (refine L_store (t := 22) hS rfl rfl ?_; refine ⟨_, _, mgk 32 (mdif n m (k + 1)), _, _, (.head), run_store_cell hS _ _ _ rfl _ _ rfl _ rfl _ _ _ (.head) size22 rfl rfl ?_ ?_, ?_⟩; (focus (rw [mgk_size]; omega)); (focus (exact (mgk_fill' _ (subD (limb n k) (limb m k) (mbrw n m k)) (by rw [← HVL.out]; rfl) (mdif_lt _ _ _) (subD_lt _ _ _)).trans (by rw [mdif_next]; rfl))); clear hS; intro _ hS))
      go_roundw
      case rel => exact ⟨k + 1, by omega, by go_num, by rw [mbrw_next, ← HVH.out]; rfl, hS⟩
      case measure => simp [intOf]; omega
    · have ek : k = 32 := by omega
      subst ek
      go_wp2_with (first | (refine L_load (t := 23) rfl rfl ?_; refine ⟨_, run_load_row hS _ _ rfl _ rfl _ _ (.inl (.head _)) _ Tryz.underlying23 rfl (size23_mg _), ?_⟩) | (refine L_store (t := 23) hS rfl rfl ?_; refine ⟨_, _, _, _, _, (.tail .head), run_store_row hS _ _ _ rfl _ rfl _ _ rfl _ (.tail .head) (size23_mg _) (mg_sizes _ _ _) (oneCells _ _), ?_⟩; clear hS; intro _ hS))
      (try simp only [Exit.inBlock, Exit.then]); refine bodyPost_ret (res_cell rfl hS _ _ _ _ (.inl (.tail _ (.head _))) rfl _ Tryz.underlying23 rfl (size23_mg _)) rfl ⟨?_, hS.below⟩
      rw [mdif_end HN.out HM.out]
end Go.Proofs.YtkiefjbfepjcbaaGreatDoor
end
section
namespace Go.Proofs.YtkiefjbfepjcbaaGreatDoor
open Go.RowKit
set_option linter.unusedVariables false

theorem vz_canon (s : Bool) (n : Nat) : vz (s && !isz n) n = vz s n := by
  by_cases h : n = 0
  · subst h; rw [vz_zero, vz_zero]
  · rw [isz_false h]; simp
theorem rcanon' (s s' : Bool) (n : Nat) (hn : n < pw 32) (h : (s && !isz n) = s') : Gives Tryz.prog 116 #[.bool s, .agg (mgk 32 n)] (.agg (iv s' n)) := by
  have := rcanon s n hn
  rwa [ivZ_vz, h] at this
theorem resZ_vz {s : Bool} {n : Nat} (hn : n < pw 32) : resZ (vz s n) = .tuple #[.agg (ivZ (vz s n)), .int .i64 0] := resZ_fits (by rw [vz_abs]; exact hn)

set_option maxRecDepth 100000 in
set_option maxHeartbeats 1000000 in
theorem radd_same (s t u : Bool) (n m : Nat) (hn : n < pw 32) (hm : m < pw 32) (hs : (s && !isz n) = u) (ht : (t && !isz m) = u) : Gives Tryz.prog 55 #[.agg (iv s n), .agg (iv t m)] (resZ (vz u n + vz u m)) := by
  intro w
  have hS := St.start w
  have HN := Lib.hid hn
  have HM := Lib.hid hm
  have HC1 := rcanon' s u n hn hs
  have HC2 := rcanon' t u m hm ht
  have hss : (u == u) = true := by simp
  rw [vz_add_same]
  by_cases hfit : n + m < pw 32
  · have HR : Hid (resZ (vz u (n + m)) = _) := resZ_vz hfit
    have hd := decide_eq_true hfit
    have HL : Hid ((n + m) % pw 32 = n + m) := Nat.mod_eq_of_lt hfit
    clear hn hm hfit hs ht
    go_enter Tryz.func55, Tryz.ntmps55
    go_wp2_with (first | (refine L_box_agg hS rfl rfl ?_; refine ⟨_, rfl, ?_⟩; clear hS; intro _ _ hS) | (refine L_alloc_agg hS rfl rfl ?_; refine ⟨_, zero25, ?_⟩; clear hS; intro _ _ hS))
    (try simp only [Act.put]); (try simp only [List.setIfInBounds_toArray, List.set_cons_succ, List.set_cons_zero]); refine wp_region_u2 hS 10 11 [] (.tail (.tail (.head (o' := .cells (iv u n) 25)))) (.tail (.head (o' := .cells (iv u m) 25))) (by kernel_rfl) (by kernel_rfl) ?_
    (refine S_run rfl rfl ?_; apply Exists.intro; refine ⟨fun _ => ?_, ?_⟩; (focus (go_simp; (try go_bits); exact rfl)); simp only [Act.put, List.setIfInBounds_toArray, List.set_cons_succ, List.set_cons_zero])
    (refine S_load (t := 4) rfl rfl rfl rfl ?_; refine ⟨_, fun _ hS' => run_load_cell hS' _ _ rfl _ _ rfl _ _ (.inl (.tail _ (.tail _ (.head _)))) _ Tryz.underlying4 rfl _ (iv_neg _ _), ?_⟩; simp only [Act.put, List.setIfInBounds_toArray, List.set_cons_succ, List.set_cons_zero])
    (refine S_run rfl rfl ?_; apply Exists.intro; refine ⟨fun _ => ?_, ?_⟩; (focus (go_simp; (try go_bits); exact rfl)); simp only [Act.put, List.setIfInBounds_toArray, List.set_cons_succ, List.set_cons_zero])
    (refine S_load (t := 23) rfl rfl rfl rfl ?_; refine ⟨_, fun _ hS' => run_load_mid hS' _ _ rfl _ _ rfl _ _ (.inl (.tail _ (.tail _ (.head _)))) _ Tryz.underlying23 rfl (mgk 32 _) (size23_mg _) (fun k _ => iv_mag _ _ k), ?_⟩; simp only [Act.put, List.setIfInBounds_toArray, List.set_cons_succ, List.set_cons_zero])
    (refine S_call 116 rfl rfl rfl rfl ?_; apply Exists.intro; refine ⟨fun _ => ?_, ?_⟩; (focus (go_simp; exact rfl)); apply Exists.intro; (with_reducible refine ⟨HC1, ?_⟩); simp only [Act.put, List.setIfInBounds_toArray, List.set_cons_succ, List.set_cons_zero])
    (refine S_run rfl rfl ?_; apply Exists.intro; refine ⟨fun _ => ?_, ?_⟩; (focus (go_simp; (try go_bits); exact rfl)); simp only [Act.put, List.setIfInBounds_toArray, List.set_cons_succ, List.set_cons_zero])
    (refine S_load (t := 4) rfl rfl rfl rfl ?_; refine ⟨_, fun _ hS' => run_load_cell hS' _ _ rfl _ _ rfl _ _ (.inl (.tail _ (.head _))) _ Tryz.underlying4 rfl _ (iv_neg _ _), ?_⟩; simp only [Act.put, List.setIfInBounds_toArray, List.set_cons_succ, List.set_cons_zero])
    (refine S_run rfl rfl ?_; apply Exists.intro; refine ⟨fun _ => ?_, ?_⟩; (focus (go_simp; (try go_bits); exact rfl)); simp only [Act.put, List.setIfInBounds_toArray, List.set_cons_succ, List.set_cons_zero])
    (refine S_load (t := 23) rfl rfl rfl rfl ?_; refine ⟨_, fun _ hS' => run_load_mid hS' _ _ rfl _ _ rfl _ _ (.inl (.tail _ (.head _))) _ Tryz.underlying23 rfl (mgk 32 _) (size23_mg _) (fun k _ => iv_mag _ _ k), ?_⟩; simp only [Act.put, List.setIfInBounds_toArray, List.set_cons_succ, List.set_cons_zero])
    (refine S_call 116 rfl rfl rfl rfl ?_; apply Exists.intro; refine ⟨fun _ => ?_, ?_⟩; (focus (go_simp; exact rfl)); apply Exists.intro; (with_reducible refine ⟨HC2, ?_⟩); simp only [Act.put, List.setIfInBounds_toArray, List.set_cons_succ, List.set_cons_zero])
    (refine S_store (t := 25) rfl rfl rfl ?_; refine ⟨_, _, _, _, (.tail (.tail .head)), fun _ hS' => run_store_row hS' _ _ _ rfl _ rfl _ _ rfl _ (.tail (.tail .head)) (size25_iv _ _) (iv_sizes _ _ _ _) (oneCells_iv _ _), ?_⟩; simp only [Act.put])
    (refine S_store (t := 25) rfl rfl rfl ?_; refine ⟨_, _, _, _, (.tail .head), fun _ hS' => run_store_row hS' _ _ _ rfl _ rfl _ _ rfl _ (.tail .head) (size25_iv _ _) (iv_sizes _ _ _ _) (oneCells_iv _ _), ?_⟩; simp only [Act.put])
    refine S_end2 ?_; clear hS; intro _ hS
    go_wp2_with (first | (refine L_load (t := 4) rfl rfl ?_; refine ⟨_, run_load_cell hS _ _ rfl _ _ rfl _ _ (.inl (.tail _ (.tail _ (.head _)))) _ Tryz.underlying4 rfl _ (iv_neg _ _), ?_⟩) | (refine L_load (t := 4) rfl rfl ?_; refine ⟨_, run_load_cell hS _ _ rfl _ _ rfl _ _ (.inl (.tail _ (.head _))) _ Tryz.underlying4 rfl _ (iv_neg _ _), ?_⟩) | (refine L_load (t := 4) rfl rfl ?_; refine ⟨_, run_load_cell hS _ _ rfl _ _ rfl _ _ (.inl (.tail _ (.tail _ (.tail _ (.head _))))) _ Tryz.underlying4 rfl _ (iv_neg _ _), ?_⟩) | (refine L_load (t := 23) rfl rfl ?_; refine ⟨_, run_load_mid hS _ _ rfl _ _ rfl _ _ (.inl (.tail _ (.tail _ (.head _)))) _ Tryz.underlying23 rfl (mgk 32 _) (size23_mg _) (fun k _ => iv_mag _ _ k), ?_⟩) | (refine L_load (t := 23) rfl rfl ?_; refine ⟨_, run_load_mid hS _ _ rfl _ _ rfl _ _ (.inl (.tail _ (.head _))) _ Tryz.underlying23 rfl (mgk 32 _) (size23_mg _) (fun k _ => iv_mag _ _ k), ?_⟩) | (refine L_alloc_agg hS rfl rfl ?_; refine ⟨_, zero23, ?_⟩; clear hS; intro _ _ hS) | (refine L_load (t := 23) rfl rfl ?_; refine ⟨_, run_load_row hS _ _ rfl _ rfl _ _ (.inl (.head _)) _ Tryz.underlying23 rfl (size23_mg _), ?_⟩) | (refine L_store (t := 23) hS rfl rfl ?_; refine ⟨_, _, _, _, _, (.head), run_store_row hS _ _ _ rfl _ rfl _ _ rfl _ (.head) (size23_mg _) (mg_sizes _ _ _) (oneCells _ _), ?_⟩; clear hS; intro _ hS) | (refine L_store (t := 25) hS rfl rfl ?_; refine ⟨_, _, _, _, _, (.tail .head), run_store_row hS _ _ _ rfl _ rfl _ _ rfl _ (.tail .head) (size25_iv _ _) (iv_sizes _ _ _ _) (oneCells_iv _ _), ?_⟩; clear hS; intro _ hS) | (go_at_call 115; (with_reducible refine Gives.use (rsum _ _ HN.out HM.out) hS ?_); clear hS; intro _ hS) | (go_at_call 116; (with_reducible refine Gives.use (rcanon _ _ (Nat.mod_lt _ (pw_pos _))) hS ?_); clear hS; intro _ hS))
    (try simp only [Exit.inBlock, Exit.then]); refine bodyPost_ret (res_cell_tmp rfl _ _ _ (run_loadRow hS _ _ _ _ (.inl (.tail _ (.head _))) _ Tryz.underlying25 rfl (size25_iv _ _)) rfl _ rfl) rfl ⟨?_, hS.below⟩
    rw [HR.out, HL.out]; rfl
  · have HR : Hid (resZ (vz u (n + m)) = _) := resZ_not (z := vz u (n + m)) (by rw [vz_abs]; exact hfit)
    have hd := decide_eq_false hfit
    clear hn hm hfit hs ht
    go_enter Tryz.func55, Tryz.ntmps55
    go_wp2_with (first | (refine L_box_agg hS rfl rfl ?_; refine ⟨_, rfl, ?_⟩; clear hS; intro _ _ hS) | (refine L_alloc_agg hS rfl rfl ?_; refine ⟨_, zero25, ?_⟩; clear hS; intro _ _ hS))
    (try simp only [Act.put]); (try simp only [List.setIfInBounds_toArray, List.set_cons_succ, List.set_cons_zero]); refine wp_region_u2 hS 10 11 [] (.tail (.tail (.head (o' := .cells (iv u n) 25)))) (.tail (.head (o' := .cells (iv u m) 25))) (by kernel_rfl) (by kernel_rfl) ?_
    (refine S_run rfl rfl ?_; apply Exists.intro; refine ⟨fun _ => ?_, ?_⟩; (focus (go_simp; (try go_bits); exact rfl)); simp only [Act.put, List.setIfInBounds_toArray, List.set_cons_succ, List.set_cons_zero])
    (refine S_load (t := 4) rfl rfl rfl rfl ?_; refine ⟨_, fun _ hS' => run_load_cell hS' _ _ rfl _ _ rfl _ _ (.inl (.tail _ (.tail _ (.head _)))) _ Tryz.underlying4 rfl _ (iv_neg _ _), ?_⟩; simp only [Act.put, List.setIfInBounds_toArray, List.set_cons_succ, List.set_cons_zero])
    (refine S_run rfl rfl ?_; apply Exists.intro; refine ⟨fun _ => ?_, ?_⟩; (focus (go_simp; (try go_bits); exact rfl)); simp only [Act.put, List.setIfInBounds_toArray, List.set_cons_succ, List.set_cons_zero])
    (refine S_load (t := 23) rfl rfl rfl rfl ?_; refine ⟨_, fun _ hS' => run_load_mid hS' _ _ rfl _ _ rfl _ _ (.inl (.tail _ (.tail _ (.head _)))) _ Tryz.underlying23 rfl (mgk 32 _) (size23_mg _) (fun k _ => iv_mag _ _ k), ?_⟩; simp only [Act.put, List.setIfInBounds_toArray, List.set_cons_succ, List.set_cons_zero])
    (refine S_call 116 rfl rfl rfl rfl ?_; apply Exists.intro; refine ⟨fun _ => ?_, ?_⟩; (focus (go_simp; exact rfl)); apply Exists.intro; (with_reducible refine ⟨HC1, ?_⟩); simp only [Act.put, List.setIfInBounds_toArray, List.set_cons_succ, List.set_cons_zero])
    (refine S_run rfl rfl ?_; apply Exists.intro; refine ⟨fun _ => ?_, ?_⟩; (focus (go_simp; (try go_bits); exact rfl)); simp only [Act.put, List.setIfInBounds_toArray, List.set_cons_succ, List.set_cons_zero])
    (refine S_load (t := 4) rfl rfl rfl rfl ?_; refine ⟨_, fun _ hS' => run_load_cell hS' _ _ rfl _ _ rfl _ _ (.inl (.tail _ (.head _))) _ Tryz.underlying4 rfl _ (iv_neg _ _), ?_⟩; simp only [Act.put, List.setIfInBounds_toArray, List.set_cons_succ, List.set_cons_zero])
    (refine S_run rfl rfl ?_; apply Exists.intro; refine ⟨fun _ => ?_, ?_⟩; (focus (go_simp; (try go_bits); exact rfl)); simp only [Act.put, List.setIfInBounds_toArray, List.set_cons_succ, List.set_cons_zero])
    (refine S_load (t := 23) rfl rfl rfl rfl ?_; refine ⟨_, fun _ hS' => run_load_mid hS' _ _ rfl _ _ rfl _ _ (.inl (.tail _ (.head _))) _ Tryz.underlying23 rfl (mgk 32 _) (size23_mg _) (fun k _ => iv_mag _ _ k), ?_⟩; simp only [Act.put, List.setIfInBounds_toArray, List.set_cons_succ, List.set_cons_zero])
    (refine S_call 116 rfl rfl rfl rfl ?_; apply Exists.intro; refine ⟨fun _ => ?_, ?_⟩; (focus (go_simp; exact rfl)); apply Exists.intro; (with_reducible refine ⟨HC2, ?_⟩); simp only [Act.put, List.setIfInBounds_toArray, List.set_cons_succ, List.set_cons_zero])
    (refine S_store (t := 25) rfl rfl rfl ?_; refine ⟨_, _, _, _, (.tail (.tail .head)), fun _ hS' => run_store_row hS' _ _ _ rfl _ rfl _ _ rfl _ (.tail (.tail .head)) (size25_iv _ _) (iv_sizes _ _ _ _) (oneCells_iv _ _), ?_⟩; simp only [Act.put])
    (refine S_store (t := 25) rfl rfl rfl ?_; refine ⟨_, _, _, _, (.tail .head), fun _ hS' => run_store_row hS' _ _ _ rfl _ rfl _ _ rfl _ (.tail .head) (size25_iv _ _) (iv_sizes _ _ _ _) (oneCells_iv _ _), ?_⟩; simp only [Act.put])
    refine S_end2 ?_; clear hS; intro _ hS
    go_wp2_with (first | (refine L_load (t := 4) rfl rfl ?_; refine ⟨_, run_load_cell hS _ _ rfl _ _ rfl _ _ (.inl (.tail _ (.tail _ (.head _)))) _ Tryz.underlying4 rfl _ (iv_neg _ _), ?_⟩) | (refine L_load (t := 4) rfl rfl ?_; refine ⟨_, run_load_cell hS _ _ rfl _ _ rfl _ _ (.inl (.tail _ (.head _))) _ Tryz.underlying4 rfl _ (iv_neg _ _), ?_⟩) | (refine L_load (t := 23) rfl rfl ?_; refine ⟨_, run_load_mid hS _ _ rfl _ _ rfl _ _ (.inl (.tail _ (.tail _ (.head _)))) _ Tryz.underlying23 rfl (mgk 32 _) (size23_mg _) (fun k _ => iv_mag _ _ k), ?_⟩) | (refine L_load (t := 23) rfl rfl ?_; refine ⟨_, run_load_mid hS _ _ rfl _ _ rfl _ _ (.inl (.tail _ (.head _))) _ Tryz.underlying23 rfl (mgk 32 _) (size23_mg _) (fun k _ => iv_mag _ _ k), ?_⟩) | (refine L_alloc_agg hS rfl rfl ?_; refine ⟨_, zero23, ?_⟩; clear hS; intro _ _ hS) | (refine L_load (t := 23) rfl rfl ?_; refine ⟨_, run_load_row hS _ _ rfl _ rfl _ _ (.inl (.head _)) _ Tryz.underlying23 rfl (size23_mg _), ?_⟩) | (refine L_store (t := 23) hS rfl rfl ?_; refine ⟨_, _, _, _, _, (.head), run_store_row hS _ _ _ rfl _ rfl _ _ rfl _ (.head) (size23_mg _) (mg_sizes _ _ _) (oneCells _ _), ?_⟩; clear hS; intro _ hS) | (refine L_store (t := 25) hS rfl rfl ?_; refine ⟨_, _, _, _, _, (.tail .head), run_store_row hS _ _ _ rfl _ rfl _ _ rfl _ (.tail .head) (size25_iv _ _) (iv_sizes _ _ _ _) (oneCells_iv _ _), ?_⟩; clear hS; intro _ hS) | (refine L_build rfl rfl ?_; refine ⟨_, built25, ?_⟩) | (go_at_call 115; (with_reducible refine Gives.use (rsum _ _ HN.out HM.out) hS ?_); clear hS; intro _ hS))
    (try simp only [Exit.inBlock, Exit.then]); refine bodyPost_ret (res_cell_tmp rfl _ _ _ (run_loadRow hS _ _ _ _ (.inl (.tail _ (.head _))) _ Tryz.underlying25 rfl (size25_iv _ _)) rfl _ rfl) rfl ⟨?_, hS.below⟩
    rw [HR.out, ← ivZ_zero]; rfl
set_option maxRecDepth 100000 in
set_option maxHeartbeats 1000000 in
theorem radd_other (s t u v : Bool) (n m : Nat) (hn : n < pw 32) (hm : m < pw 32) (hs : (s && !isz n) = u) (ht : (t && !isz m) = v) (huv : u ≠ v) : Gives Tryz.prog 55 #[.agg (iv s n), .agg (iv t m)] (resZ (vz u n + vz v m)) := by
  intro w
  have hS := St.start w
  have HN := Lib.hid hn
  have HM := Lib.hid hm
  have HC1 := rcanon' s u n hn hs
  have HC2 := rcanon' t v m hm ht
  have hss : (u == v) = false := by simpa using huv
  by_cases hlt : n < m
  · have HR : Hid (resZ (vz v (m - n)) = _) := resZ_vz (Nat.lt_of_le_of_lt (Nat.sub_le _ _) hm)
    have HD : Hid (m - n < pw 32) := Nat.lt_of_le_of_lt (Nat.sub_le _ _) hm
    have HE : Hid (n ≤ m) := Nat.le_of_lt hlt
    rw [vz_add_lt huv hlt]
    have hc := cmpv_lt hlt
    clear hn hm hlt hs ht huv
    go_enter Tryz.func55, Tryz.ntmps55
    go_wp2_with (first | (refine L_box_agg hS rfl rfl ?_; refine ⟨_, rfl, ?_⟩; clear hS; intro _ _ hS) | (refine L_alloc_agg hS rfl rfl ?_; refine ⟨_, zero25, ?_⟩; clear hS; intro _ _ hS))
    (try simp only [Act.put]); (try simp only [List.setIfInBounds_toArray, List.set_cons_succ, List.set_cons_zero]); refine wp_region_u2 hS 10 11 [] (.tail (.tail (.head (o' := .cells (iv u n) 25)))) (.tail (.head (o' := .cells (iv v m) 25))) (by kernel_rfl) (by kernel_rfl) ?_
    (refine S_run rfl rfl ?_; apply Exists.intro; refine ⟨fun _ => ?_, ?_⟩; (focus (go_simp; (try go_bits); exact rfl)); simp only [Act.put, List.setIfInBounds_toArray, List.set_cons_succ, List.set_cons_zero])
    (refine S_load (t := 4) rfl rfl rfl rfl ?_; refine ⟨_, fun _ hS' => run_load_cell hS' _ _ rfl _ _ rfl _ _ (.inl (.tail _ (.tail _ (.head _)))) _ Tryz.underlying4 rfl _ (iv_neg _ _), ?_⟩; simp only [Act.put, List.setIfInBounds_toArray, List.set_cons_succ, List.set_cons_zero])
    (refine S_run rfl rfl ?_; apply Exists.intro; refine ⟨fun _ => ?_, ?_⟩; (focus (go_simp; (try go_bits); exact rfl)); simp only [Act.put, List.setIfInBounds_toArray, List.set_cons_succ, List.set_cons_zero])
    (refine S_load (t := 23) rfl rfl rfl rfl ?_; refine ⟨_, fun _ hS' => run_load_mid hS' _ _ rfl _ _ rfl _ _ (.inl (.tail _ (.tail _ (.head _)))) _ Tryz.underlying23 rfl (mgk 32 _) (size23_mg _) (fun k _ => iv_mag _ _ k), ?_⟩; simp only [Act.put, List.setIfInBounds_toArray, List.set_cons_succ, List.set_cons_zero])
    (refine S_call 116 rfl rfl rfl rfl ?_; apply Exists.intro; refine ⟨fun _ => ?_, ?_⟩; (focus (go_simp; exact rfl)); apply Exists.intro; (with_reducible refine ⟨HC1, ?_⟩); simp only [Act.put, List.setIfInBounds_toArray, List.set_cons_succ, List.set_cons_zero])
    (refine S_run rfl rfl ?_; apply Exists.intro; refine ⟨fun _ => ?_, ?_⟩; (focus (go_simp; (try go_bits); exact rfl)); simp only [Act.put, List.setIfInBounds_toArray, List.set_cons_succ, List.set_cons_zero])
    (refine S_load (t := 4) rfl rfl rfl rfl ?_; refine ⟨_, fun _ hS' => run_load_cell hS' _ _ rfl _ _ rfl _ _ (.inl (.tail _ (.head _))) _ Tryz.underlying4 rfl _ (iv_neg _ _), ?_⟩; simp only [Act.put, List.setIfInBounds_toArray, List.set_cons_succ, List.set_cons_zero])
    (refine S_run rfl rfl ?_; apply Exists.intro; refine ⟨fun _ => ?_, ?_⟩; (focus (go_simp; (try go_bits); exact rfl)); simp only [Act.put, List.setIfInBounds_toArray, List.set_cons_succ, List.set_cons_zero])
    (refine S_load (t := 23) rfl rfl rfl rfl ?_; refine ⟨_, fun _ hS' => run_load_mid hS' _ _ rfl _ _ rfl _ _ (.inl (.tail _ (.head _))) _ Tryz.underlying23 rfl (mgk 32 _) (size23_mg _) (fun k _ => iv_mag _ _ k), ?_⟩; simp only [Act.put, List.setIfInBounds_toArray, List.set_cons_succ, List.set_cons_zero])
    (refine S_call 116 rfl rfl rfl rfl ?_; apply Exists.intro; refine ⟨fun _ => ?_, ?_⟩; (focus (go_simp; exact rfl)); apply Exists.intro; (with_reducible refine ⟨HC2, ?_⟩); simp only [Act.put, List.setIfInBounds_toArray, List.set_cons_succ, List.set_cons_zero])
    (refine S_store (t := 25) rfl rfl rfl ?_; refine ⟨_, _, _, _, (.tail (.tail .head)), fun _ hS' => run_store_row hS' _ _ _ rfl _ rfl _ _ rfl _ (.tail (.tail .head)) (size25_iv _ _) (iv_sizes _ _ _ _) (oneCells_iv _ _), ?_⟩; simp only [Act.put])
    (refine S_store (t := 25) rfl rfl rfl ?_; refine ⟨_, _, _, _, (.tail .head), fun _ hS' => run_store_row hS' _ _ _ rfl _ rfl _ _ rfl _ (.tail .head) (size25_iv _ _) (iv_sizes _ _ _ _) (oneCells_iv _ _), ?_⟩; simp only [Act.put])
    refine S_end2 ?_; clear hS; intro _ hS
    go_wp2_with (first | (refine L_load (t := 4) rfl rfl ?_; refine ⟨_, run_load_cell hS _ _ rfl _ _ rfl _ _ (.inl (.tail _ (.tail _ (.head _)))) _ Tryz.underlying4 rfl _ (iv_neg _ _), ?_⟩) | (refine L_load (t := 4) rfl rfl ?_; refine ⟨_, run_load_cell hS _ _ rfl _ _ rfl _ _ (.inl (.tail _ (.head _))) _ Tryz.underlying4 rfl _ (iv_neg _ _), ?_⟩) | (refine L_load (t := 23) rfl rfl ?_; refine ⟨_, run_load_mid hS _ _ rfl _ _ rfl _ _ (.inl (.tail _ (.tail _ (.head _)))) _ Tryz.underlying23 rfl (mgk 32 _) (size23_mg _) (fun k _ => iv_mag _ _ k), ?_⟩) | (refine L_load (t := 23) rfl rfl ?_; refine ⟨_, run_load_mid hS _ _ rfl _ _ rfl _ _ (.inl (.tail _ (.head _))) _ Tryz.underlying23 rfl (mgk 32 _) (size23_mg _) (fun k _ => iv_mag _ _ k), ?_⟩) | (refine L_load (t := 25) rfl rfl ?_; refine ⟨_, run_load_row hS _ _ rfl _ rfl _ _ (.inl (.tail _ (.head _))) _ Tryz.underlying25 rfl (size25_iv _ _), ?_⟩) | (refine L_load (t := 25) rfl rfl ?_; refine ⟨_, run_load_row hS _ _ rfl _ rfl _ _ (.inl (.tail _ (.tail _ (.head _)))) _ Tryz.underlying25 rfl (size25_iv _ _), ?_⟩) | (refine L_store (t := 25) hS rfl rfl ?_; refine ⟨_, _, _, _, _, (.tail .head), run_store_row hS _ _ _ rfl _ rfl _ _ rfl _ (.tail .head) (size25_iv _ _) (iv_sizes _ _ _ _) (oneCells_iv _ _), ?_⟩; clear hS; intro _ hS) | (refine L_store (t := 25) hS rfl rfl ?_; refine ⟨_, _, _, _, _, (.tail (.tail .head)), run_store_row hS _ _ _ rfl _ rfl _ _ rfl _ (.tail (.tail .head)) (size25_iv _ _) (iv_sizes _ _ _ _) (oneCells_iv _ _), ?_⟩; clear hS; intro _ hS) | (go_at_call 117; (with_reducible refine Gives.use (rcompare _ _ HN.out HM.out) hS ?_); clear hS; intro _ hS))
    (try simp only [Act.put]); (try simp only [List.setIfInBounds_toArray, List.set_cons_succ, List.set_cons_zero]); refine wp_region_u1 hS 8 [] (.head (o' := .cells (ivZ (vz v (m - n))) 25)) (by kernel_rfl) (by kernel_rfl) ?_
    (refine S_run rfl rfl ?_; apply Exists.intro; refine ⟨fun _ => ?_, ?_⟩; (focus (go_simp; (try go_bits); exact rfl)); simp only [Act.put, List.setIfInBounds_toArray, List.set_cons_succ, List.set_cons_zero])
    (refine S_load (t := 4) rfl rfl rfl rfl ?_; refine ⟨_, fun _ hS' => run_load_cell hS' _ _ rfl _ _ rfl _ _ (.inl (.tail _ (.tail _ (.head _)))) _ Tryz.underlying4 rfl _ (iv_neg _ _), ?_⟩; simp only [Act.put, List.setIfInBounds_toArray, List.set_cons_succ, List.set_cons_zero])
    (refine S_run rfl rfl ?_; apply Exists.intro; refine ⟨fun _ => ?_, ?_⟩; (focus (go_simp; (try go_bits); exact rfl)); simp only [Act.put, List.setIfInBounds_toArray, List.set_cons_succ, List.set_cons_zero])
    (refine S_load (t := 23) rfl rfl rfl rfl ?_; refine ⟨_, fun _ hS' => run_load_mid hS' _ _ rfl _ _ rfl _ _ (.inl (.tail _ (.tail _ (.head _)))) _ Tryz.underlying23 rfl (mgk 32 _) (size23_mg _) (fun k _ => iv_mag _ _ k), ?_⟩; simp only [Act.put, List.setIfInBounds_toArray, List.set_cons_succ, List.set_cons_zero])
    (refine S_run rfl rfl ?_; apply Exists.intro; refine ⟨fun _ => ?_, ?_⟩; (focus (go_simp; (try go_bits); exact rfl)); simp only [Act.put, List.setIfInBounds_toArray, List.set_cons_succ, List.set_cons_zero])
    (refine S_load (t := 23) rfl rfl rfl rfl ?_; refine ⟨_, fun _ hS' => run_load_mid hS' _ _ rfl _ _ rfl _ _ (.inl (.tail _ (.head _))) _ Tryz.underlying23 rfl (mgk 32 _) (size23_mg _) (fun k _ => iv_mag _ _ k), ?_⟩; simp only [Act.put, List.setIfInBounds_toArray, List.set_cons_succ, List.set_cons_zero])
    (refine S_call 114 rfl rfl rfl rfl ?_; apply Exists.intro; refine ⟨fun _ => ?_, ?_⟩; (focus (go_simp; exact rfl)); apply Exists.intro; (with_reducible refine ⟨rdiff _ _ HM.out HE.out, ?_⟩); simp only [Act.put, List.setIfInBounds_toArray, List.set_cons_succ, List.set_cons_zero])
    (refine S_call 116 rfl rfl rfl rfl ?_; apply Exists.intro; refine ⟨fun _ => ?_, ?_⟩; (focus (go_simp; exact rfl)); apply Exists.intro; (with_reducible refine ⟨rcanon _ _ HD.out, ?_⟩); simp only [Act.put, List.setIfInBounds_toArray, List.set_cons_succ, List.set_cons_zero])
    (refine S_store (t := 25) rfl rfl rfl ?_; refine ⟨_, _, _, _, (.head), fun _ hS' => run_store_row hS' _ _ _ rfl _ rfl _ _ rfl _ (.head) (size25_iv _ _) (iv_sizes _ _ _ _) (oneCells_iv _ _), ?_⟩; simp only [Act.put])
    (refine S_run rfl rfl ?_; apply Exists.intro; refine ⟨fun _ => ?_, ?_⟩; (focus (go_simp; (try go_bits); exact rfl)); simp only [Act.put, List.setIfInBounds_toArray, List.set_cons_succ, List.set_cons_zero])
    refine S_nil ?_
    intro wn hS
    go_wp2
    (try simp only [Exit.inBlock, Exit.then]); refine bodyPost_ret (res_cell_tmp rfl _ _ _ (run_loadRow hS _ _ _ _ (.inl (.head _)) _ Tryz.underlying25 rfl (size25_iv _ _)) rfl _ rfl) rfl ⟨?_, hS.below⟩
    rw [HR.out]; rfl
  · have hle : m ≤ n := by omega
    have HR : Hid (resZ (vz u (n - m)) = _) := resZ_vz (Nat.lt_of_le_of_lt (Nat.sub_le _ _) hn)
    have HD : Hid (n - m < pw 32) := Nat.lt_of_le_of_lt (Nat.sub_le _ _) hn
    have HE := Lib.hid hle
    rw [vz_add_ge huv hle]
    have hc : 0 ≤ cmpv n m := by unfold cmpv; rw [if_neg hlt]; split <;> omega
    clear hn hm hlt hs ht huv hle
    go_enter Tryz.func55, Tryz.ntmps55
    go_wp2_with (first | (refine L_box_agg hS rfl rfl ?_; refine ⟨_, rfl, ?_⟩; clear hS; intro _ _ hS) | (refine L_alloc_agg hS rfl rfl ?_; refine ⟨_, zero25, ?_⟩; clear hS; intro _ _ hS))
    (try simp only [Act.put]); (try simp only [List.setIfInBounds_toArray, List.set_cons_succ, List.set_cons_zero]); refine wp_region_u2 hS 10 11 [] (.tail (.tail (.head (o' := .cells (iv u n) 25)))) (.tail (.head (o' := .cells (iv v m) 25))) (by kernel_rfl) (by kernel_rfl) ?_
    (refine S_run rfl rfl ?_; apply Exists.intro; refine ⟨fun _ => ?_, ?_⟩; (focus (go_simp; (try go_bits); exact rfl)); simp only [Act.put, List.setIfInBounds_toArray, List.set_cons_succ, List.set_cons_zero])
    (refine S_load (t := 4) rfl rfl rfl rfl ?_; refine ⟨_, fun _ hS' => run_load_cell hS' _ _ rfl _ _ rfl _ _ (.inl (.tail _ (.tail _ (.head _)))) _ Tryz.underlying4 rfl _ (iv_neg _ _), ?_⟩; simp only [Act.put, List.setIfInBounds_toArray, List.set_cons_succ, List.set_cons_zero])
    (refine S_run rfl rfl ?_; apply Exists.intro; refine ⟨fun _ => ?_, ?_⟩; (focus (go_simp; (try go_bits); exact rfl)); simp only [Act.put, List.setIfInBounds_toArray, List.set_cons_succ, List.set_cons_zero])
    (refine S_load (t := 23) rfl rfl rfl rfl ?_; refine ⟨_, fun _ hS' => run_load_mid hS' _ _ rfl _ _ rfl _ _ (.inl (.tail _ (.tail _ (.head _)))) _ Tryz.underlying23 rfl (mgk 32 _) (size23_mg _) (fun k _ => iv_mag _ _ k), ?_⟩; simp only [Act.put, List.setIfInBounds_toArray, List.set_cons_succ, List.set_cons_zero])
    (refine S_call 116 rfl rfl rfl rfl ?_; apply Exists.intro; refine ⟨fun _ => ?_, ?_⟩; (focus (go_simp; exact rfl)); apply Exists.intro; (with_reducible refine ⟨HC1, ?_⟩); simp only [Act.put, List.setIfInBounds_toArray, List.set_cons_succ, List.set_cons_zero])
    (refine S_run rfl rfl ?_; apply Exists.intro; refine ⟨fun _ => ?_, ?_⟩; (focus (go_simp; (try go_bits); exact rfl)); simp only [Act.put, List.setIfInBounds_toArray, List.set_cons_succ, List.set_cons_zero])
    (refine S_load (t := 4) rfl rfl rfl rfl ?_; refine ⟨_, fun _ hS' => run_load_cell hS' _ _ rfl _ _ rfl _ _ (.inl (.tail _ (.head _))) _ Tryz.underlying4 rfl _ (iv_neg _ _), ?_⟩; simp only [Act.put, List.setIfInBounds_toArray, List.set_cons_succ, List.set_cons_zero])
    (refine S_run rfl rfl ?_; apply Exists.intro; refine ⟨fun _ => ?_, ?_⟩; (focus (go_simp; (try go_bits); exact rfl)); simp only [Act.put, List.setIfInBounds_toArray, List.set_cons_succ, List.set_cons_zero])
    (refine S_load (t := 23) rfl rfl rfl rfl ?_; refine ⟨_, fun _ hS' => run_load_mid hS' _ _ rfl _ _ rfl _ _ (.inl (.tail _ (.head _))) _ Tryz.underlying23 rfl (mgk 32 _) (size23_mg _) (fun k _ => iv_mag _ _ k), ?_⟩; simp only [Act.put, List.setIfInBounds_toArray, List.set_cons_succ, List.set_cons_zero])
    (refine S_call 116 rfl rfl rfl rfl ?_; apply Exists.intro; refine ⟨fun _ => ?_, ?_⟩; (focus (go_simp; exact rfl)); apply Exists.intro; (with_reducible refine ⟨HC2, ?_⟩); simp only [Act.put, List.setIfInBounds_toArray, List.set_cons_succ, List.set_cons_zero])
    (refine S_store (t := 25) rfl rfl rfl ?_; refine ⟨_, _, _, _, (.tail (.tail .head)), fun _ hS' => run_store_row hS' _ _ _ rfl _ rfl _ _ rfl _ (.tail (.tail .head)) (size25_iv _ _) (iv_sizes _ _ _ _) (oneCells_iv _ _), ?_⟩; simp only [Act.put])
    (refine S_store (t := 25) rfl rfl rfl ?_; refine ⟨_, _, _, _, (.tail .head), fun _ hS' => run_store_row hS' _ _ _ rfl _ rfl _ _ rfl _ (.tail .head) (size25_iv _ _) (iv_sizes _ _ _ _) (oneCells_iv _ _), ?_⟩; simp only [Act.put])
    refine S_end2 ?_; clear hS; intro _ hS
    go_wp2_with (first | (refine L_load (t := 4) rfl rfl ?_; refine ⟨_, run_load_cell hS _ _ rfl _ _ rfl _ _ (.inl (.tail _ (.tail _ (.head _)))) _ Tryz.underlying4 rfl _ (iv_neg _ _), ?_⟩) | (refine L_load (t := 4) rfl rfl ?_; refine ⟨_, run_load_cell hS _ _ rfl _ _ rfl _ _ (.inl (.tail _ (.head _))) _ Tryz.underlying4 rfl _ (iv_neg _ _), ?_⟩) | (refine L_load (t := 23) rfl rfl ?_; refine ⟨_, run_load_mid hS _ _ rfl _ _ rfl _ _ (.inl (.tail _ (.tail _ (.head _)))) _ Tryz.underlying23 rfl (mgk 32 _) (size23_mg _) (fun k _ => iv_mag _ _ k), ?_⟩) | (refine L_load (t := 23) rfl rfl ?_; refine ⟨_, run_load_mid hS _ _ rfl _ _ rfl _ _ (.inl (.tail _ (.head _))) _ Tryz.underlying23 rfl (mgk 32 _) (size23_mg _) (fun k _ => iv_mag _ _ k), ?_⟩) | (go_at_call 117; (with_reducible refine Gives.use (rcompare _ _ HN.out HM.out) hS ?_); clear hS; intro _ hS))
    (try simp only [Act.put]); (try simp only [List.setIfInBounds_toArray, List.set_cons_succ, List.set_cons_zero]); refine wp_region_u1 hS 8 [] (.head (o' := .cells (ivZ (vz u (n - m))) 25)) (by kernel_rfl) (by kernel_rfl) ?_
    (refine S_run rfl rfl ?_; apply Exists.intro; refine ⟨fun _ => ?_, ?_⟩; (focus (go_simp; (try go_bits); exact rfl)); simp only [Act.put, List.setIfInBounds_toArray, List.set_cons_succ, List.set_cons_zero])
    (refine S_load (t := 4) rfl rfl rfl rfl ?_; refine ⟨_, fun _ hS' => run_load_cell hS' _ _ rfl _ _ rfl _ _ (.inl (.tail _ (.tail _ (.head _)))) _ Tryz.underlying4 rfl _ (iv_neg _ _), ?_⟩; simp only [Act.put, List.setIfInBounds_toArray, List.set_cons_succ, List.set_cons_zero])
    (refine S_run rfl rfl ?_; apply Exists.intro; refine ⟨fun _ => ?_, ?_⟩; (focus (go_simp; (try go_bits); exact rfl)); simp only [Act.put, List.setIfInBounds_toArray, List.set_cons_succ, List.set_cons_zero])
    (refine S_load (t := 23) rfl rfl rfl rfl ?_; refine ⟨_, fun _ hS' => run_load_mid hS' _ _ rfl _ _ rfl _ _ (.inl (.tail _ (.tail _ (.head _)))) _ Tryz.underlying23 rfl (mgk 32 _) (size23_mg _) (fun k _ => iv_mag _ _ k), ?_⟩; simp only [Act.put, List.setIfInBounds_toArray, List.set_cons_succ, List.set_cons_zero])
    (refine S_run rfl rfl ?_; apply Exists.intro; refine ⟨fun _ => ?_, ?_⟩; (focus (go_simp; (try go_bits); exact rfl)); simp only [Act.put, List.setIfInBounds_toArray, List.set_cons_succ, List.set_cons_zero])
    (refine S_load (t := 23) rfl rfl rfl rfl ?_; refine ⟨_, fun _ hS' => run_load_mid hS' _ _ rfl _ _ rfl _ _ (.inl (.tail _ (.head _))) _ Tryz.underlying23 rfl (mgk 32 _) (size23_mg _) (fun k _ => iv_mag _ _ k), ?_⟩; simp only [Act.put, List.setIfInBounds_toArray, List.set_cons_succ, List.set_cons_zero])
    (refine S_call 114 rfl rfl rfl rfl ?_; apply Exists.intro; refine ⟨fun _ => ?_, ?_⟩; (focus (go_simp; exact rfl)); apply Exists.intro; (with_reducible refine ⟨rdiff _ _ HN.out HE.out, ?_⟩); simp only [Act.put, List.setIfInBounds_toArray, List.set_cons_succ, List.set_cons_zero])
    (refine S_call 116 rfl rfl rfl rfl ?_; apply Exists.intro; refine ⟨fun _ => ?_, ?_⟩; (focus (go_simp; exact rfl)); apply Exists.intro; (with_reducible refine ⟨rcanon _ _ HD.out, ?_⟩); simp only [Act.put, List.setIfInBounds_toArray, List.set_cons_succ, List.set_cons_zero])
    (refine S_store (t := 25) rfl rfl rfl ?_; refine ⟨_, _, _, _, (.head), fun _ hS' => run_store_row hS' _ _ _ rfl _ rfl _ _ rfl _ (.head) (size25_iv _ _) (iv_sizes _ _ _ _) (oneCells_iv _ _), ?_⟩; simp only [Act.put])
    (refine S_run rfl rfl ?_; apply Exists.intro; refine ⟨fun _ => ?_, ?_⟩; (focus (go_simp; (try go_bits); exact rfl)); simp only [Act.put, List.setIfInBounds_toArray, List.set_cons_succ, List.set_cons_zero])
    refine S_nil ?_
    intro wn hS
    go_wp2
    (try simp only [Exit.inBlock, Exit.then]); refine bodyPost_ret (res_cell_tmp rfl _ _ _ (run_loadRow hS _ _ _ _ (.inl (.head _)) _ Tryz.underlying25 rfl (size25_iv _ _)) rfl _ rfl) rfl ⟨?_, hS.below⟩
    rw [HR.out]; rfl
theorem radd_any (s t : Bool) (n m : Nat) (hn : n < pw 32) (hm : m < pw 32) : Gives Tryz.prog 55 #[.agg (iv s n), .agg (iv t m)] (resZ (vz s n + vz t m)) := by
  have h : Gives Tryz.prog 55 #[.agg (iv s n), .agg (iv t m)] (resZ (vz (s && !isz n) n + vz (t && !isz m) m)) := by
    by_cases h : (s && !isz n) = (t && !isz m)
    · rw [h]; exact radd_same s t _ n m hn hm h rfl
    · exact radd_other s t _ _ n m hn hm rfl rfl h
  rwa [vz_canon, vz_canon] at h
end Go.Proofs.YtkiefjbfepjcbaaGreatDoor
end
section
namespace Go.Proofs.YtkiefjbfepjcbaaGreatDoor
open Go.RowKit
set_option linter.unusedVariables false

set_option maxHeartbeats 400000 in
theorem rneg_any (s : Bool) (n : Nat) (hn : n < pw 32) : Gives Tryz.prog 123 #[.agg (iv s n)] (.agg (ivZ (-vz s n))) := by
  intro w
  have hS := St.start w
  have HN := Lib.hid hn
  have GC := rcanon (!s) n hn
  clear hn
  rw [← vz_not]
  go_enter Tryz.func123, Tryz.ntmps123
  go_wp2_with (first | ((with_reducible refine L_box? ?_); (refine L_box_agg hS rfl rfl ?_; refine ⟨_, rfl, ?_⟩; clear hS; intro _ _ hS)) | ((with_reducible refine L_alloc? ?_); (refine L_alloc_agg hS rfl rfl ?_; refine ⟨_, zero25, ?_⟩; clear hS; intro _ _ hS)) | ((with_reducible refine L_slot 7 ?_); (refine L_load (t := 23) rfl rfl ?_; refine ⟨_, run_load_mid hS _ _ rfl _ _ rfl _ _ (.inl (.tail _ (.head _))) _ Tryz.underlying23 rfl (mgk 32 _) (size23_mg _) (fun k _ => iv_mag _ _ k), ?_⟩)) | ((with_reducible refine L_slot 4 ?_); (refine L_load (t := 4) rfl rfl ?_; refine ⟨_, run_load_cell hS _ _ rfl _ _ rfl _ _ (.inl (.tail _ (.head _))) _ Tryz.underlying4 rfl _ (iv_neg _ _), ?_⟩)) | (go_at_call 116; (with_reducible refine Gives.use (GC) hS ?_); clear hS; intro _ hS) | ((with_reducible refine L_store? ?_); (refine L_store (t := 25) hS rfl rfl ?_; refine ⟨_, _, _, _, _, (.head), run_store_row hS _ _ _ rfl _ rfl _ _ rfl _ (.head) (size25_iv _ _) (iv_sizes _ _ _ _) (oneCells_iv _ _), ?_⟩; clear hS; intro _ hS)))
  (try simp only [Exit.inBlock, Exit.then]); refine bodyPost_ret (res_cell rfl hS _ _ _ _ (.inl (.head _)) rfl _ Tryz.underlying25 rfl (size25_iv _ _)) rfl ⟨?_, hS.below⟩
  rfl

end Go.Proofs.YtkiefjbfepjcbaaGreatDoor
end
section
namespace Go.Proofs.YtkiefjbfepjcbaaGreatDoor
open Go.RowKit
set_option linter.unusedVariables false

theorem bl_half {v : Nat} (h : v ≠ 0) : bl v = bl (v / 2) + 1 := by
  by_cases h2 : v / 2 = 0
  · have : v = 1 := by omega
    subst this
    rw [h2, bl_zero]
    exact bl_is (k := 0) (by omega) (by omega)
  · have := bl_shift (n := v) (k := 1) (by simpa using h2)
    rw [show v / 2 ^ 1 = v / 2 by simp] at this
    omega
set_option maxRecDepth 10000 in
set_option maxHeartbeats 1000000 in
theorem rbits_loop (s : Bool) (n kk j v0 Bn : Nat) (HI : Hid ((iv s n)[1 + j]? = some (.int .u32 ((v0 : Nat) : Int)))) (hvb : v0 < 4294967296) (HB : Hid (Bn = j * 32 + bl v0)) (htop : Bn ≤ 1024) (hj : j ≤ 31) (hk0 : (((kk : Nat) : Int) == 0) = false) (hk1 : ((kk : Nat) : Int) - 1 = ((j : Nat) : Int))
    (GL : Gives Tryz.prog 119 #[.agg (mgk 32 n)] (.int .i64 ((kk : Nat) : Int))) : Gives Tryz.prog 109 #[.agg (iv s n)] (.int .i64 ((Bn : Nat) : Int)) := by
  intro w
  have hS := St.start w
  go_enter Tryz.func109, Tryz.ntmps109
  go_wp2_with (first | ((with_reducible refine L_slot 1 ?_); (refine L_box_agg (o := ⟨some 1, _, _, _, _, _⟩) hS rfl rfl ?_; refine ⟨_, rfl, ?_⟩; clear hS; intro b1 _ hS)) | ((with_reducible refine L_slot 7 ?_); (refine L_load (t := 23) rfl rfl ?_; refine ⟨_, run_load_mid hS _ _ rfl _ _ rfl _ _ (.inl (.head _)) _ Tryz.underlying23 rfl (mgk 32 _) (size23_mg _) (fun k _ => iv_mag _ _ k), ?_⟩)) | (go_at_call 119; (with_reducible refine Gives.use (GL) hS ?_); clear hS; intro _ hS) | ((with_reducible refine L_slot 18 ?_); (refine L_load (t := 22) rfl rfl ?_; refine ⟨_, run_load_cell hS _ _ rfl _ _ rfl _ _ (.inl (.head _)) _ Tryz.underlying22 rfl _ (HI.out), ?_⟩)))
  go_loopw [4, 5] (fun kv vv wr => ∃ k v : Nat, kv = .int .i64 ((k : Nat) : Int) ∧ vv = .int .u32 ((v : Nat) : Int) ∧ v < 4294967296 ∧ k ≤ 1024 ∧ Hid (k + bl v = Bn) ∧ St none w wr [] [(b1, .cells (iv s n) 25)]) (fun _ vv _ => (intOf vv).toNat)
  case atStart => exact ⟨j * 32, v0, congrArg (Value.int .i64) (by omega), rfl, hvb, by omega, HB.out.symm, hS⟩
  case round =>
    clear hS
    obtain ⟨k, v, rfl, rfl, hv, hk, HK, hS⟩ := hrel
    by_cases h0 : v = 0
    · subst h0
      have HE : Hid (k = Bn) := by have := HK.out; rw [bl_zero] at this; exact this
      go_wp2_with (fail)
      go_ret
      exact ⟨by rw [← HE.out]; rfl, hS.below⟩
    · have hp : (0 : Int) < ((v : Nat) : Int) := by omega
      have hp2 : 0 < v := by omega
      have hp3 : decide (0 < v) = true := decide_eq_true hp2
      have hp4 : decide ((0 : Int) < ((v : Nat) : Int)) = true := decide_eq_true hp
      have hh := bl_half h0
      have HN : Hid (k + 1 + bl (v / 2) = Bn) := by have := HK.out; show _ = _; omega
      have hk' : k + 1 ≤ 1024 := by have := HK.out; omega
      clear hh h0
      go_wp2_with (fail)
      go_roundw
      case rel => exact ⟨k + 1, v / 2, congrArg (Value.int .i64) (by omega), congrArg (Value.int .u32) (by omega), by omega, hk', HN, hS⟩
      case measure => simp [intOf]; omega
set_option maxRecDepth 10000 in
set_option maxHeartbeats 1000000 in
theorem rbits_any (s : Bool) (n : Nat) (hn : n < pw 32) : Gives Tryz.prog 109 #[.agg (iv s n)] (.int .i64 ((bl n : Nat) : Int)) := by
  have GL := rlimbs_any n
  obtain ⟨k, hk⟩ : ∃ k, nl n = k := ⟨_, rfl⟩
  rw [hk] at GL
  have hkb : k ≤ 32 := by rw [← hk]; exact nl_le n
  rcases k with _ | j
  · have h0 : n = 0 := (nl_zero_iff hn).1 hk
    subst h0
    intro w
    have hS := St.start w
    have e : ((bl 0 : Nat) : Int) = 0 := rfl
    rw [e]
    clear hk hn e
    go_enter Tryz.func109, Tryz.ntmps109
    go_wp2_with (first | ((with_reducible refine L_box? ?_); (refine L_box_agg hS rfl rfl ?_; refine ⟨_, rfl, ?_⟩; clear hS; intro _ _ hS)) | ((with_reducible refine L_slot 7 ?_); (refine L_load (t := 23) rfl rfl ?_; refine ⟨_, run_load_mid hS _ _ rfl _ _ rfl _ _ (.inl (.head _)) _ Tryz.underlying23 rfl (mgk 32 _) (size23_mg _) (fun k _ => iv_mag _ _ k), ?_⟩)) | (go_at_call 119; (with_reducible refine Gives.use (GL) hS ?_); clear hS; intro _ hS))
    go_ret
    exact ⟨rfl, hS.below⟩
  · have ht0 : limb n j ≠ 0 := by
      rcases nl_top n with h | h
      · omega
      · rw [hk] at h; exact h
    have hb := bl_limb (n := n) (j := j) (by have := nl_lt hn; rwa [hk] at this) ht0
    exact rbits_loop s n (j + 1) j (limb n j) (bl n) (iv_limb (s := s) (n := n) (k := j) (by omega)) (limb_lt n j) hb (bl_top hn) (by omega) (by simp; omega) (by omega) GL
end Go.Proofs.YtkiefjbfepjcbaaGreatDoor
end
section
namespace Go.Proofs.YtkiefjbfepjcbaaGreatDoor
open Go.RowKit Go.Proofs.YtkiefjbfepjcbaaGreatDoor.Sx
set_option linter.unusedSimpArgs false
set_option linter.unusedVariables false

theorem half_bit (A i : Nat) : A / 2 ^ i = 2 * (A / 2 ^ (i + 1)) + A / 2 ^ i % 2 := by
  rw [Nat.pow_succ, ← Nat.div_div_eq_div_mul]; omega
theorem bit_step {A B i : Nat} (hB : 0 < B) :
    A / 2 ^ i % B = (if B ≤ 2 * (A / 2 ^ (i + 1) % B) + A / 2 ^ i % 2 then 2 * (A / 2 ^ (i + 1) % B) + A / 2 ^ i % 2 - B else 2 * (A / 2 ^ (i + 1) % B) + A / 2 ^ i % 2) ∧
    A / 2 ^ i / B = 2 * (A / 2 ^ (i + 1) / B) + (if B ≤ 2 * (A / 2 ^ (i + 1) % B) + A / 2 ^ i % 2 then 1 else 0) := by
  have h := half_bit A i
  have hb : A / 2 ^ i % 2 < 2 := Nat.mod_lt _ (by omega)
  generalize A / 2 ^ i % 2 = b at *
  generalize A / 2 ^ i = D at *
  generalize A / 2 ^ (i + 1) = C at *
  have h1 := Nat.div_add_mod C B
  have h2 := Nat.mod_lt C hB
  generalize C / B = Q at *
  generalize C % B = R at *
  have e : 2 * (B * Q) = B * (2 * Q) := by rw [Nat.mul_left_comm]
  have e2 : B * (2 * Q + 1) = B * (2 * Q) + B := by rw [Nat.mul_add, Nat.mul_one]
  split
  · rename_i hle
    have hD : D = (2 * R + b - B) + B * (2 * Q + 1) := by omega
    have hlt : 2 * R + b - B < B := by omega
    rw [hD, Nat.add_mul_mod_self_left, Nat.mod_eq_of_lt hlt, Nat.add_mul_div_left _ _ hB, Nat.div_eq_of_lt hlt]
    omega
  · rename_i hle
    have hD : D = (2 * R + b) + B * (2 * Q) := by omega
    have hlt : 2 * R + b < B := by omega
    rw [hD, Nat.add_mul_mod_self_left, Nat.mod_eq_of_lt hlt, Nat.add_mul_div_left _ _ hB, Nat.div_eq_of_lt hlt]
    omega
theorem bit_limb (A i : Nat) : limb A (i / 32) / 2 ^ (i % 32) % 2 = A / 2 ^ i % 2 := by
  have hr : i % 32 < 32 := Nat.mod_lt _ (by omega)
  rw [shr_parts A i 0]
  unfold limb
  generalize A / pw (i / 32) = M
  rw [← pq32 (Nat.le_of_lt hr), Nat.mod_mul_right_div_self, Nat.mod_mod_of_dvd]
  exact ⟨2 ^ (31 - i % 32), by rw [Nat.mul_comm, ← Nat.pow_succ]; congr 1; omega⟩
theorem and_one32 (x : Nat) (hx : x < 4294967296) : ariI .and .u32 ((x : Nat) : Int) 1 = ((x % 2 : Nat) : Int) := by
  have := u32_and_nat x 1 hx (by omega)
  rw [Nat.and_one_is_mod] at this
  exact this
theorem quo_bit (Q i : Nat) (hlt : Q * 2 ^ (i + 1) < pw 32) :
    ariI .or .u32 ((limb (Q * 2 ^ (i + 1)) (i / 32) : Nat) : Int) ((2 ^ (i % 32) : Nat) : Int) = ((limb (Q * 2 ^ (i + 1)) (i / 32) + 2 ^ (i % 32) : Nat) : Int) ∧ limb (Q * 2 ^ (i + 1)) (i / 32) + 2 ^ (i % 32) < 4294967296 ∧ put (Q * 2 ^ (i + 1)) (i / 32) (limb (Q * 2 ^ (i + 1)) (i / 32) + 2 ^ (i % 32)) = (2 * Q + 1) * 2 ^ i := by
  have hr : i % 32 < 32 := Nat.mod_lt _ (by omega)
  have hs : 2 ^ (i + 1) = 2 ^ (i % 32 + 1) * pw (i / 32) := by
    rw [Nat.pow_succ, two_split i, Nat.pow_succ, Nat.mul_comm (pw _)]; ac_rfl
  have hl : limb (Q * 2 ^ (i + 1)) (i / 32) % 2 ^ (i % 32 + 1) = 0 := by
    unfold limb
    rw [hs, ← Nat.mul_assoc, Nat.mul_div_cancel _ (pw_pos _)]
    have := pq32 (show i % 32 + 1 ≤ 32 by omega)
    rw [← this, Nat.mod_mul_right_mod, Nat.mul_mod_left]
  have hp : put (Q * 2 ^ (i + 1)) (i / 32) (limb (Q * 2 ^ (i + 1)) (i / 32) + 2 ^ (i % 32)) = (2 * Q + 1) * 2 ^ i := by
    have h := put_add (Q * 2 ^ (i + 1)) (i / 32) (limb (Q * 2 ^ (i + 1)) (i / 32) + 2 ^ (i % 32))
    rw [Nat.add_mul _ _ (pw _)] at h
    have h2 : 2 ^ (i % 32) * pw (i / 32) = 2 ^ i := by rw [two_split i, Nat.mul_comm]
    have h3 : Q * 2 ^ (i + 1) = 2 * Q * 2 ^ i := by rw [Nat.pow_succ]; ac_rfl
    rw [h2] at h
    have h4 : (2 * Q + 1) * 2 ^ i = 2 * Q * 2 ^ i + 2 ^ i := by rw [Nat.add_mul, Nat.one_mul]
    omega
  have hll := limb_lt (Q * 2 ^ (i + 1)) (i / 32)
  generalize limb (Q * 2 ^ (i + 1)) (i / 32) = x at *
  have hpp := pq32 (show i % 32 + 1 ≤ 32 by omega)
  have hpr : 2 ^ (i % 32 + 1) = 2 * 2 ^ (i % 32) := by rw [Nat.pow_succ, Nat.mul_comm]
  have hpos := Nat.two_pow_pos (i % 32)
  have hb : x + 2 ^ (i % 32 + 1) ≤ 4294967296 := by
    have h1 := Nat.div_add_mod x (2 ^ (i % 32 + 1))
    rw [hl, Nat.add_zero] at h1
    have h2 : x / 2 ^ (i % 32 + 1) < 2 ^ (32 - (i % 32 + 1)) := by
      rw [Nat.div_lt_iff_lt_mul (Nat.two_pow_pos _), Nat.mul_comm, hpp]; exact hll
    have h3 : 2 ^ (i % 32 + 1) * (x / 2 ^ (i % 32 + 1) + 1) ≤ 4294967296 := by
      rw [← hpp]; exact Nat.mul_le_mul_left _ h2
    rw [Nat.mul_add, Nat.mul_one, h1] at h3
    exact h3
  exact ⟨ari_or32 (s := i % 32 + 1) x (2 ^ (i % 32)) hll (by omega) (by omega) hl, by omega, hp⟩
theorem one_shl {r : Nat} (hr : r < 32) : shfI .shl .u32 1 ((r : Nat) : Int) = ((2 ^ r : Nat) : Int) := by
  have := shl32_of 1 r (2 ^ r) (by omega) rfl
  rw [Nat.one_mul, Nat.mod_eq_of_lt] at this
  · exact this
  · rw [show (4294967296 : Nat) = 2 ^ 32 by rfl]; exact Nat.pow_lt_pow_right (by omega) hr
theorem cmpv_neg (a b : Nat) : cmpv a b < 0 ↔ a < b := by unfold cmpv; split <;> (try split) <;> omega

set_option maxHeartbeats 2000000 in
theorem rdivide_loop (A B s0 : Nat) (la lb ba bb : Int) (W0 : Nat) (hA : A < pw 32) (hB : 0 < B) (hBl : B < pw 32) (h0 : W0 = A / 2 ^ s0) (hlt : A / 2 ^ s0 < B) (hs : s0 ≤ 1024) (hst : ba - (bb - 1) - 1 = (s0 : Int) - 1) (Qe Re : Nat) (hQe : Qe = A / B) (hRe : Re = A % B) :
    Ev.holds Tryz.prog (env [.agg (mgk 32 A), .agg (mgk 32 B), .int .i64 (la : Int), .int .i64 (ba : Int), .int .i64 (bb : Int), .agg (mgk 32 W0), .int .i64 (-1), .agg (mgk 32 Qe), .agg (mgk 32 Re)]) (.loop 113 0 divS113_0 divH113_0 (.exit 0) .none 3) := by
  refine loop_holds plain (m := 3) (x := .exit 0) (alt := none) [.agg (mgk 32 A), .agg (mgk 32 B), .int .i64 (la : Int), .int .i64 (ba : Int), .int .i64 (bb : Int), .agg (mgk 32 W0)] [.int .i64 (-1), .agg (mgk 32 Qe), .agg (mgk 32 Re)] tDivide0_ok tDivide0_fine
    (fun vs => ∃ j : Nat, j ≤ s0 ∧ vs = [.int .i64 ((j : Int) - 1), .agg (mgk 32 (A / 2 ^ j / B * 2 ^ j)), .agg (mgk 32 (A / 2 ^ j % B))])
    (fun vs => (vInt (vs.getD 0 undef) + 1).toNat) tDivide0_diff ?_ ?_
  · refine ⟨[.int .i64 ((s0 : Int) - 1), .agg (mgk 32 (A / 2 ^ s0 / B * 2 ^ s0)), .agg (mgk 32 (A / 2 ^ s0 % B))], rfl, ⟨s0, by omega, rfl⟩, ?_⟩
    rw [Nat.div_eq_of_lt hlt, Nat.mod_eq_of_lt hlt, Nat.zero_mul, ← h0]
    have hz : rowCells (.agg (mgk 32 0)) 32 = List.replicate 32 (.int .u32 0) := by rw [rowCells_mgk, mgl_zero]
    simp [tDivide0_d, BTm.den, Tm.i, Tm.s, Tm.den, env, vInt, vBool, vStr, exI, SW.den, SV.den, Cell.den, densP, Piece.den, denV, denT, hz]
    omega
  · rintro vs hl ⟨j, hj, rfl⟩
    clear hl
    rcases j with _ | i
    · refine tree_ite (ev_nil (way_true (by simp [BTm.den, Tm.i, Tm.s, Tm.den, env, vInt, vBool, vStr, exI]) (tree_leaf (ev_nil ⟨rfl, ?_⟩))))
      have e1 : A / 2 ^ 0 / B * 2 ^ 0 = Qe := by rw [hQe, Nat.pow_zero, Nat.div_one, Nat.mul_one]
      have e2 : A / 2 ^ 0 % B = Re := by rw [hRe, Nat.pow_zero, Nat.div_one]
      rw [e1, e2]
      simp [BTm.den, Tm.i, Tm.s, Tm.den, env, vInt, vBool, vStr, exI, SW.den, SV.den, Cell.den, densP, Piece.den, denV, denT]
    · rw [show (((i + 1 : Nat) : Int) - 1) = ((i : Nat) : Int) by omega]
      have hqb := quo_bit (A / 2 ^ (i + 1) / B) i (Nat.lt_of_le_of_lt (Nat.le_trans (Nat.mul_le_mul_right _ (Nat.div_le_self _ _)) (Nat.div_mul_le_self _ _)) hA)
      obtain ⟨hbs1, hbs2⟩ := bit_step (A := A) (i := i) hB
      have hbit := bit_limb A i
      have hb2 : A / 2 ^ i % 2 < 2 := Nat.mod_lt _ (by omega)
      have hR : A / 2 ^ (i + 1) % B < B := Nat.mod_lt _ hB
      have hq : (i : Int).tdiv 32 = ((i / 32 : Nat) : Int) := tdivN i 32
      have hr : (i : Int).tmod 32 = ((i % 32 : Nat) : Int) := tmodN i 32
      have hil : i < 1024 := by omega
      have hx := limb_lt A (i / 32)
      have hsr := shr_of (k := .u32) (limb A (i / 32)) (i % 32) (2 ^ (i % 32)) (by show i % 32 ≤ 32; omega) rfl
      have hand := and_one32 (limb A (i / 32) / 2 ^ (i % 32)) (Nat.lt_of_le_of_lt (Nat.div_le_self _ _) hx)
      rw [hbit, ← hsr] at hand
      have h1s := one_shl (r := i % 32) (by omega)
      obtain ⟨hq1, hq2, hq3⟩ := hqb
      rw [← h1s] at hq1
      obtain ⟨bit, hbt⟩ : ∃ b, b = A / 2 ^ i % 2 := ⟨_, rfl⟩
      obtain ⟨R, hRR⟩ : ∃ b, b = A / 2 ^ (i + 1) % B := ⟨_, rfl⟩
      obtain ⟨R', hRR'⟩ : ∃ b, b = A / 2 ^ i % B := ⟨_, rfl⟩
      obtain ⟨Q, hQQ⟩ : ∃ b, b = A / 2 ^ (i + 1) / B := ⟨_, rfl⟩
      obtain ⟨Q', hQQ'⟩ : ∃ b, b = A / 2 ^ i / B := ⟨_, rfl⟩
      rw [← hbt, ← hRR, ← hRR'] at hbs1
      rw [← hbt, ← hRR, ← hQQ, ← hQQ'] at hbs2
      rw [← hbt] at hb2 hand
      rw [← hRR] at hR
      rw [← hQQ] at hq1 hq2 hq3
      rw [← hRR, ← hQQ]
      have hS' : (2 * Q) * 2 ^ i = Q * 2 ^ (i + 1) := by rw [Nat.pow_succ]; ac_rfl
      have hnext : Q' * 2 ^ i = if B ≤ 2 * R + bit then (2 * Q + 1) * 2 ^ i else Q * 2 ^ (i + 1) := by
        rw [hbs2]; split
        · rfl
        · rw [Nat.add_zero, hS']
      obtain ⟨S, hSS⟩ : ∃ b, b = Q * 2 ^ (i + 1) := ⟨_, rfl⟩
      obtain ⟨S', hSS'⟩ : ∃ b, b = Q' * 2 ^ i := ⟨_, rfl⟩
      obtain ⟨T, hTT⟩ : ∃ b, b = (2 * Q + 1) * 2 ^ i := ⟨_, rfl⟩
      rw [← hSS] at hq1 hq2 hq3 hnext
      rw [← hTT] at hq3 hnext
      rw [← hSS'] at hnext
      rw [← hSS]
      have hput : mgl 32 T = (mgl 32 S).take (i / 32) ++ [.int .u32 ((limb S (i / 32) + 2 ^ (i % 32) : Nat) : Int)] ++ (mgl 32 S).drop (i / 32 + 1) := by
        rw [← hq3]; exact mgl_put (by omega) rfl hq2
      have hD : (2 * R + bit) / pw 32 ≤ 1 := by
        have : (2 * R + bit) / pw 32 < 2 := by rw [Nat.div_lt_iff_lt_mul (pw_pos 32)]; omega
        omega
      have hdm := Nat.div_add_mod (2 * R + bit) (pw 32)
      have hdl := Nat.mod_lt (2 * R + bit) (pw_pos 32)
      have hdb := rdouble R bit (by omega) (by omega)
      have hmd := mdif_all (n := (2 * R + bit) % pw 32) hdl hBl
      have hdf := rdiff_any ((2 * R + bit) % pw 32) B
      rw [hmd] at hdf
      have hcm := rcompare ((2 * R + bit) % pw 32) B hdl hBl
      have hc0 := cmpv_neg ((2 * R + bit) % pw 32) B
      have hfin1 : (2 * R + bit) / pw 32 = 1 → S' = T ∧ R' = ((2 * R + bit) % pw 32 + pw 32 - B) % pw 32 := by
        intro h
        rw [h, Nat.mul_one] at hdm
        have hle : B ≤ 2 * R + bit := by omega
        rw [if_pos hle] at hnext hbs1
        refine ⟨hnext, ?_⟩
        rw [hbs1, Nat.mod_eq_of_lt (by omega)]; omega
      have hfin2 : (2 * R + bit) / pw 32 ≠ 1 → B ≤ (2 * R + bit) % pw 32 → S' = T ∧ R' = ((2 * R + bit) % pw 32 + pw 32 - B) % pw 32 := by
        intro h h2
        rw [(Nat.le_one_iff_eq_zero_or_eq_one.1 hD).resolve_right h, Nat.mul_zero, Nat.zero_add] at hdm
        have hle : B ≤ 2 * R + bit := by omega
        rw [if_pos hle] at hnext hbs1
        refine ⟨hnext, ?_⟩
        rw [hbs1, show (2 * R + bit) % pw 32 + pw 32 - B = (2 * R + bit - B) + pw 32 by omega, Nat.add_mod_right, Nat.mod_eq_of_lt (by omega)]
      have hfin3 : (2 * R + bit) / pw 32 ≠ 1 → (2 * R + bit) % pw 32 < B → S' = S ∧ R' = (2 * R + bit) % pw 32 := by
        intro h h2
        rw [(Nat.le_one_iff_eq_zero_or_eq_one.1 hD).resolve_right h, Nat.mul_zero, Nat.zero_add] at hdm
        have hle : ¬ B ≤ 2 * R + bit := by omega
        rw [if_neg hle] at hnext hbs1
        exact ⟨hnext, by omega⟩
      obtain ⟨E, hE⟩ : ∃ b, b = (2 * R + bit) % pw 32 := ⟨_, rfl⟩
      obtain ⟨c, hc⟩ : ∃ b, b = decide ((2 * R + bit) / pw 32 = 1) := ⟨_, rfl⟩
      obtain ⟨F, hF⟩ : ∃ b, b = (E + pw 32 - B) % pw 32 := ⟨_, rfl⟩
      rw [← hE, ← hc] at hdb
      rw [← hE, ← hF] at hfin1 hfin2 hdf
      rw [← hE] at hfin3 hcm hc0
      obtain ⟨cv, hcv⟩ : ∃ b, b = cmpv E B := ⟨_, rfl⟩
      rw [← hcv] at hc0 hcm
      have hinv : ∃ j : Nat, j ≤ s0 ∧ [Value.int .i64 ((i : Int) - 1), .agg (mgk 32 S'), .agg (mgk 32 R')] = [.int .i64 ((j : Int) - 1), .agg (mgk 32 (A / 2 ^ j / B * 2 ^ j)), .agg (mgk 32 (A / 2 ^ j % B))] :=
        ⟨i, by omega, by rw [hSS', hRR', hQQ']⟩
      clear hdm hdl hmd hD hbs1 hbs2 hnext
      refine tree_ite (ev_nil (way_false (by simp [BTm.den, Tm.i, Tm.s, Tm.den, env, vInt, vBool, vStr, exI] <;> omega) (tree_ite ?_)))
      refine ev_fits ((i / 32 : Nat) : Int) (by simp [BTm.den, Tm.i, Tm.s, Tm.den, env, vInt, vBool, vStr, exI, hq]) (rng_i64 _ (by omega)) ?_
      refine ev_need (by simp [BTm.den, Tm.i, Tm.s, Tm.den, env, vInt, vBool, vStr, exI, hq] <;> omega) ?_
      refine ev_need (by simp [BTm.den, Tm.i, Tm.s, Tm.den, env, vInt, vBool, vStr, exI, hq] <;> omega) ?_
      refine ev_elem [.int .u32 (limb A (i / 32) : Nat)] rfl rfl (l := mgl 32 A) (m := [.int .u32 (limb A (i / 32) : Nat)]) (k := i / 32) (by simp [BTm.den, Tm.i, Tm.s, Tm.den, env, vInt, vBool, vStr, exI, hq] <;> omega) (fun β => rowCells_mgk 32 A) (fun β => rfl) (mgl_elem (by omega)) ?_
      refine ev_fits ((i % 32 : Nat) : Int) (by simp [BTm.den, Tm.i, Tm.s, Tm.den, env, vInt, vBool, vStr, exI, hr]) (rng_i64 _ (by omega)) ?_
      refine ev_fits ((i % 32 : Nat) : Int) (by simp [BTm.den, Tm.i, Tm.s, Tm.den, env, vInt, vBool, vStr, exI, hr]) (rng_u64 _ (by omega)) ?_
      refine ev_need (by simp [BTm.den, Tm.i, Tm.s, Tm.den, env, vInt, vBool, vStr, exI, hr] <;> omega) ?_
      refine ev_call [.agg (mgk 32 E), .bool c] rfl rfl (pure_gives hdb) (fun β => by rw [← hand, ← hr]; simp [BTm.den, Tm.i, Tm.s, Tm.den, env, vInt, vBool, vStr, exI, SW.den, SV.den, Cell.den, densP, Piece.den, denV, denT, rowCells_mgk, mgl_agg]) (fun β => by simp [BTm.den, Tm.i, Tm.s, Tm.den, env, vInt, vBool, vStr, exI, SW.den, SV.den, Cell.den, densP, Piece.den, denV, denT, rowCells_mgk, mgl_agg]) ?_
      refine ev_nil ⟨fun hc1 => tree_leaf ?_, fun hc1 => tree_ite ?_⟩
      · have hc1 : c = true := by simpa [BTm.den, Tm.i, Tm.s, Tm.den, env, vInt, vBool, vStr, exI] using hc1
        obtain ⟨hf1, hf2⟩ := hfin1 (by rw [hc] at hc1; simpa using hc1)
        refine ev_call [.agg (mgk 32 F)] rfl rfl (pure_gives hdf) (fun β => by simp [BTm.den, Tm.i, Tm.s, Tm.den, env, vInt, vBool, vStr, exI, SW.den, SV.den, Cell.den, densP, Piece.den, denV, denT, rowCells_mgk, mgl_agg]) (fun β => by simp [BTm.den, Tm.i, Tm.s, Tm.den, env, vInt, vBool, vStr, exI, SW.den, SV.den, Cell.den, densP, Piece.den, denV, denT, rowCells_mgk, mgl_agg]) ?_
        refine ev_fits ((i / 32 : Nat) : Int) (by simp [BTm.den, Tm.i, Tm.s, Tm.den, env, vInt, vBool, vStr, exI, hq]) (rng_i64 _ (by omega)) ?_
        refine ev_need (by simp [BTm.den, Tm.i, Tm.s, Tm.den, env, vInt, vBool, vStr, exI, hq] <;> omega) ?_
        refine ev_need (by simp [BTm.den, Tm.i, Tm.s, Tm.den, env, vInt, vBool, vStr, exI, hq] <;> omega) ?_
        refine ev_elem [.int .u32 (limb S (i / 32) : Nat)] rfl rfl (l := mgl 32 S) (m := [.int .u32 (limb S (i / 32) : Nat)]) (k := i / 32) (by simp [BTm.den, Tm.i, Tm.s, Tm.den, env, vInt, vBool, vStr, exI, hq] <;> omega) (fun β => rowCells_mgk 32 S) (fun β => rfl) (mgl_elem (by omega)) ?_
        refine ev_fits ((i % 32 : Nat) : Int) (by simp [BTm.den, Tm.i, Tm.s, Tm.den, env, vInt, vBool, vStr, exI, hr]) (rng_i64 _ (by omega)) ?_
        refine ev_fits ((i % 32 : Nat) : Int) (by simp [BTm.den, Tm.i, Tm.s, Tm.den, env, vInt, vBool, vStr, exI, hr]) (rng_u64 _ (by omega)) ?_
        refine ev_need (by simp [BTm.den, Tm.i, Tm.s, Tm.den, env, vInt, vBool, vStr, exI, hr] <;> omega) ?_
        refine ev_need (by simp [BTm.den, Tm.i, Tm.s, Tm.den, env, vInt, vBool, vStr, exI, hq] <;> omega) ?_
        refine ev_need (by simp [BTm.den, Tm.i, Tm.s, Tm.den, env, vInt, vBool, vStr, exI, hq] <;> omega) ?_
        refine ev_put [.agg (mgk 32 T)] rfl rfl (l := mgl 32 S) (l' := mgl 32 T) (m := [.int .u32 ((limb S (i / 32) + 2 ^ (i % 32) : Nat) : Int)]) (k := i / 32) (by simp [BTm.den, Tm.i, Tm.s, Tm.den, env, vInt, vBool, vStr, exI, hq] <;> omega) (fun β => rowCells_mgk 32 _) (fun β => rowCells_mgk 32 _) (fun β => ?_) hput (by rw [mgl_length]; simp; omega) ?_
        · rw [← hq1, ← hr]; simp [BTm.den, Tm.i, Tm.s, Tm.den, env, vInt, vBool, vStr, exI, SW.den, SV.den, Cell.den, densP, Piece.den, denV, denT]
        refine ev_fits ((i : Int) - 1) (by simp [BTm.den, Tm.i, Tm.s, Tm.den, env, vInt, vBool, vStr, exI]) (rng_i64 _ (by omega)) ?_
        refine ev_nil ⟨[.int .i64 ((i : Int) - 1), .agg (mgk 32 S'), .agg (mgk 32 R')], rfl, hinv, ?_, ?_⟩
        · simp [vInt]
        · rw [hf1, hf2]; simp [BTm.den, Tm.i, Tm.s, Tm.den, env, vInt, vBool, vStr, exI, SW.den, SV.den, Cell.den, densP, Piece.den, denV, denT]
      · have hc1 : c = false := by simpa [BTm.den, Tm.i, Tm.s, Tm.den, env, vInt, vBool, vStr, exI] using hc1
        have hcc : (2 * R + bit) / pw 32 ≠ 1 := by rw [hc] at hc1; simpa using hc1
        refine ev_call [.int .i64 cv] rfl rfl (pure_gives hcm) (fun β => by simp [BTm.den, Tm.i, Tm.s, Tm.den, env, vInt, vBool, vStr, exI, SW.den, SV.den, Cell.den, densP, Piece.den, denV, denT, rowCells_mgk, mgl_agg]) (fun β => by simp [BTm.den, Tm.i, Tm.s, Tm.den, env, vInt, vBool, vStr, exI, SW.den, SV.den, Cell.den, densP, Piece.den, denV, denT, rowCells_mgk, mgl_agg]) ?_
        refine ev_nil ⟨fun hc2 => tree_leaf ?_, fun hc2 => tree_leaf ?_⟩
        · have hc2 : cv < 0 := by simpa [BTm.den, Tm.i, Tm.s, Tm.den, env, vInt, vBool, vStr, exI] using hc2
          obtain ⟨hf1, hf2⟩ := hfin3 hcc (hc0.1 hc2)
          refine ev_fits ((i : Int) - 1) (by simp [BTm.den, Tm.i, Tm.s, Tm.den, env, vInt, vBool, vStr, exI]) (rng_i64 _ (by omega)) ?_
          refine ev_nil ⟨[.int .i64 ((i : Int) - 1), .agg (mgk 32 S'), .agg (mgk 32 R')], rfl, hinv, ?_, ?_⟩
          · simp [vInt]
          · rw [hf1, hf2]; simp [BTm.den, Tm.i, Tm.s, Tm.den, env, vInt, vBool, vStr, exI, SW.den, SV.den, Cell.den, densP, Piece.den, denV, denT]
        · have hc2 : ¬ cv < 0 := by simpa [BTm.den, Tm.i, Tm.s, Tm.den, env, vInt, vBool, vStr, exI] using hc2
          obtain ⟨hf1, hf2⟩ := hfin2 hcc (by have := mt hc0.2 hc2; omega)
          refine ev_call [.agg (mgk 32 F)] rfl rfl (pure_gives hdf) (fun β => by simp [BTm.den, Tm.i, Tm.s, Tm.den, env, vInt, vBool, vStr, exI, SW.den, SV.den, Cell.den, densP, Piece.den, denV, denT, rowCells_mgk, mgl_agg]) (fun β => by simp [BTm.den, Tm.i, Tm.s, Tm.den, env, vInt, vBool, vStr, exI, SW.den, SV.den, Cell.den, densP, Piece.den, denV, denT, rowCells_mgk, mgl_agg]) ?_
          refine ev_fits ((i / 32 : Nat) : Int) (by simp [BTm.den, Tm.i, Tm.s, Tm.den, env, vInt, vBool, vStr, exI, hq]) (rng_i64 _ (by omega)) ?_
          refine ev_need (by simp [BTm.den, Tm.i, Tm.s, Tm.den, env, vInt, vBool, vStr, exI, hq] <;> omega) ?_
          refine ev_need (by simp [BTm.den, Tm.i, Tm.s, Tm.den, env, vInt, vBool, vStr, exI, hq] <;> omega) ?_
          refine ev_elem [.int .u32 (limb S (i / 32) : Nat)] rfl rfl (l := mgl 32 S) (m := [.int .u32 (limb S (i / 32) : Nat)]) (k := i / 32) (by simp [BTm.den, Tm.i, Tm.s, Tm.den, env, vInt, vBool, vStr, exI, hq] <;> omega) (fun β => rowCells_mgk 32 S) (fun β => rfl) (mgl_elem (by omega)) ?_
          refine ev_fits ((i % 32 : Nat) : Int) (by simp [BTm.den, Tm.i, Tm.s, Tm.den, env, vInt, vBool, vStr, exI, hr]) (rng_i64 _ (by omega)) ?_
          refine ev_fits ((i % 32 : Nat) : Int) (by simp [BTm.den, Tm.i, Tm.s, Tm.den, env, vInt, vBool, vStr, exI, hr]) (rng_u64 _ (by omega)) ?_
          refine ev_need (by simp [BTm.den, Tm.i, Tm.s, Tm.den, env, vInt, vBool, vStr, exI, hr] <;> omega) ?_
          refine ev_need (by simp [BTm.den, Tm.i, Tm.s, Tm.den, env, vInt, vBool, vStr, exI, hq] <;> omega) ?_
          refine ev_need (by simp [BTm.den, Tm.i, Tm.s, Tm.den, env, vInt, vBool, vStr, exI, hq] <;> omega) ?_
          refine ev_put [.agg (mgk 32 T)] rfl rfl (l := mgl 32 S) (l' := mgl 32 T) (m := [.int .u32 ((limb S (i / 32) + 2 ^ (i % 32) : Nat) : Int)]) (k := i / 32) (by simp [BTm.den, Tm.i, Tm.s, Tm.den, env, vInt, vBool, vStr, exI, hq] <;> omega) (fun β => rowCells_mgk 32 _) (fun β => rowCells_mgk 32 _) (fun β => ?_) hput (by rw [mgl_length]; simp; omega) ?_
          · rw [← hq1, ← hr]; simp [BTm.den, Tm.i, Tm.s, Tm.den, env, vInt, vBool, vStr, exI, SW.den, SV.den, Cell.den, densP, Piece.den, denV, denT]
          refine ev_fits ((i : Int) - 1) (by simp [BTm.den, Tm.i, Tm.s, Tm.den, env, vInt, vBool, vStr, exI]) (rng_i64 _ (by omega)) ?_
          refine ev_nil ⟨[.int .i64 ((i : Int) - 1), .agg (mgk 32 S'), .agg (mgk 32 R')], rfl, hinv, ?_, ?_⟩
          · simp [vInt]
          · rw [hf1, hf2]; simp [BTm.den, Tm.i, Tm.s, Tm.den, env, vInt, vBool, vStr, exI, SW.den, SV.den, Cell.den, densP, Piece.den, denV, denT]

set_option maxHeartbeats 2000000 in
theorem rdivide_loopb (A B s0 : Nat) (la lb ba bb : Int) (W0 : Nat) (hA : A < pw 32) (hB : 0 < B) (hBl : B < pw 32) (h0 : W0 = A / 2 ^ s0) (hlt : A / 2 ^ s0 < B) (hs : s0 ≤ 1024) (hst : ba - (bb - 1) - 1 = (s0 : Int) - 1) (Qe Re : Nat) (hQe : Qe = A / B) (hRe : Re = A % B) :
    Ev.holds Tryz.prog (env [.agg (mgk 32 A), .agg (mgk 32 B), .int .i64 (la : Int), .int .i64 (lb : Int), .int .i64 (ba : Int), .int .i64 (bb : Int), .agg (mgk 32 W0), .int .i64 (-1), .agg (mgk 32 Qe), .agg (mgk 32 Re)]) (.loop 113 0 divS113_0b divH113_0b (.exit 0) .none 3) := by
  refine loop_holds plain (m := 3) (x := .exit 0) (alt := none) [.agg (mgk 32 A), .agg (mgk 32 B), .int .i64 (la : Int), .int .i64 (lb : Int), .int .i64 (ba : Int), .int .i64 (bb : Int), .agg (mgk 32 W0)] [.int .i64 (-1), .agg (mgk 32 Qe), .agg (mgk 32 Re)] tDivide0b_ok tDivide0b_fine
    (fun vs => ∃ j : Nat, j ≤ s0 ∧ vs = [.int .i64 ((j : Int) - 1), .agg (mgk 32 (A / 2 ^ j / B * 2 ^ j)), .agg (mgk 32 (A / 2 ^ j % B))])
    (fun vs => (vInt (vs.getD 0 undef) + 1).toNat) tDivide0b_diff ?_ ?_
  · refine ⟨[.int .i64 ((s0 : Int) - 1), .agg (mgk 32 (A / 2 ^ s0 / B * 2 ^ s0)), .agg (mgk 32 (A / 2 ^ s0 % B))], rfl, ⟨s0, by omega, rfl⟩, ?_⟩
    rw [Nat.div_eq_of_lt hlt, Nat.mod_eq_of_lt hlt, Nat.zero_mul, ← h0]
    have hz : rowCells (.agg (mgk 32 0)) 32 = List.replicate 32 (.int .u32 0) := by rw [rowCells_mgk, mgl_zero]
    simp [tDivide0b_d, BTm.den, Tm.i, Tm.s, Tm.den, env, vInt, vBool, vStr, exI, SW.den, SV.den, Cell.den, densP, Piece.den, denV, denT, hz]
    omega
  · rintro vs hl ⟨j, hj, rfl⟩
    clear hl
    rcases j with _ | i
    · refine tree_ite (ev_nil (way_true (by simp [BTm.den, Tm.i, Tm.s, Tm.den, env, vInt, vBool, vStr, exI]) (tree_leaf (ev_nil ⟨rfl, ?_⟩))))
      have e1 : A / 2 ^ 0 / B * 2 ^ 0 = Qe := by rw [hQe, Nat.pow_zero, Nat.div_one, Nat.mul_one]
      have e2 : A / 2 ^ 0 % B = Re := by rw [hRe, Nat.pow_zero, Nat.div_one]
      rw [e1, e2]
      simp [BTm.den, Tm.i, Tm.s, Tm.den, env, vInt, vBool, vStr, exI, SW.den, SV.den, Cell.den, densP, Piece.den, denV, denT]
    · rw [show (((i + 1 : Nat) : Int) - 1) = ((i : Nat) : Int) by omega]
      have hqb := quo_bit (A / 2 ^ (i + 1) / B) i (Nat.lt_of_le_of_lt (Nat.le_trans (Nat.mul_le_mul_right _ (Nat.div_le_self _ _)) (Nat.div_mul_le_self _ _)) hA)
      obtain ⟨hbs1, hbs2⟩ := bit_step (A := A) (i := i) hB
      have hbit := bit_limb A i
      have hb2 : A / 2 ^ i % 2 < 2 := Nat.mod_lt _ (by omega)
      have hR : A / 2 ^ (i + 1) % B < B := Nat.mod_lt _ hB
      have hq : (i : Int).tdiv 32 = ((i / 32 : Nat) : Int) := tdivN i 32
      have hr : (i : Int).tmod 32 = ((i % 32 : Nat) : Int) := tmodN i 32
      have hil : i < 1024 := by omega
      have hx := limb_lt A (i / 32)
      have hsr := shr_of (k := .u32) (limb A (i / 32)) (i % 32) (2 ^ (i % 32)) (by show i % 32 ≤ 32; omega) rfl
      have hand := and_one32 (limb A (i / 32) / 2 ^ (i % 32)) (Nat.lt_of_le_of_lt (Nat.div_le_self _ _) hx)
      rw [hbit, ← hsr] at hand
      have h1s := one_shl (r := i % 32) (by omega)
      obtain ⟨hq1, hq2, hq3⟩ := hqb
      rw [← h1s] at hq1
      obtain ⟨bit, hbt⟩ : ∃ b, b = A / 2 ^ i % 2 := ⟨_, rfl⟩
      obtain ⟨R, hRR⟩ : ∃ b, b = A / 2 ^ (i + 1) % B := ⟨_, rfl⟩
      obtain ⟨R', hRR'⟩ : ∃ b, b = A / 2 ^ i % B := ⟨_, rfl⟩
      obtain ⟨Q, hQQ⟩ : ∃ b, b = A / 2 ^ (i + 1) / B := ⟨_, rfl⟩
      obtain ⟨Q', hQQ'⟩ : ∃ b, b = A / 2 ^ i / B := ⟨_, rfl⟩
      rw [← hbt, ← hRR, ← hRR'] at hbs1
      rw [← hbt, ← hRR, ← hQQ, ← hQQ'] at hbs2
      rw [← hbt] at hb2 hand
      rw [← hRR] at hR
      rw [← hQQ] at hq1 hq2 hq3
      rw [← hRR, ← hQQ]
      have hS' : (2 * Q) * 2 ^ i = Q * 2 ^ (i + 1) := by rw [Nat.pow_succ]; ac_rfl
      have hnext : Q' * 2 ^ i = if B ≤ 2 * R + bit then (2 * Q + 1) * 2 ^ i else Q * 2 ^ (i + 1) := by
        rw [hbs2]; split
        · rfl
        · rw [Nat.add_zero, hS']
      obtain ⟨S, hSS⟩ : ∃ b, b = Q * 2 ^ (i + 1) := ⟨_, rfl⟩
      obtain ⟨S', hSS'⟩ : ∃ b, b = Q' * 2 ^ i := ⟨_, rfl⟩
      obtain ⟨T, hTT⟩ : ∃ b, b = (2 * Q + 1) * 2 ^ i := ⟨_, rfl⟩
      rw [← hSS] at hq1 hq2 hq3 hnext
      rw [← hTT] at hq3 hnext
      rw [← hSS'] at hnext
      rw [← hSS]
      have hput : mgl 32 T = (mgl 32 S).take (i / 32) ++ [.int .u32 ((limb S (i / 32) + 2 ^ (i % 32) : Nat) : Int)] ++ (mgl 32 S).drop (i / 32 + 1) := by
        rw [← hq3]; exact mgl_put (by omega) rfl hq2
      have hD : (2 * R + bit) / pw 32 ≤ 1 := by
        have : (2 * R + bit) / pw 32 < 2 := by rw [Nat.div_lt_iff_lt_mul (pw_pos 32)]; omega
        omega
      have hdm := Nat.div_add_mod (2 * R + bit) (pw 32)
      have hdl := Nat.mod_lt (2 * R + bit) (pw_pos 32)
      have hdb := rdouble R bit (by omega) (by omega)
      have hmd := mdif_all (n := (2 * R + bit) % pw 32) hdl hBl
      have hdf := rdiff_any ((2 * R + bit) % pw 32) B
      rw [hmd] at hdf
      have hcm := rcompare ((2 * R + bit) % pw 32) B hdl hBl
      have hc0 := cmpv_neg ((2 * R + bit) % pw 32) B
      have hfin1 : (2 * R + bit) / pw 32 = 1 → S' = T ∧ R' = ((2 * R + bit) % pw 32 + pw 32 - B) % pw 32 := by
        intro h
        rw [h, Nat.mul_one] at hdm
        have hle : B ≤ 2 * R + bit := by omega
        rw [if_pos hle] at hnext hbs1
        refine ⟨hnext, ?_⟩
        rw [hbs1, Nat.mod_eq_of_lt (by omega)]; omega
      have hfin2 : (2 * R + bit) / pw 32 ≠ 1 → B ≤ (2 * R + bit) % pw 32 → S' = T ∧ R' = ((2 * R + bit) % pw 32 + pw 32 - B) % pw 32 := by
        intro h h2
        rw [(Nat.le_one_iff_eq_zero_or_eq_one.1 hD).resolve_right h, Nat.mul_zero, Nat.zero_add] at hdm
        have hle : B ≤ 2 * R + bit := by omega
        rw [if_pos hle] at hnext hbs1
        refine ⟨hnext, ?_⟩
        rw [hbs1, show (2 * R + bit) % pw 32 + pw 32 - B = (2 * R + bit - B) + pw 32 by omega, Nat.add_mod_right, Nat.mod_eq_of_lt (by omega)]
      have hfin3 : (2 * R + bit) / pw 32 ≠ 1 → (2 * R + bit) % pw 32 < B → S' = S ∧ R' = (2 * R + bit) % pw 32 := by
        intro h h2
        rw [(Nat.le_one_iff_eq_zero_or_eq_one.1 hD).resolve_right h, Nat.mul_zero, Nat.zero_add] at hdm
        have hle : ¬ B ≤ 2 * R + bit := by omega
        rw [if_neg hle] at hnext hbs1
        exact ⟨hnext, by omega⟩
      obtain ⟨E, hE⟩ : ∃ b, b = (2 * R + bit) % pw 32 := ⟨_, rfl⟩
      obtain ⟨c, hc⟩ : ∃ b, b = decide ((2 * R + bit) / pw 32 = 1) := ⟨_, rfl⟩
      obtain ⟨F, hF⟩ : ∃ b, b = (E + pw 32 - B) % pw 32 := ⟨_, rfl⟩
      rw [← hE, ← hc] at hdb
      rw [← hE, ← hF] at hfin1 hfin2 hdf
      rw [← hE] at hfin3 hcm hc0
      obtain ⟨cv, hcv⟩ : ∃ b, b = cmpv E B := ⟨_, rfl⟩
      rw [← hcv] at hc0 hcm
      have hinv : ∃ j : Nat, j ≤ s0 ∧ [Value.int .i64 ((i : Int) - 1), .agg (mgk 32 S'), .agg (mgk 32 R')] = [.int .i64 ((j : Int) - 1), .agg (mgk 32 (A / 2 ^ j / B * 2 ^ j)), .agg (mgk 32 (A / 2 ^ j % B))] :=
        ⟨i, by omega, by rw [hSS', hRR', hQQ']⟩
      clear hdm hdl hmd hD hbs1 hbs2 hnext
      refine tree_ite (ev_nil (way_false (by simp [BTm.den, Tm.i, Tm.s, Tm.den, env, vInt, vBool, vStr, exI] <;> omega) (tree_ite ?_)))
      refine ev_fits ((i / 32 : Nat) : Int) (by simp [BTm.den, Tm.i, Tm.s, Tm.den, env, vInt, vBool, vStr, exI, hq]) (rng_i64 _ (by omega)) ?_
      refine ev_need (by simp [BTm.den, Tm.i, Tm.s, Tm.den, env, vInt, vBool, vStr, exI, hq] <;> omega) ?_
      refine ev_need (by simp [BTm.den, Tm.i, Tm.s, Tm.den, env, vInt, vBool, vStr, exI, hq] <;> omega) ?_
      refine ev_elem [.int .u32 (limb A (i / 32) : Nat)] rfl rfl (l := mgl 32 A) (m := [.int .u32 (limb A (i / 32) : Nat)]) (k := i / 32) (by simp [BTm.den, Tm.i, Tm.s, Tm.den, env, vInt, vBool, vStr, exI, hq] <;> omega) (fun β => rowCells_mgk 32 A) (fun β => rfl) (mgl_elem (by omega)) ?_
      refine ev_fits ((i % 32 : Nat) : Int) (by simp [BTm.den, Tm.i, Tm.s, Tm.den, env, vInt, vBool, vStr, exI, hr]) (rng_i64 _ (by omega)) ?_
      refine ev_fits ((i % 32 : Nat) : Int) (by simp [BTm.den, Tm.i, Tm.s, Tm.den, env, vInt, vBool, vStr, exI, hr]) (rng_u64 _ (by omega)) ?_
      refine ev_need (by simp [BTm.den, Tm.i, Tm.s, Tm.den, env, vInt, vBool, vStr, exI, hr] <;> omega) ?_
      refine ev_call [.agg (mgk 32 E), .bool c] rfl rfl (pure_gives hdb) (fun β => by rw [← hand, ← hr]; simp [BTm.den, Tm.i, Tm.s, Tm.den, env, vInt, vBool, vStr, exI, SW.den, SV.den, Cell.den, densP, Piece.den, denV, denT, rowCells_mgk, mgl_agg]) (fun β => by simp [BTm.den, Tm.i, Tm.s, Tm.den, env, vInt, vBool, vStr, exI, SW.den, SV.den, Cell.den, densP, Piece.den, denV, denT, rowCells_mgk, mgl_agg]) ?_
      refine ev_nil ⟨fun hc1 => tree_leaf ?_, fun hc1 => tree_ite ?_⟩
      · have hc1 : c = true := by simpa [BTm.den, Tm.i, Tm.s, Tm.den, env, vInt, vBool, vStr, exI] using hc1
        obtain ⟨hf1, hf2⟩ := hfin1 (by rw [hc] at hc1; simpa using hc1)
        refine ev_call [.agg (mgk 32 F)] rfl rfl (pure_gives hdf) (fun β => by simp [BTm.den, Tm.i, Tm.s, Tm.den, env, vInt, vBool, vStr, exI, SW.den, SV.den, Cell.den, densP, Piece.den, denV, denT, rowCells_mgk, mgl_agg]) (fun β => by simp [BTm.den, Tm.i, Tm.s, Tm.den, env, vInt, vBool, vStr, exI, SW.den, SV.den, Cell.den, densP, Piece.den, denV, denT, rowCells_mgk, mgl_agg]) ?_
        refine ev_fits ((i / 32 : Nat) : Int) (by simp [BTm.den, Tm.i, Tm.s, Tm.den, env, vInt, vBool, vStr, exI, hq]) (rng_i64 _ (by omega)) ?_
        refine ev_need (by simp [BTm.den, Tm.i, Tm.s, Tm.den, env, vInt, vBool, vStr, exI, hq] <;> omega) ?_
        refine ev_need (by simp [BTm.den, Tm.i, Tm.s, Tm.den, env, vInt, vBool, vStr, exI, hq] <;> omega) ?_
        refine ev_elem [.int .u32 (limb S (i / 32) : Nat)] rfl rfl (l := mgl 32 S) (m := [.int .u32 (limb S (i / 32) : Nat)]) (k := i / 32) (by simp [BTm.den, Tm.i, Tm.s, Tm.den, env, vInt, vBool, vStr, exI, hq] <;> omega) (fun β => rowCells_mgk 32 S) (fun β => rfl) (mgl_elem (by omega)) ?_
        refine ev_fits ((i % 32 : Nat) : Int) (by simp [BTm.den, Tm.i, Tm.s, Tm.den, env, vInt, vBool, vStr, exI, hr]) (rng_i64 _ (by omega)) ?_
        refine ev_fits ((i % 32 : Nat) : Int) (by simp [BTm.den, Tm.i, Tm.s, Tm.den, env, vInt, vBool, vStr, exI, hr]) (rng_u64 _ (by omega)) ?_
        refine ev_need (by simp [BTm.den, Tm.i, Tm.s, Tm.den, env, vInt, vBool, vStr, exI, hr] <;> omega) ?_
        refine ev_need (by simp [BTm.den, Tm.i, Tm.s, Tm.den, env, vInt, vBool, vStr, exI, hq] <;> omega) ?_
        refine ev_need (by simp [BTm.den, Tm.i, Tm.s, Tm.den, env, vInt, vBool, vStr, exI, hq] <;> omega) ?_
        refine ev_put [.agg (mgk 32 T)] rfl rfl (l := mgl 32 S) (l' := mgl 32 T) (m := [.int .u32 ((limb S (i / 32) + 2 ^ (i % 32) : Nat) : Int)]) (k := i / 32) (by simp [BTm.den, Tm.i, Tm.s, Tm.den, env, vInt, vBool, vStr, exI, hq] <;> omega) (fun β => rowCells_mgk 32 _) (fun β => rowCells_mgk 32 _) (fun β => ?_) hput (by rw [mgl_length]; simp; omega) ?_
        · rw [← hq1, ← hr]; simp [BTm.den, Tm.i, Tm.s, Tm.den, env, vInt, vBool, vStr, exI, SW.den, SV.den, Cell.den, densP, Piece.den, denV, denT]
        refine ev_fits ((i : Int) - 1) (by simp [BTm.den, Tm.i, Tm.s, Tm.den, env, vInt, vBool, vStr, exI]) (rng_i64 _ (by omega)) ?_
        refine ev_nil ⟨[.int .i64 ((i : Int) - 1), .agg (mgk 32 S'), .agg (mgk 32 R')], rfl, hinv, ?_, ?_⟩
        · simp [vInt]
        · rw [hf1, hf2]; simp [BTm.den, Tm.i, Tm.s, Tm.den, env, vInt, vBool, vStr, exI, SW.den, SV.den, Cell.den, densP, Piece.den, denV, denT]
      · have hc1 : c = false := by simpa [BTm.den, Tm.i, Tm.s, Tm.den, env, vInt, vBool, vStr, exI] using hc1
        have hcc : (2 * R + bit) / pw 32 ≠ 1 := by rw [hc] at hc1; simpa using hc1
        refine ev_call [.int .i64 cv] rfl rfl (pure_gives hcm) (fun β => by simp [BTm.den, Tm.i, Tm.s, Tm.den, env, vInt, vBool, vStr, exI, SW.den, SV.den, Cell.den, densP, Piece.den, denV, denT, rowCells_mgk, mgl_agg]) (fun β => by simp [BTm.den, Tm.i, Tm.s, Tm.den, env, vInt, vBool, vStr, exI, SW.den, SV.den, Cell.den, densP, Piece.den, denV, denT, rowCells_mgk, mgl_agg]) ?_
        refine ev_nil ⟨fun hc2 => tree_leaf ?_, fun hc2 => tree_leaf ?_⟩
        · have hc2 : cv < 0 := by simpa [BTm.den, Tm.i, Tm.s, Tm.den, env, vInt, vBool, vStr, exI] using hc2
          obtain ⟨hf1, hf2⟩ := hfin3 hcc (hc0.1 hc2)
          refine ev_fits ((i : Int) - 1) (by simp [BTm.den, Tm.i, Tm.s, Tm.den, env, vInt, vBool, vStr, exI]) (rng_i64 _ (by omega)) ?_
          refine ev_nil ⟨[.int .i64 ((i : Int) - 1), .agg (mgk 32 S'), .agg (mgk 32 R')], rfl, hinv, ?_, ?_⟩
          · simp [vInt]
          · rw [hf1, hf2]; simp [BTm.den, Tm.i, Tm.s, Tm.den, env, vInt, vBool, vStr, exI, SW.den, SV.den, Cell.den, densP, Piece.den, denV, denT]
        · have hc2 : ¬ cv < 0 := by simpa [BTm.den, Tm.i, Tm.s, Tm.den, env, vInt, vBool, vStr, exI] using hc2
          obtain ⟨hf1, hf2⟩ := hfin2 hcc (by have := mt hc0.2 hc2; omega)
          refine ev_call [.agg (mgk 32 F)] rfl rfl (pure_gives hdf) (fun β => by simp [BTm.den, Tm.i, Tm.s, Tm.den, env, vInt, vBool, vStr, exI, SW.den, SV.den, Cell.den, densP, Piece.den, denV, denT, rowCells_mgk, mgl_agg]) (fun β => by simp [BTm.den, Tm.i, Tm.s, Tm.den, env, vInt, vBool, vStr, exI, SW.den, SV.den, Cell.den, densP, Piece.den, denV, denT, rowCells_mgk, mgl_agg]) ?_
          refine ev_fits ((i / 32 : Nat) : Int) (by simp [BTm.den, Tm.i, Tm.s, Tm.den, env, vInt, vBool, vStr, exI, hq]) (rng_i64 _ (by omega)) ?_
          refine ev_need (by simp [BTm.den, Tm.i, Tm.s, Tm.den, env, vInt, vBool, vStr, exI, hq] <;> omega) ?_
          refine ev_need (by simp [BTm.den, Tm.i, Tm.s, Tm.den, env, vInt, vBool, vStr, exI, hq] <;> omega) ?_
          refine ev_elem [.int .u32 (limb S (i / 32) : Nat)] rfl rfl (l := mgl 32 S) (m := [.int .u32 (limb S (i / 32) : Nat)]) (k := i / 32) (by simp [BTm.den, Tm.i, Tm.s, Tm.den, env, vInt, vBool, vStr, exI, hq] <;> omega) (fun β => rowCells_mgk 32 S) (fun β => rfl) (mgl_elem (by omega)) ?_
          refine ev_fits ((i % 32 : Nat) : Int) (by simp [BTm.den, Tm.i, Tm.s, Tm.den, env, vInt, vBool, vStr, exI, hr]) (rng_i64 _ (by omega)) ?_
          refine ev_fits ((i % 32 : Nat) : Int) (by simp [BTm.den, Tm.i, Tm.s, Tm.den, env, vInt, vBool, vStr, exI, hr]) (rng_u64 _ (by omega)) ?_
          refine ev_need (by simp [BTm.den, Tm.i, Tm.s, Tm.den, env, vInt, vBool, vStr, exI, hr] <;> omega) ?_
          refine ev_need (by simp [BTm.den, Tm.i, Tm.s, Tm.den, env, vInt, vBool, vStr, exI, hq] <;> omega) ?_
          refine ev_need (by simp [BTm.den, Tm.i, Tm.s, Tm.den, env, vInt, vBool, vStr, exI, hq] <;> omega) ?_
          refine ev_put [.agg (mgk 32 T)] rfl rfl (l := mgl 32 S) (l' := mgl 32 T) (m := [.int .u32 ((limb S (i / 32) + 2 ^ (i % 32) : Nat) : Int)]) (k := i / 32) (by simp [BTm.den, Tm.i, Tm.s, Tm.den, env, vInt, vBool, vStr, exI, hq] <;> omega) (fun β => rowCells_mgk 32 _) (fun β => rowCells_mgk 32 _) (fun β => ?_) hput (by rw [mgl_length]; simp; omega) ?_
          · rw [← hq1, ← hr]; simp [BTm.den, Tm.i, Tm.s, Tm.den, env, vInt, vBool, vStr, exI, SW.den, SV.den, Cell.den, densP, Piece.den, denV, denT]
          refine ev_fits ((i : Int) - 1) (by simp [BTm.den, Tm.i, Tm.s, Tm.den, env, vInt, vBool, vStr, exI]) (rng_i64 _ (by omega)) ?_
          refine ev_nil ⟨[.int .i64 ((i : Int) - 1), .agg (mgk 32 S'), .agg (mgk 32 R')], rfl, hinv, ?_, ?_⟩
          · simp [vInt]
          · rw [hf1, hf2]; simp [BTm.den, Tm.i, Tm.s, Tm.den, env, vInt, vBool, vStr, exI, SW.den, SV.den, Cell.den, densP, Piece.den, denV, denT]

end Go.Proofs.YtkiefjbfepjcbaaGreatDoor
end
section
namespace Go.Proofs.YtkiefjbfepjcbaaGreatDoor
open Go.RowKit Go.Proofs.YtkiefjbfepjcbaaGreatDoor.Sx
set_option linter.unusedSimpArgs false
set_option linter.unusedVariables false

theorem bl_le1024 {n : Nat} (h : n < pw 32) : bl n ≤ 1024 := by
  obtain ⟨K, hK, e⟩ := pw32_bits
  rw [e] at h
  have := bl_le h
  omega
theorem start_lt {A B s0 : Nat} (hB : 0 < B) (hs : s0 + (bl B - 1) = bl A) : A / 2 ^ s0 < B := by
  have h1 := bl_lt A
  have h2 := bl_ge (n := B) (by omega)
  rw [← hs, Nat.pow_add] at h1
  refine Nat.lt_of_lt_of_le ?_ h2
  rw [Nat.div_lt_iff_lt_mul (Nat.two_pow_pos _), Nat.mul_comm]; exact h1
theorem short_lt {A B : Nat} (hB : 0 < B) (h : bl A ≤ bl B - 1) : A < B :=
  Nat.lt_of_lt_of_le (bl_lt A) (Nat.le_trans (Nat.pow_le_pow_right (by omega) h) (bl_ge (by omega)))
set_option maxHeartbeats 2000000 in
theorem rdivide (A B : Nat) (hA : A < pw 32) (hBl : B < pw 32) (hB : 0 < B) : Gives Tryz.prog 113 #[.agg (mgk 32 A), .agg (mgk 32 B)] (.tuple #[.agg (mgk 32 (A / B)), .agg (mgk 32 (A % B))]) := by
  obtain ⟨Q, hQ⟩ : ∃ Q, Q = A / B := ⟨_, rfl⟩
  obtain ⟨R, hR⟩ : ∃ Q, Q = A % B := ⟨_, rfl⟩
  rw [← hQ, ← hR]
  have hmain : ∀ v, v = Value.tuple #[.agg (mgk 32 Q), .agg (mgk 32 R)] → tDivide.den Tryz.prog (fun ρ' ret => ∀ β, ret.val.den (env ρ') β = v) [.agg (mgk 32 A), .agg (mgk 32 B)] := by
    intro v hv
    have hla := rlimbs_any A
    have hlb := rlimbs_any B
    have hba := rbits_any false A hA
    have hbb := rbits_any false B hBl
    have h1 := bl_le1024 hA
    have h2 := bl_le1024 hBl
    have h3 := bl_pos (n := B) (by omega)
    obtain ⟨la, hla2⟩ : ∃ la, la = nl A := ⟨_, rfl⟩
    obtain ⟨lb, hlb2⟩ : ∃ la, la = nl B := ⟨_, rfl⟩
    obtain ⟨ba, hba2⟩ : ∃ la, la = bl A := ⟨_, rfl⟩
    obtain ⟨bb, hbb2⟩ : ∃ la, la = bl B := ⟨_, rfl⟩
    rw [← hla2] at hla
    rw [← hlb2] at hlb
    rw [← hba2] at hba
    rw [← hbb2] at hbb
    have hsmall : bl A ≤ bl B - 1 → Q = 0 ∧ R = A := fun h => by
      have := short_lt hB h
      rw [hQ, hR, Nat.div_eq_of_lt this, Nat.mod_eq_of_lt this]; exact ⟨rfl, rfl⟩
    have hz : ∀ β : Nat → Nat, List.replicate 32 (Value.int .u32 0) = mgl 32 0 := fun _ => (mgl_zero 32).symm
    refine tree_ite ?_
    refine ev_call [.int .i64 (la : Nat)] rfl rfl (pure_gives hla) (fun β => by simp [BTm.den, Tm.i, Tm.s, Tm.den, env, vInt, vBool, vStr, exI, SW.den, SV.den, Cell.den, densP, Piece.den, denV, denT, rowCells_mgk, mgl_agg]) (fun β => by simp [BTm.den, Tm.i, Tm.s, Tm.den, env, vInt, vBool, vStr, exI, SW.den, SV.den, Cell.den, densP, Piece.den, denV, denT]) ?_
    refine ev_nil ⟨fun hc => tree_ite ?_, fun hc => tree_ite ?_⟩
    · refine ev_call [.int .i64 (ba : Nat)] rfl rfl (pure_gives hba) (fun β => by simp [BTm.den, Tm.i, Tm.s, Tm.den, env, vInt, vBool, vStr, exI, SW.den, SV.den, Cell.den, densP, Piece.den, denV, denT, rowCells_mgk, iv_list]) (fun β => by simp [BTm.den, Tm.i, Tm.s, Tm.den, env, vInt, vBool, vStr, exI, SW.den, SV.den, Cell.den, densP, Piece.den, denV, denT]) ?_
      refine ev_call [.int .i64 (bb : Nat)] rfl rfl (pure_gives hbb) (fun β => by simp [BTm.den, Tm.i, Tm.s, Tm.den, env, vInt, vBool, vStr, exI, SW.den, SV.den, Cell.den, densP, Piece.den, denV, denT, rowCells_mgk, iv_list]) (fun β => by simp [BTm.den, Tm.i, Tm.s, Tm.den, env, vInt, vBool, vStr, exI, SW.den, SV.den, Cell.den, densP, Piece.den, denV, denT]) ?_
      refine ev_fits ((bb : Int) - 1) (by simp [BTm.den, Tm.i, Tm.s, Tm.den, env, vInt, vBool, vStr, exI]) (rng_i64 _ (by omega)) ?_
      refine ev_nil ⟨fun hd => tree_leaf ?_, fun hd => tree_leaf (ev_nil fun β => ?_)⟩
      · have hd : bb - 1 < ba := by
          have : (bb : Int) - 1 < ba := by simpa [BTm.den, Tm.i, Tm.s, Tm.den, env, vInt, vBool, vStr, exI] using hd
          omega
        obtain ⟨s0, hs0⟩ : ∃ s0, s0 + (bb - 1) = ba := ⟨ba - (bb - 1), by omega⟩
        have hlt := start_lt (A := A) (s0 := s0) hB (by omega)
        have hsh := rshifted A s0 hA (by omega)
        obtain ⟨W0, hW0⟩ : ∃ W, W = A / 2 ^ s0 := ⟨_, rfl⟩
        have hloop := rdivide_loop A B s0 la 0 ba bb W0 hA hB hBl hW0 hlt (by omega) (by omega) Q R hQ hR
        rw [← hW0] at hsh
        refine ev_fits ((s0 : Nat) : Int) (by simp [BTm.den, Tm.i, Tm.s, Tm.den, env, vInt, vBool, vStr, exI]; omega) (rng_i64 _ (by omega)) ?_
        refine ev_call [.agg (mgk 32 W0)] rfl rfl (pure_gives hsh) (fun β => by rw [show ((s0 : Nat) : Int) = (ba : Int) - ((bb : Int) - 1) by omega]; simp [BTm.den, Tm.i, Tm.s, Tm.den, env, vInt, vBool, vStr, exI, SW.den, SV.den, Cell.den, densP, Piece.den, denV, denT, rowCells_mgk, mgl_agg]) (fun β => by simp [BTm.den, Tm.i, Tm.s, Tm.den, env, vInt, vBool, vStr, exI, SW.den, SV.den, Cell.den, densP, Piece.den, denV, denT, rowCells_mgk, mgl_agg]) ?_
        refine ev_fits ((s0 : Nat) : Int) (by simp [BTm.den, Tm.i, Tm.s, Tm.den, env, vInt, vBool, vStr, exI]; omega) (rng_i64 _ (by omega)) ?_
        refine ev_fits ((s0 : Int) - 1) (by simp [BTm.den, Tm.i, Tm.s, Tm.den, env, vInt, vBool, vStr, exI]; omega) (rng_i64 _ (by omega)) ?_
        refine ev_loop [.int .i64 (-1), .agg (mgk 32 Q), .agg (mgk 32 R)] rfl rfl hloop (ev_nil fun β => ?_)
        rw [hv]; simp [BTm.den, Tm.i, Tm.s, Tm.den, env, vInt, vBool, vStr, exI, SW.den, SV.den, Cell.den, densP, Piece.den, denV, denT, rowCells_mgk, mgl_agg]
      · have hd : ¬ (bb : Int) - 1 < ba := by simpa [BTm.den, Tm.i, Tm.s, Tm.den, env, vInt, vBool, vStr, exI] using hd
        obtain ⟨e1, e2⟩ := hsmall (by omega)
        rw [hv, e1, e2, ← mgl_agg 32 0, mgl_zero]; simp [BTm.den, Tm.i, Tm.s, Tm.den, env, vInt, vBool, vStr, exI, SW.den, SV.den, Cell.den, densP, Piece.den, denV, denT, rowCells_mgk, mgl_agg]
    · have hc : ¬ (2 : Int) < la := by simpa [BTm.den, Tm.i, Tm.s, Tm.den, env, vInt, vBool, vStr, exI] using hc
      refine ev_call [.int .i64 (lb : Nat)] rfl rfl (pure_gives hlb) (fun β => by simp [BTm.den, Tm.i, Tm.s, Tm.den, env, vInt, vBool, vStr, exI, SW.den, SV.den, Cell.den, densP, Piece.den, denV, denT, rowCells_mgk, mgl_agg]) (fun β => by simp [BTm.den, Tm.i, Tm.s, Tm.den, env, vInt, vBool, vStr, exI, SW.den, SV.den, Cell.den, densP, Piece.den, denV, denT]) ?_
      refine ev_nil ⟨fun hc2 => tree_ite ?_, fun hc2 => tree_leaf ?_⟩
      · refine ev_call [.int .i64 (ba : Nat)] rfl rfl (pure_gives hba) (fun β => by simp [BTm.den, Tm.i, Tm.s, Tm.den, env, vInt, vBool, vStr, exI, SW.den, SV.den, Cell.den, densP, Piece.den, denV, denT, rowCells_mgk, iv_list]) (fun β => by simp [BTm.den, Tm.i, Tm.s, Tm.den, env, vInt, vBool, vStr, exI, SW.den, SV.den, Cell.den, densP, Piece.den, denV, denT]) ?_
        refine ev_call [.int .i64 (bb : Nat)] rfl rfl (pure_gives hbb) (fun β => by simp [BTm.den, Tm.i, Tm.s, Tm.den, env, vInt, vBool, vStr, exI, SW.den, SV.den, Cell.den, densP, Piece.den, denV, denT, rowCells_mgk, iv_list]) (fun β => by simp [BTm.den, Tm.i, Tm.s, Tm.den, env, vInt, vBool, vStr, exI, SW.den, SV.den, Cell.den, densP, Piece.den, denV, denT]) ?_
        refine ev_fits ((bb : Int) - 1) (by simp [BTm.den, Tm.i, Tm.s, Tm.den, env, vInt, vBool, vStr, exI]) (rng_i64 _ (by omega)) ?_
        refine ev_nil ⟨fun hd => tree_leaf ?_, fun hd => tree_leaf (ev_nil fun β => ?_)⟩
        · have hd : bb - 1 < ba := by
            have : (bb : Int) - 1 < ba := by simpa [BTm.den, Tm.i, Tm.s, Tm.den, env, vInt, vBool, vStr, exI] using hd
            omega
          obtain ⟨s0, hs0⟩ : ∃ s0, s0 + (bb - 1) = ba := ⟨ba - (bb - 1), by omega⟩
          have hlt := start_lt (A := A) (s0 := s0) hB (by omega)
          have hsh := rshifted A s0 hA (by omega)
          obtain ⟨W0, hW0⟩ : ∃ W, W = A / 2 ^ s0 := ⟨_, rfl⟩
          have hloop := rdivide_loopb A B s0 la lb ba bb W0 hA hB hBl hW0 hlt (by omega) (by omega) Q R hQ hR
          rw [← hW0] at hsh
          refine ev_fits ((s0 : Nat) : Int) (by simp [BTm.den, Tm.i, Tm.s, Tm.den, env, vInt, vBool, vStr, exI]; omega) (rng_i64 _ (by omega)) ?_
          refine ev_call [.agg (mgk 32 W0)] rfl rfl (pure_gives hsh) (fun β => by rw [show ((s0 : Nat) : Int) = (ba : Int) - ((bb : Int) - 1) by omega]; simp [BTm.den, Tm.i, Tm.s, Tm.den, env, vInt, vBool, vStr, exI, SW.den, SV.den, Cell.den, densP, Piece.den, denV, denT, rowCells_mgk, mgl_agg]) (fun β => by simp [BTm.den, Tm.i, Tm.s, Tm.den, env, vInt, vBool, vStr, exI, SW.den, SV.den, Cell.den, densP, Piece.den, denV, denT, rowCells_mgk, mgl_agg]) ?_
          refine ev_fits ((s0 : Nat) : Int) (by simp [BTm.den, Tm.i, Tm.s, Tm.den, env, vInt, vBool, vStr, exI]; omega) (rng_i64 _ (by omega)) ?_
          refine ev_fits ((s0 : Int) - 1) (by simp [BTm.den, Tm.i, Tm.s, Tm.den, env, vInt, vBool, vStr, exI]; omega) (rng_i64 _ (by omega)) ?_
          refine ev_loop [.int .i64 (-1), .agg (mgk 32 Q), .agg (mgk 32 R)] rfl rfl hloop (ev_nil fun β => ?_)
          rw [hv]; simp [BTm.den, Tm.i, Tm.s, Tm.den, env, vInt, vBool, vStr, exI, SW.den, SV.den, Cell.den, densP, Piece.den, denV, denT, rowCells_mgk, mgl_agg]
        · have hd : ¬ (bb : Int) - 1 < ba := by simpa [BTm.den, Tm.i, Tm.s, Tm.den, env, vInt, vBool, vStr, exI] using hd
          obtain ⟨e1, e2⟩ := hsmall (by omega)
          rw [hv, e1, e2, ← mgl_agg 32 0, mgl_zero]; simp [BTm.den, Tm.i, Tm.s, Tm.den, env, vInt, vBool, vStr, exI, SW.den, SV.den, Cell.den, densP, Piece.den, denV, denT, rowCells_mgk, mgl_agg]
      · have hc2 : ¬ (2 : Int) < lb := by simpa [BTm.den, Tm.i, Tm.s, Tm.den, env, vInt, vBool, vStr, exI] using hc2
        have hA2 : A < pw 2 := Nat.lt_of_lt_of_le (nl_lt hA) (pw_le (by omega))
        have hB2 : B < pw 2 := Nat.lt_of_lt_of_le (nl_lt hBl) (pw_le (by omega))
        have hQ2 : Q < pw 2 := by rw [hQ]; exact Nat.lt_of_le_of_lt (Nat.div_le_self _ _) hA2
        have hR2 : R < pw 2 := by rw [hR]; exact Nat.lt_of_le_of_lt (Nat.mod_le _ _) hA2
        have hp2 : pw 2 = 18446744073709551616 := rfl
        have eQ : (A : Int).tdiv B = (Q : Nat) := by rw [hQ]; exact tdivN A B
        have eR : (A : Int).tmod B = (R : Nat) := by rw [hR]; exact tmodN A B
        refine ev_call [.int .u64 (A : Nat)] rfl rfl (pure_gives (rlow A hA2)) (fun β => by simp [BTm.den, Tm.i, Tm.s, Tm.den, env, vInt, vBool, vStr, exI, SW.den, SV.den, Cell.den, densP, Piece.den, denV, denT, rowCells_mgk, mgl_agg]) (fun β => by simp [BTm.den, Tm.i, Tm.s, Tm.den, env, vInt, vBool, vStr, exI, SW.den, SV.den, Cell.den, densP, Piece.den, denV, denT]) ?_
        refine ev_call [.int .u64 (B : Nat)] rfl rfl (pure_gives (rlow B hB2)) (fun β => by simp [BTm.den, Tm.i, Tm.s, Tm.den, env, vInt, vBool, vStr, exI, SW.den, SV.den, Cell.den, densP, Piece.den, denV, denT, rowCells_mgk, mgl_agg]) (fun β => by simp [BTm.den, Tm.i, Tm.s, Tm.den, env, vInt, vBool, vStr, exI, SW.den, SV.den, Cell.den, densP, Piece.den, denV, denT]) ?_
        refine ev_need (by simp [BTm.den, Tm.i, Tm.s, Tm.den, env, vInt, vBool, vStr, exI] <;> omega) ?_
        refine ev_fits ((Q : Nat) : Int) (by simp [BTm.den, Tm.i, Tm.s, Tm.den, env, vInt, vBool, vStr, exI, eQ]) (rng_u64 _ (by omega)) ?_
        refine ev_call [.agg (mgk 32 Q)] rfl rfl (pure_gives (rsmall Q hQ2)) (fun β => by simp [BTm.den, Tm.i, Tm.s, Tm.den, env, vInt, vBool, vStr, exI, SW.den, SV.den, Cell.den, densP, Piece.den, denV, denT, eQ]) (fun β => by simp [BTm.den, Tm.i, Tm.s, Tm.den, env, vInt, vBool, vStr, exI, SW.den, SV.den, Cell.den, densP, Piece.den, denV, denT, rowCells_mgk, mgl_agg]) ?_
        refine ev_call [.int .u64 (A : Nat)] rfl rfl (pure_gives (rlow A hA2)) (fun β => by simp [BTm.den, Tm.i, Tm.s, Tm.den, env, vInt, vBool, vStr, exI, SW.den, SV.den, Cell.den, densP, Piece.den, denV, denT, rowCells_mgk, mgl_agg]) (fun β => by simp [BTm.den, Tm.i, Tm.s, Tm.den, env, vInt, vBool, vStr, exI, SW.den, SV.den, Cell.den, densP, Piece.den, denV, denT]) ?_
        refine ev_call [.int .u64 (B : Nat)] rfl rfl (pure_gives (rlow B hB2)) (fun β => by simp [BTm.den, Tm.i, Tm.s, Tm.den, env, vInt, vBool, vStr, exI, SW.den, SV.den, Cell.den, densP, Piece.den, denV, denT, rowCells_mgk, mgl_agg]) (fun β => by simp [BTm.den, Tm.i, Tm.s, Tm.den, env, vInt, vBool, vStr, exI, SW.den, SV.den, Cell.den, densP, Piece.den, denV, denT]) ?_
        refine ev_need (by simp [BTm.den, Tm.i, Tm.s, Tm.den, env, vInt, vBool, vStr, exI] <;> omega) ?_
        refine ev_fits ((R : Nat) : Int) (by simp [BTm.den, Tm.i, Tm.s, Tm.den, env, vInt, vBool, vStr, exI, eR]) (rng_u64 _ (by omega)) ?_
        refine ev_call [.agg (mgk 32 R)] rfl rfl (pure_gives (rsmall R hR2)) (fun β => by simp [BTm.den, Tm.i, Tm.s, Tm.den, env, vInt, vBool, vStr, exI, SW.den, SV.den, Cell.den, densP, Piece.den, denV, denT, eR]) (fun β => by simp [BTm.den, Tm.i, Tm.s, Tm.den, env, vInt, vBool, vStr, exI, SW.den, SV.den, Cell.den, densP, Piece.den, denV, denT, rowCells_mgk, mgl_agg]) ?_
        refine ev_nil fun β => ?_
        rw [hv]; simp [BTm.den, Tm.i, Tm.s, Tm.den, env, vInt, vBool, vStr, exI, SW.den, SV.den, Cell.den, densP, Piece.den, denV, denT, rowCells_mgk, mgl_agg]
  have h := pure_of plain [.agg (mgk 32 A), .agg (mgk 32 B)] tDivide_ok (by kernel_rfl) _ (hmain _ rfl)
  refine gives_pure ?_
  simpa [rowB, BTm.den, Tm.i, Tm.s, Tm.den, env, vInt, vBool, vStr, exI, SW.den, SV.den, Cell.den, densP, Piece.den, denV, denT, rowCells_mgk, mgl_agg] using h
end Go.Proofs.YtkiefjbfepjcbaaGreatDoor
end
section
namespace Go.Proofs.YtkiefjbfepjcbaaGreatDoor
open Go.RowKit Go.Proofs.YtkiefjbfepjcbaaGreatDoor.Sx
set_option linter.unusedSimpArgs false
set_option linter.unusedVariables false

theorem one_row : (Value.int .u32 1 :: List.replicate 31 (.int .u32 0)).toArray = mgk 32 1 := by
  rw [← Array.toList_inj]
  have := mgl_two 1 (by rw [show pw 2 = 18446744073709551616 by rfl]; omega)
  have e0 : limb 1 0 = 1 := by rw [limb_small _ (by omega)]; rfl
  have e1 : limb 1 1 = 0 := by rw [limb_small _ (by omega)]; rfl
  rw [e0, e1] at this
  show _ = mgl 32 1
  rw [this]; rfl
set_option maxHeartbeats 2000000 in
theorem rdivMod_any (s t : Bool) (n m : Nat) (hn : n < pw 32) (hm : m < pw 32) (h0 : 0 < m) : Gives Tryz.prog 53 #[.agg (iv s n), .agg (iv t m)] (divR (vz s n) (vz t m)) := by
  have hmain : ∀ v, v = divR (vz s n) (vz t m) → tDivMod.den Tryz.prog (fun ρ' ret => ∀ β, ret.val.den (env ρ') β = v) [.bool s, .agg (mgk 32 n), .bool t, .agg (mgk 32 m)] := by
    intro v hv
    have hzm := rzero_any m hm
    rw [isz_false (by omega)] at hzm
    have hdv := rdivide n m hn hm h0
    have hQl : n / m < pw 32 := Nat.lt_of_le_of_lt (Nat.div_le_self _ _) hn
    have hRl : n % m < m := Nat.mod_lt _ h0
    have hzr := rzero_any (n % m) (by omega)
    refine tree_ite ?_
    refine ev_call [.bool false] rfl rfl (pure_gives hzm) (fun β => by simp [BTm.den, Tm.i, Tm.s, Tm.den, env, vInt, vBool, vStr, exI, SW.den, SV.den, Cell.den, densP, Piece.den, denV, denT, rowCells_mgk, mgl_agg]) (fun β => by simp [BTm.den, Tm.i, Tm.s, Tm.den, env, vInt, vBool, vStr, exI, SW.den, SV.den, Cell.den, densP, Piece.den, denV, denT]) ?_
    refine ev_nil (way_false (by simp [BTm.den, Tm.i, Tm.s, Tm.den, env, vInt, vBool, vStr, exI]) (tree_ite ?_))
    have hplain : s = false ∨ n % m = 0 → v = .tuple #[.agg (ivZ (vz (s != t) (n / m))), .agg (ivZ (vz false (n % m))), .int .i64 0] := fun h => by
      obtain ⟨e1, e2⟩ := divZ_plain (t := t) h0 h
      rw [hv]; unfold divR; rw [e1, e2]; rfl
    have hmore : s = true → n % m ≠ 0 → v = .tuple #[.agg (ivZ (vz (s != t) (n / m + 1))), .agg (ivZ (vz false (m - n % m))), .int .i64 0] := fun hs h => by
      obtain ⟨e1, e2⟩ := divZ_more (t := t) h0 h
      rw [hv]; unfold divR; rw [hs, e1, e2]; rfl
    have hroom := div_room (n := n) (m := m) (K := pw 32) hn h0
    have hc1 := fun b => rcanon b (n / m) hQl
    have hc2 := rcanon false (n % m) (by omega)
    have hdf := rdiff m (n % m) hm (by omega)
    have hsm := rsum (n / m) 1 hQl (by have := pw_le (show 1 ≤ 32 by omega); rw [pw_one] at this; omega)
    clear hv
    obtain ⟨Q, hQ⟩ : ∃ Q, Q = n / m := ⟨_, rfl⟩
    obtain ⟨R, hR⟩ : ∃ Q, Q = n % m := ⟨_, rfl⟩
    rw [← hQ] at hdv hQl hplain hmore hroom hsm
    rw [← hR] at hdv hRl hplain hmore hroom hc2 hdf hzr
    rw [← hQ] at hc1
    refine ev_call [.agg (mgk 32 Q), .agg (mgk 32 R)] rfl rfl (pure_gives hdv) (fun β => by simp [BTm.den, Tm.i, Tm.s, Tm.den, env, vInt, vBool, vStr, exI, SW.den, SV.den, Cell.den, densP, Piece.den, denV, denT, rowCells_mgk, mgl_agg]) (fun β => by simp [BTm.den, Tm.i, Tm.s, Tm.den, env, vInt, vBool, vStr, exI, SW.den, SV.den, Cell.den, densP, Piece.den, denV, denT, rowCells_mgk, mgl_agg]) ?_
    have fin : ∀ (ρ : List Value) (b : Bool) (X Y : Nat), True := fun _ _ _ _ => trivial
    refine ev_nil ⟨fun hs => tree_ite ?_, fun hs => tree_ite (ev_nil ⟨fun ht => tree_leaf ?_, fun ht => tree_leaf ?_⟩)⟩
    · have hs : s = true := by simpa [BTm.den, Tm.i, Tm.s, Tm.den, env, vInt, vBool, vStr, exI] using hs
      subst hs
      refine ev_call [.bool (isz R)] rfl rfl (pure_gives hzr) (fun β => by simp [BTm.den, Tm.i, Tm.s, Tm.den, env, vInt, vBool, vStr, exI, SW.den, SV.den, Cell.den, densP, Piece.den, denV, denT, rowCells_mgk, mgl_agg]) (fun β => by simp [BTm.den, Tm.i, Tm.s, Tm.den, env, vInt, vBool, vStr, exI, SW.den, SV.den, Cell.den, densP, Piece.den, denV, denT]) ?_
      refine ev_nil ⟨fun hz => tree_ite (ev_nil ⟨fun ht => tree_leaf ?_, fun ht => tree_leaf ?_⟩), fun hz => tree_ite ?_⟩
      · have ht : t = true := by simpa [BTm.den, Tm.i, Tm.s, Tm.den, env, vInt, vBool, vStr, exI] using ht
        have hz' : R = 0 := by simpa [BTm.den, Tm.i, Tm.s, Tm.den, env, vInt, vBool, vStr, exI, isz] using hz
        subst ht
        have hv := hplain (.inr hz')
        have hc := hc1 (true != true)
        refine ev_call [.bool (decide (vz (true != true) Q < 0)), .agg (mgk 32 (vz (true != true) Q).natAbs)] rfl rfl (pure_gives hc) (fun β => by simp [BTm.den, Tm.i, Tm.s, Tm.den, env, vInt, vBool, vStr, exI, SW.den, SV.den, Cell.den, densP, Piece.den, denV, denT, rowCells_mgk, mgl_agg]) (fun β => by simp [BTm.den, Tm.i, Tm.s, Tm.den, env, vInt, vBool, vStr, exI, SW.den, SV.den, Cell.den, densP, Piece.den, denV, denT, rowCells_mgk, iv_list, ivZ]) ?_
        refine ev_call [.bool (decide (vz false R < 0)), .agg (mgk 32 (vz false R).natAbs)] rfl rfl (pure_gives hc2) (fun β => by simp [BTm.den, Tm.i, Tm.s, Tm.den, env, vInt, vBool, vStr, exI, SW.den, SV.den, Cell.den, densP, Piece.den, denV, denT, rowCells_mgk, mgl_agg]) (fun β => by simp [BTm.den, Tm.i, Tm.s, Tm.den, env, vInt, vBool, vStr, exI, SW.den, SV.den, Cell.den, densP, Piece.den, denV, denT, rowCells_mgk, iv_list, ivZ]) ?_
        refine ev_nil fun β => ?_
        rw [hv]
        simp [BTm.den, Tm.i, Tm.s, Tm.den, env, vInt, vBool, vStr, exI, SW.den, SV.den, Cell.den, densP, Piece.den, denV, denT, rowCells_mgk, iv_list, ivZ]
      · have ht : t = false := by simpa [BTm.den, Tm.i, Tm.s, Tm.den, env, vInt, vBool, vStr, exI] using ht
        have hz' : R = 0 := by simpa [BTm.den, Tm.i, Tm.s, Tm.den, env, vInt, vBool, vStr, exI, isz] using hz
        subst ht
        have hv := hplain (.inr hz')
        have hc := hc1 (true != false)
        refine ev_call [.bool (decide (vz (true != false) Q < 0)), .agg (mgk 32 (vz (true != false) Q).natAbs)] rfl rfl (pure_gives hc) (fun β => by simp [BTm.den, Tm.i, Tm.s, Tm.den, env, vInt, vBool, vStr, exI, SW.den, SV.den, Cell.den, densP, Piece.den, denV, denT, rowCells_mgk, mgl_agg]) (fun β => by simp [BTm.den, Tm.i, Tm.s, Tm.den, env, vInt, vBool, vStr, exI, SW.den, SV.den, Cell.den, densP, Piece.den, denV, denT, rowCells_mgk, iv_list, ivZ]) ?_
        refine ev_call [.bool (decide (vz false R < 0)), .agg (mgk 32 (vz false R).natAbs)] rfl rfl (pure_gives hc2) (fun β => by simp [BTm.den, Tm.i, Tm.s, Tm.den, env, vInt, vBool, vStr, exI, SW.den, SV.den, Cell.den, densP, Piece.den, denV, denT, rowCells_mgk, mgl_agg]) (fun β => by simp [BTm.den, Tm.i, Tm.s, Tm.den, env, vInt, vBool, vStr, exI, SW.den, SV.den, Cell.den, densP, Piece.den, denV, denT, rowCells_mgk, iv_list, ivZ]) ?_
        refine ev_nil fun β => ?_
        rw [hv]
        simp [BTm.den, Tm.i, Tm.s, Tm.den, env, vInt, vBool, vStr, exI, SW.den, SV.den, Cell.den, densP, Piece.den, denV, denT, rowCells_mgk, iv_list, ivZ]
      · have hz : R ≠ 0 := by simpa [BTm.den, Tm.i, Tm.s, Tm.den, env, vInt, vBool, vStr, exI, isz] using hz
        have hv := hmore rfl hz
        have hroom := hroom hz
        rw [Nat.mod_eq_of_lt hroom] at hsm
        refine ev_call [.agg (mgk 32 (m - R))] rfl rfl (pure_gives hdf) (fun β => by simp [BTm.den, Tm.i, Tm.s, Tm.den, env, vInt, vBool, vStr, exI, SW.den, SV.den, Cell.den, densP, Piece.den, denV, denT, rowCells_mgk, mgl_agg]) (fun β => by simp [BTm.den, Tm.i, Tm.s, Tm.den, env, vInt, vBool, vStr, exI, SW.den, SV.den, Cell.den, densP, Piece.den, denV, denT, rowCells_mgk, mgl_agg]) ?_
        refine ev_call [.agg (mgk 32 (Q + 1)), .bool (decide (Q + 1 < pw 32))] rfl rfl (pure_gives hsm) (fun β => by rw [← one_row]; simp [BTm.den, Tm.i, Tm.s, Tm.den, env, vInt, vBool, vStr, exI, SW.den, SV.den, Cell.den, densP, Piece.den, denV, denT, rowCells_mgk, mgl_agg]) (fun β => by simp [BTm.den, Tm.i, Tm.s, Tm.den, env, vInt, vBool, vStr, exI, SW.den, SV.den, Cell.den, densP, Piece.den, denV, denT, rowCells_mgk, mgl_agg]) ?_
        have hc2 := rcanon false (m - R) (by omega)
        have hc1 := fun b => rcanon b (Q + 1) hroom
        refine ev_nil ⟨fun ht => tree_leaf ?_, fun ht => tree_leaf ?_⟩
        · have ht : t = true := by simpa [BTm.den, Tm.i, Tm.s, Tm.den, env, vInt, vBool, vStr, exI] using ht
          subst ht
          have hc := hc1 (true != true)
          refine ev_call [.bool (decide (vz (true != true) (Q + 1) < 0)), .agg (mgk 32 (vz (true != true) (Q + 1)).natAbs)] rfl rfl (pure_gives hc) (fun β => by simp [BTm.den, Tm.i, Tm.s, Tm.den, env, vInt, vBool, vStr, exI, SW.den, SV.den, Cell.den, densP, Piece.den, denV, denT, rowCells_mgk, mgl_agg]) (fun β => by simp [BTm.den, Tm.i, Tm.s, Tm.den, env, vInt, vBool, vStr, exI, SW.den, SV.den, Cell.den, densP, Piece.den, denV, denT, rowCells_mgk, iv_list, ivZ]) ?_
          refine ev_call [.bool (decide (vz false (m - R) < 0)), .agg (mgk 32 (vz false (m - R)).natAbs)] rfl rfl (pure_gives hc2) (fun β => by simp [BTm.den, Tm.i, Tm.s, Tm.den, env, vInt, vBool, vStr, exI, SW.den, SV.den, Cell.den, densP, Piece.den, denV, denT, rowCells_mgk, mgl_agg]) (fun β => by simp [BTm.den, Tm.i, Tm.s, Tm.den, env, vInt, vBool, vStr, exI, SW.den, SV.den, Cell.den, densP, Piece.den, denV, denT, rowCells_mgk, iv_list, ivZ]) ?_
          refine ev_nil fun β => ?_
          rw [hv]
          simp [BTm.den, Tm.i, Tm.s, Tm.den, env, vInt, vBool, vStr, exI, SW.den, SV.den, Cell.den, densP, Piece.den, denV, denT, rowCells_mgk, iv_list, ivZ]
        · have ht : t = false := by simpa [BTm.den, Tm.i, Tm.s, Tm.den, env, vInt, vBool, vStr, exI] using ht
          subst ht
          have hc := hc1 (true != false)
          refine ev_call [.bool (decide (vz (true != false) (Q + 1) < 0)), .agg (mgk 32 (vz (true != false) (Q + 1)).natAbs)] rfl rfl (pure_gives hc) (fun β => by simp [BTm.den, Tm.i, Tm.s, Tm.den, env, vInt, vBool, vStr, exI, SW.den, SV.den, Cell.den, densP, Piece.den, denV, denT, rowCells_mgk, mgl_agg]) (fun β => by simp [BTm.den, Tm.i, Tm.s, Tm.den, env, vInt, vBool, vStr, exI, SW.den, SV.den, Cell.den, densP, Piece.den, denV, denT, rowCells_mgk, iv_list, ivZ]) ?_
          refine ev_call [.bool (decide (vz false (m - R) < 0)), .agg (mgk 32 (vz false (m - R)).natAbs)] rfl rfl (pure_gives hc2) (fun β => by simp [BTm.den, Tm.i, Tm.s, Tm.den, env, vInt, vBool, vStr, exI, SW.den, SV.den, Cell.den, densP, Piece.den, denV, denT, rowCells_mgk, mgl_agg]) (fun β => by simp [BTm.den, Tm.i, Tm.s, Tm.den, env, vInt, vBool, vStr, exI, SW.den, SV.den, Cell.den, densP, Piece.den, denV, denT, rowCells_mgk, iv_list, ivZ]) ?_
          refine ev_nil fun β => ?_
          rw [hv]
          simp [BTm.den, Tm.i, Tm.s, Tm.den, env, vInt, vBool, vStr, exI, SW.den, SV.den, Cell.den, densP, Piece.den, denV, denT, rowCells_mgk, iv_list, ivZ]
    · have hs : s = false := by simpa [BTm.den, Tm.i, Tm.s, Tm.den, env, vInt, vBool, vStr, exI] using hs
      have ht : t = true := by simpa [BTm.den, Tm.i, Tm.s, Tm.den, env, vInt, vBool, vStr, exI] using ht
      subst hs ht
      have hv := hplain (.inl rfl)
      have hc := hc1 (false != true)
      refine ev_call [.bool (decide (vz (false != true) Q < 0)), .agg (mgk 32 (vz (false != true) Q).natAbs)] rfl rfl (pure_gives hc) (fun β => by simp [BTm.den, Tm.i, Tm.s, Tm.den, env, vInt, vBool, vStr, exI, SW.den, SV.den, Cell.den, densP, Piece.den, denV, denT, rowCells_mgk, mgl_agg]) (fun β => by simp [BTm.den, Tm.i, Tm.s, Tm.den, env, vInt, vBool, vStr, exI, SW.den, SV.den, Cell.den, densP, Piece.den, denV, denT, rowCells_mgk, iv_list, ivZ]) ?_
      refine ev_call [.bool (decide (vz false R < 0)), .agg (mgk 32 (vz false R).natAbs)] rfl rfl (pure_gives hc2) (fun β => by simp [BTm.den, Tm.i, Tm.s, Tm.den, env, vInt, vBool, vStr, exI, SW.den, SV.den, Cell.den, densP, Piece.den, denV, denT, rowCells_mgk, mgl_agg]) (fun β => by simp [BTm.den, Tm.i, Tm.s, Tm.den, env, vInt, vBool, vStr, exI, SW.den, SV.den, Cell.den, densP, Piece.den, denV, denT, rowCells_mgk, iv_list, ivZ]) ?_
      refine ev_nil fun β => ?_
      rw [hv]
      simp [BTm.den, Tm.i, Tm.s, Tm.den, env, vInt, vBool, vStr, exI, SW.den, SV.den, Cell.den, densP, Piece.den, denV, denT, rowCells_mgk, iv_list, ivZ]
    · have hs : s = false := by simpa [BTm.den, Tm.i, Tm.s, Tm.den, env, vInt, vBool, vStr, exI] using hs
      have ht : t = false := by simpa [BTm.den, Tm.i, Tm.s, Tm.den, env, vInt, vBool, vStr, exI] using ht
      subst hs ht
      have hv := hplain (.inl rfl)
      have hc := hc1 (false != false)
      refine ev_call [.bool (decide (vz (false != false) Q < 0)), .agg (mgk 32 (vz (false != false) Q).natAbs)] rfl rfl (pure_gives hc) (fun β => by simp [BTm.den, Tm.i, Tm.s, Tm.den, env, vInt, vBool, vStr, exI, SW.den, SV.den, Cell.den, densP, Piece.den, denV, denT, rowCells_mgk, mgl_agg]) (fun β => by simp [BTm.den, Tm.i, Tm.s, Tm.den, env, vInt, vBool, vStr, exI, SW.den, SV.den, Cell.den, densP, Piece.den, denV, denT, rowCells_mgk, iv_list, ivZ]) ?_
      refine ev_call [.bool (decide (vz false R < 0)), .agg (mgk 32 (vz false R).natAbs)] rfl rfl (pure_gives hc2) (fun β => by simp [BTm.den, Tm.i, Tm.s, Tm.den, env, vInt, vBool, vStr, exI, SW.den, SV.den, Cell.den, densP, Piece.den, denV, denT, rowCells_mgk, mgl_agg]) (fun β => by simp [BTm.den, Tm.i, Tm.s, Tm.den, env, vInt, vBool, vStr, exI, SW.den, SV.den, Cell.den, densP, Piece.den, denV, denT, rowCells_mgk, iv_list, ivZ]) ?_
      refine ev_nil fun β => ?_
      rw [hv]
      simp [BTm.den, Tm.i, Tm.s, Tm.den, env, vInt, vBool, vStr, exI, SW.den, SV.den, Cell.den, densP, Piece.den, denV, denT, rowCells_mgk, iv_list, ivZ]
  have h := pure_of plain [.bool s, .agg (mgk 32 n), .bool t, .agg (mgk 32 m)] tDivMod_ok (by kernel_rfl) _ (hmain _ rfl)
  refine gives_pure ?_
  simpa [intB, BTm.den, Tm.i, Tm.s, Tm.den, env, vInt, vBool, vStr, exI, SW.den, SV.den, Cell.den, densP, Piece.den, denV, denT, rowCells_mgk, iv_list] using h
noncomputable def natOf (v : Value) : Nat := open Classical in if h : ∃ N, N < pw 32 ∧ v = .agg (mgk 32 N) then Classical.choose h else 0
theorem natOf_mgk {N : Nat} (h : N < pw 32) : natOf (.agg (mgk 32 N)) = N := by
  have hex : ∃ M, M < pw 32 ∧ Value.agg (mgk 32 N) = .agg (mgk 32 M) := ⟨N, h, rfl⟩
  unfold natOf
  rw [dif_pos hex]
  have := Classical.choose_spec hex
  exact (mgk_inj h this.1 (by have := this.2; injection this)).symm
set_option maxHeartbeats 1000000 in
theorem rgcd_any (s t : Bool) (n m : Nat) (hn : n < pw 32) (hm : m < pw 32) : Gives Tryz.prog 110 #[.agg (iv s n), .agg (iv t m)] (.agg (ivZ ((Nat.gcd n m : Nat) : Int))) := by
  obtain ⟨g, hg⟩ : ∃ g, g = Nat.gcd n m := ⟨_, rfl⟩
  have hgl : g < pw 32 := by
    rcases Nat.eq_zero_or_pos n with h | h
    · rw [hg, h, Nat.gcd_zero_left]; exact hm
    · rw [hg]; exact Nat.lt_of_le_of_lt (Nat.gcd_le_left _ h) hn
  rw [← hg]
  have hloop : Ev.holds Tryz.prog (env [.bool s, .agg (mgk 32 n), .bool t, .agg (mgk 32 m), .agg (mgk 32 g), .agg (mgk 32 0)]) (.loop 110 0 divS110_0 divH110_0 (.exit 0) .none 2) := by
    refine loop_holds plain (m := 2) (x := .exit 0) (alt := none) [.bool s, .agg (mgk 32 n), .bool t, .agg (mgk 32 m)] [.agg (mgk 32 g), .agg (mgk 32 0)] tGcd0_ok tGcd0_fine
      (fun vs => ∃ M N : Nat, M < pw 32 ∧ N < pw 32 ∧ Nat.gcd M N = g ∧ vs = [.agg (mgk 32 M), .agg (mgk 32 N)])
      (fun vs => natOf (vs.getD 1 undef)) tGcd0_diff ?_ ?_
    · refine ⟨[.agg (mgk 32 n), .agg (mgk 32 m)], rfl, ⟨n, m, hn, hm, hg.symm, rfl⟩, ?_⟩
      simp [tGcd0_d, BTm.den, Tm.i, Tm.s, Tm.den, env, vInt, vBool, vStr, exI, SW.den, SV.den, Cell.den, densP, Piece.den, denV, denT]
    · rintro vs hl ⟨M, N, hM, hN, hgN, rfl⟩
      clear hl
      have hz := rzero_any N hN
      refine tree_ite ?_
      refine ev_call [.bool (isz N)] rfl rfl (pure_gives hz) (fun β => by simp [BTm.den, Tm.i, Tm.s, Tm.den, env, vInt, vBool, vStr, exI, SW.den, SV.den, Cell.den, densP, Piece.den, denV, denT, rowCells_mgk, mgl_agg]) (fun β => by simp [BTm.den, Tm.i, Tm.s, Tm.den, env, vInt, vBool, vStr, exI, SW.den, SV.den, Cell.den, densP, Piece.den, denV, denT]) ?_
      refine ev_nil ⟨fun h0 => tree_leaf (ev_nil ?_), fun h0 => tree_leaf ?_⟩
      · have h0 : N = 0 := by simpa [BTm.den, Tm.i, Tm.s, Tm.den, env, vInt, vBool, vStr, exI, isz] using h0
        subst h0
        rw [Nat.gcd_zero_right] at hgN
        subst hgN
        exact ⟨rfl, by simp [BTm.den, Tm.i, Tm.s, Tm.den, env, vInt, vBool, vStr, exI, SW.den, SV.den, Cell.den, densP, Piece.den, denV, denT]⟩
      · have h0 : N ≠ 0 := by simpa [BTm.den, Tm.i, Tm.s, Tm.den, env, vInt, vBool, vStr, exI, isz] using h0
        have hdv := rdivide M N hM hN (by omega)
        have hR : M % N < N := Nat.mod_lt _ (by omega)
        have hgg : Nat.gcd N (M % N) = g := by rw [← hgN, Nat.gcd_comm M N, Nat.gcd_rec N M, Nat.gcd_comm]
        obtain ⟨Q, hQ⟩ : ∃ Q, Q = M / N := ⟨_, rfl⟩
        obtain ⟨R, hRR⟩ : ∃ Q, Q = M % N := ⟨_, rfl⟩
        rw [← hQ, ← hRR] at hdv
        rw [← hRR] at hR hgg
        refine ev_call [.agg (mgk 32 Q), .agg (mgk 32 R)] rfl rfl (pure_gives hdv) (fun β => by simp [BTm.den, Tm.i, Tm.s, Tm.den, env, vInt, vBool, vStr, exI, SW.den, SV.den, Cell.den, densP, Piece.den, denV, denT, rowCells_mgk, mgl_agg]) (fun β => by simp [BTm.den, Tm.i, Tm.s, Tm.den, env, vInt, vBool, vStr, exI, SW.den, SV.den, Cell.den, densP, Piece.den, denV, denT, rowCells_mgk, mgl_agg]) ?_
        refine ev_nil ⟨[.agg (mgk 32 N), .agg (mgk 32 R)], rfl, ⟨N, R, hN, by omega, hgg, rfl⟩, ?_, ?_⟩
        · show natOf (.agg (mgk 32 R)) < natOf (.agg (mgk 32 N))
          rw [natOf_mgk hN, natOf_mgk (by omega)]; exact hR
        · simp [BTm.den, Tm.i, Tm.s, Tm.den, env, vInt, vBool, vStr, exI, SW.den, SV.den, Cell.den, densP, Piece.den, denV, denT]
  have hc := rcanon false g hgl
  have h := pure_of plain [.bool s, .agg (mgk 32 n), .bool t, .agg (mgk 32 m)] tGcd_ok (by kernel_rfl) (.agg (ivZ (vz false g))) (tree_leaf (ev_loop [.agg (mgk 32 g), .agg (mgk 32 0)] rfl rfl hloop (ev_call [.bool (decide (vz false g < 0)), .agg (mgk 32 (vz false g).natAbs)] rfl rfl (pure_gives hc) (fun β => by simp [BTm.den, Tm.i, Tm.s, Tm.den, env, vInt, vBool, vStr, exI, SW.den, SV.den, Cell.den, densP, Piece.den, denV, denT, rowCells_mgk, mgl_agg]) (fun β => by simp [BTm.den, Tm.i, Tm.s, Tm.den, env, vInt, vBool, vStr, exI, SW.den, SV.den, Cell.den, densP, Piece.den, denV, denT, rowCells_mgk, iv_list, ivZ]) (ev_nil fun β => ?_))))
  · refine gives_pure ?_
    rw [show ((g : Nat) : Int) = vz false g by simp [vz]]
    simpa [intB, BTm.den, Tm.i, Tm.s, Tm.den, env, vInt, vBool, vStr, exI, SW.den, SV.den, Cell.den, densP, Piece.den, denV, denT, rowCells_mgk, iv_list] using h
  · simp [BTm.den, Tm.i, Tm.s, Tm.den, env, vInt, vBool, vStr, exI, SW.den, SV.den, Cell.den, densP, Piece.den, denV, denT, rowCells_mgk, iv_list, ivZ]
end Go.Proofs.YtkiefjbfepjcbaaGreatDoor
end
section
namespace Go.Proofs.YtkiefjbfepjcbaaGreatDoor
open Go.RowKit
set_option linter.unusedVariables false

theorem est_fin {W D p g : Nat} (hp : 0 < p) (hD : 0 < D) (h : g * (D / p) ≤ W / p) (hg : g ≤ D / p + 1) : g ≤ W / D + 1 := by
  rcases g with _ | g
  · exact Nat.zero_le _
  · have h1 : g ≤ W / D := by
      rw [Nat.le_div_iff_mul_le hD]
      obtain ⟨E, hE⟩ : ∃ E, D / p = E := ⟨_, rfl⟩
      obtain ⟨V, hV⟩ : ∃ V, W / p = V := ⟨_, rfl⟩
      rw [hE, hV] at h
      rw [hE] at hg
      have hDE : D ≤ (E + 1) * p := by
        have := Nat.div_add_mod D p
        have h3 := Nat.mod_lt D hp
        rw [hE] at this
        rw [Nat.add_mul, Nat.mul_comm E]; omega
      have hWV : V * p ≤ W := by rw [← hV]; exact Nat.div_mul_le_self W p
      have h4 : g * D ≤ g * ((E + 1) * p) := Nat.mul_le_mul_left _ hDE
      have h5 : g * (E + 1) ≤ V := by
        rw [Nat.add_mul] at h
        rw [Nat.mul_add]
        omega
      have h6 : g * (E + 1) * p ≤ V * p := Nat.mul_le_mul_right _ h5
      rw [Nat.mul_assoc] at h6
      omega
    exact Nat.succ_le_succ h1
theorem est_q {W D p : Nat} (hp : 0 < p) : W / D * (D / p) ≤ W / p := by
  rw [Nat.le_div_iff_mul_le hp, Nat.mul_assoc]
  exact Nat.le_trans (Nat.mul_le_mul_left _ (Nat.div_mul_le_self D p)) (Nat.div_mul_le_self W D)
theorem u64_eq {a : Int} {b : Nat} (h : a = b) : Value.int .u64 a = .int .u64 ((b : Nat) : Int) := by rw [h]

set_option maxRecDepth 100000 in
set_option maxHeartbeats 4000000 in
theorem estimate_core (bl bs i n n1 n2 nw capw caps L S f s wn w1 w2 q h : Nat) (hn1 : ((n : Nat) : Int) - 1 = ((n1 : Nat) : Int)) (hn2 : ((n : Nat) : Int) - 2 = ((n2 : Nat) : Int)) (hnw : n + 1 = nw) (hin : i + n + 1 ≤ 33) (hnn : 2 ≤ n ∧ n ≤ 32)
    (hf : limb S n1 = f) (hs : limb S n2 = s) (hwn : limb L (i + n) = wn) (hw1 : limb L (i + n1) = w1) (hw2 : limb L (i + n2) = w2) (rf : 2147483648 ≤ f ∧ f ≤ 4294967295) (rs : s ≤ 4294967295) (rwn : wn ≤ 4294967295) (rw1 : w1 ≤ 4294967295) (rw2 : w2 ≤ 4294967295)
    (hh : wn * 4294967296 + w1 = h) (HQ : Hid (q * (f * 4294967296 + s) ≤ h * 4294967296 + w2)) (HT : Hid (h < f * 4294967296 + 4294967296)) (hq : q ≤ 4294967295)
    (w : World) (hbl : w.heap[bl]? = some (.cells (mgk 33 L) 185)) (hbs : w.heap[bs]? = some (.cells (mgk 33 S) 185)) :
    Calls Tryz.prog 197 #[.slice (some ⟨bl, i, none⟩) nw capw, .slice (some ⟨bs, 0, none⟩) n caps] w fun e w' => (∃ g : Nat, e = .returned (.int .u32 ((g : Nat) : Int)) ∧ q ≤ g ∧ g ≤ 4294967295 ∧ g * (f * 4294967296 + s) ≤ h * 4294967296 + w2) ∧ Below w.heap.size w w' := by
  have hS := St.start_ro w [(bl, .cells (mgk 33 L) 185), (bs, .cells (mgk 33 S) 185)] (by
    intro x hx
    rcases List.mem_cons.1 hx with rfl | hx
    · exact hbl
    · obtain rfl := List.mem_singleton.1 hx
      exact hbs)
  clear hbl hbs
  have b1 : ((n1 : Nat) : Int) < ((n : Nat) : Int) := by omega
  have b2 : ((n2 : Nat) : Int) < ((n : Nat) : Int) := by omega
  have b3 : ((n1 : Nat) : Int) < ((nw : Nat) : Int) := by omega
  have b4 : ((n2 : Nat) : Int) < ((nw : Nat) : Int) := by omega
  have b5 : ((n : Nat) : Int) < ((nw : Nat) : Int) := by omega
  have hnI : (2 : Int) ≤ ((n : Nat) : Int) ∧ ((n : Nat) : Int) ≤ 32 := by omega
  clear hnw
  have hor : bits BinOp.or IntKind.u64 ((wn : Int) * 4294967296) (w1 : Int) = ((h : Nat) : Int) := by rw [← hh]; exact or_limb wn w1 (by omega) (by omega)
  have hhb : h ≤ 18446744073709551615 := by omega
  obtain ⟨g0, hg0⟩ : ∃ g0, h / f = g0 := ⟨_, rfl⟩
  obtain ⟨t0, ht0⟩ : ∃ t0, h % f = t0 := ⟨_, rfl⟩
  have HI0 : Hid (g0 * f + t0 = h) := by show _ = _; rw [← hg0, ← ht0, Nat.mul_comm]; exact Nat.div_add_mod h f
  have HQ0 : Hid (q ≤ g0) := by show q ≤ g0; rw [← hg0]; exact est_low HQ.out (by omega) (by omega)
  have rt0 : t0 ≤ 4294967295 := by rw [← ht0]; have := Nat.mod_lt h (show 0 < f by omega); omega
  have rg0 : g0 ≤ 4294967297 := by
    have h1 := HI0.out
    have h2 := HT.out
    refine Classical.byContradiction fun hc => ?_
    have : 4294967298 * f ≤ g0 * f := Nat.mul_le_mul_right _ (by omega)
    omega
  have hqz : ((h : Nat) : Int) / ((f : Nat) : Int) = ((g0 : Nat) : Int) := by rw [← hg0, Int.natCast_ediv]
  have hrz : ((h : Nat) : Int) % ((f : Nat) : Int) = ((t0 : Nat) : Int) := by rw [← ht0, Int.natCast_emod]
  have hne : ¬ ((f : Int) = 0) := by omega
  have hdn : ¬ (f = 0) := by omega
  have hnb : ((f : Int) == 0) = false := by simp; omega
  have hnb2 : ((f : Int) != 0) = true := by simp; omega
  have hf1 : (1 : Int) ≤ (f : Int) := by omega
  clear hg0 ht0 hh
  go_enter Tryz.func197, Tryz.ntmps197
  go_wp2_with (fail)
  (try simp only [Act.put]); (try simp only [List.setIfInBounds_toArray, List.set_cons_succ, List.set_cons_zero]); refine wp_region_w0 hS (by kernel_rfl) (by kernel_rfl) ?_
  repeat (first
    | ((with_reducible refine S_slot 17 ?_); (refine S_load (t := 22) rfl rfl rfl rfl ?_; refine ⟨_, fun _ hS' => run_load_cell hS' _ _ rfl _ _ rfl _ _ (.inr (.tail _ (.head _))) _ Tryz.underlying22 rfl _ (mgk_get' (by omega)), ?_⟩; simp only [Act.put, List.setIfInBounds_toArray, List.set_cons_succ, List.set_cons_zero]))
    | ((with_reducible refine S_slot 23 ?_); (refine S_load (t := 22) rfl rfl rfl rfl ?_; refine ⟨_, fun _ hS' => run_load_cell hS' _ _ rfl _ _ rfl _ _ (.inr (.tail _ (.head _))) _ Tryz.underlying22 rfl _ (mgk_get' (by omega)), ?_⟩; simp only [Act.put, List.setIfInBounds_toArray, List.set_cons_succ, List.set_cons_zero]))
    | (refine S_run rfl rfl ?_; apply Exists.intro; refine ⟨fun _ => ?_, ?_⟩; (focus (go_simp; (try go_bits); exact rfl)); simp only [Act.put, List.setIfInBounds_toArray, List.set_cons_succ, List.set_cons_zero]))
  refine S_end0 ?_; clear hS; intro _ hS
  go_wp2_with (fail)
  (try simp only [Act.put]); (try simp only [List.setIfInBounds_toArray, List.set_cons_succ, List.set_cons_zero]); refine wp_region_w0 hS (by kernel_rfl) (by kernel_rfl) ?_
  repeat (first
    | ((with_reducible refine S_slot 28 ?_); (refine S_load (t := 22) rfl rfl rfl rfl ?_; refine ⟨_, fun _ hS' => run_load_cell hS' _ _ rfl _ _ rfl _ _ (.inr (.head _)) _ Tryz.underlying22 rfl _ (mgk_get' (by omega)), ?_⟩; simp only [Act.put, List.setIfInBounds_toArray, List.set_cons_succ, List.set_cons_zero]))
    | ((with_reducible refine S_slot 35 ?_); (refine S_load (t := 22) rfl rfl rfl rfl ?_; refine ⟨_, fun _ hS' => run_load_cell hS' _ _ rfl _ _ rfl _ _ (.inr (.head _)) _ Tryz.underlying22 rfl _ (mgk_get' (by omega)), ?_⟩; simp only [Act.put, List.setIfInBounds_toArray, List.set_cons_succ, List.set_cons_zero]))
    | (refine S_run rfl rfl ?_; apply Exists.intro; refine ⟨fun _ => ?_, ?_⟩; (focus (go_simp; (try go_bits); exact rfl)); simp only [Act.put, List.setIfInBounds_toArray, List.set_cons_succ, List.set_cons_zero]))
  refine S_end0 ?_; clear hS; intro _ hS
  go_wp2_with (fail)
  (try simp only [Act.put]); (try simp only [List.setIfInBounds_toArray, List.set_cons_succ, List.set_cons_zero]); refine wp_region_w0 hS (by kernel_rfl) (by kernel_rfl) ?_
  repeat (first | (refine S_run rfl rfl ?_; apply Exists.intro; refine ⟨fun _ => ?_, ?_⟩; (focus (go_simp; (try go_bits); exact rfl)); simp only [Act.put, List.setIfInBounds_toArray, List.set_cons_succ, List.set_cons_zero]))
  refine S_end0 ?_; clear hS; intro _ hS
  go_wp2_with (fail)
  go_loopw [9, 10] (fun gv tv wr => ∃ g t : Nat, gv = .int .u64 ((g : Nat) : Int) ∧ tv = .int .u64 ((t : Nat) : Int) ∧ Hid (g * f + t = h) ∧ Hid (q ≤ g) ∧ g ≤ 4294967297 ∧ t ≤ 8589934591 ∧ St none w wr [(bl, .cells (mgk 33 L) 185), (bs, .cells (mgk 33 S) 185)] []) (fun _ tv _ => 8589934592 - (intOf tv).toNat)
  case atStart => exact ⟨g0, t0, rfl, rfl, HI0, HQ0, rg0, by omega, hS⟩
  case round =>
    clear hS
    obtain ⟨g, t, rfl, rfl, HI, HG, rg, rt, hS⟩ := hrel
    have fin : 4294967296 ≤ t ∨ g * s ≤ t * 4294967296 + w2 → g ≤ 4294967295 → g * (f * 4294967296 + s) ≤ h * 4294967296 + w2 := fun hc hg => est_high HI.out (by omega) (by omega) hc
    by_cases c1 : t ≤ 4294967295
    · have c1' : ((t : Nat) : Int) ≤ 4294967295 := by omega
      have hor2 : bits BinOp.or IntKind.u64 ((t : Int) * 4294967296) (w2 : Int) = ((t * 4294967296 + w2 : Nat) : Int) := or_limb t w2 (by omega) (by omega)
      have next : q < g → ∃ g1, g = g1 + 1 ∧ Hid (g1 * f + (t + f) = h) ∧ Hid (q ≤ g1) := fun hlt => by
        refine ⟨g - 1, by omega, ?_, ?_⟩
        · have h1 := HI.out
          have h2 : g * f = (g - 1) * f + f := by
            have : g = (g - 1) + 1 := by omega
            rw [this, Nat.add_mul, Nat.one_mul]; simp
          show _ = _
          omega
        · show q ≤ g - 1; omega
      by_cases c2 : g ≤ 4294967295
      · have c2' : ¬ (4294967295 : Int) < ((g : Nat) : Int) := by omega
        obtain ⟨M, hM⟩ : ∃ M, g * s = M := ⟨_, rfl⟩
        have hMZ : ((g : Nat) : Int) * ((s : Nat) : Int) = ((M : Nat) : Int) := by rw [← hM]; simp
        have hMb : M ≤ 18446744073709551615 := by
          have : g * s ≤ 4294967295 * 4294967295 := Nat.mul_le_mul c2 rs
          omega
        obtain ⟨U, hU⟩ : ∃ U, t * 4294967296 + w2 = U := ⟨_, rfl⟩
        rw [hU] at hor2
        by_cases c3 : U < M
        · have c3' : ((U : Nat) : Int) < ((M : Nat) : Int) := by omega
          obtain ⟨g1, hg1, HI1, HQ1⟩ := next (est_down HQ.out HI.out (by rw [hU, hM]; exact c3))
          have hg1Z : ((g : Nat) : Int) - 1 = ((g1 : Nat) : Int) := by omega
          have hg1b : (1 : Int) ≤ ((g : Nat) : Int) := by omega
          clear next fin hM hU hg1
          go_wp2_with (first | ((with_reducible refine L_slot 59 ?_); (refine L_load (t := 22) rfl rfl ?_; refine ⟨_, run_load_cell hS _ _ rfl _ _ rfl _ _ (.inr (.head _)) _ Tryz.underlying22 rfl _ (mgk_get' (by omega)), ?_⟩)))
          go_roundw
          case rel => exact ⟨g1, rfl, t + f, by omega, HI1, HQ1, by omega, by omega⟩
          case measure => simp [intOf]; omega
        · have c3' : ¬ ((U : Nat) : Int) < ((M : Nat) : Int) := by omega
          have hfin := Lib.hid (fin (.inr (by omega)) c2)
          clear next fin hM hU
          go_wp2_with (first | ((with_reducible refine L_slot 59 ?_); (refine L_load (t := 22) rfl rfl ?_; refine ⟨_, run_load_cell hS _ _ rfl _ _ rfl _ _ (.inr (.head _)) _ Tryz.underlying22 rfl _ (mgk_get' (by omega)), ?_⟩)))
          go_ret
          exact ⟨⟨g, rfl, HG.out, c2, hfin.out⟩, hS.below⟩
      · have c2' : (4294967295 : Int) < ((g : Nat) : Int) := by omega
        obtain ⟨g1, hg1, HI1, HQ1⟩ := next (by omega)
        have hg1Z : ((g : Nat) : Int) - 1 = ((g1 : Nat) : Int) := by omega
        have hg1b : (1 : Int) ≤ ((g : Nat) : Int) := by omega
        clear next fin hg1
        go_wp2_with (first | ((with_reducible refine L_slot 59 ?_); (refine L_load (t := 22) rfl rfl ?_; refine ⟨_, run_load_cell hS _ _ rfl _ _ rfl _ _ (.inr (.head _)) _ Tryz.underlying22 rfl _ (mgk_get' (by omega)), ?_⟩)))
        go_roundw
        case rel => exact ⟨g1, t + f, rfl, u64_eq (by omega), HI1, HQ1, by omega, by omega, hS⟩
        case measure => simp [intOf]; omega
    · have c1' : ¬ ((t : Nat) : Int) ≤ 4294967295 := by omega
      have rg2 : g ≤ 4294967295 := by have := est_top HI.out HT.out (by omega); omega
      have hfin := Lib.hid (fin (.inl (by omega)) rg2)
      clear fin
      go_wp2_with (fail)
      go_ret
      exact ⟨⟨g, rfl, HG.out, rg2, hfin.out⟩, hS.below⟩
end Go.Proofs.YtkiefjbfepjcbaaGreatDoor
end
section
namespace Go.Proofs.YtkiefjbfepjcbaaGreatDoor
open Go.RowKit
set_option linter.unusedVariables false

theorem win_get {i x r k H h : Nat} (hx : x < pw i) (hr : r < pw k) (hi : i + k < 33) (hh : H % 4294967296 = h) : (mgk 33 (win i x r k H))[i + k]? = some (.int .u32 ((h : Nat) : Int)) := by
  rw [mgk_get' hi, win_limb H hx hr, hh]
theorem win_set {i x r k H H' v : Nat} {z : Int} (hz : z = ((v : Nat) : Int)) (hx : x < pw i) (hr : r < pw k) (hv : v < 4294967296) (hH : H / 4294967296 = H') : (mgk 33 (win i x r k H)).setIfInBounds (i + k) (.int .u32 z) = mgk 33 (win i x (r + v * pw k) (k + 1) H') := by
  rw [mgk_put' _ v hz hv, win_put H v hx hr, hH]

set_option maxRecDepth 100000 in
set_option maxHeartbeats 4000000 in
theorem takeOff_core (bl bs i n nw capw caps x W S g : Nat) (hne : bs ≠ bl) (hnw : n + 1 = nw) (hin : i + n + 1 ≤ 33) (hnn : n ≤ 32) (hx : x < pw i) (hW : W < pw (n + 1)) (hS0 : S < pw n) (hg : g < 4294967296)
    (w : World) (hbl : w.heap[bl]? = some (.cells (mgk 33 (x + W * pw i)) 185)) (hbs : w.heap[bs]? = some (.cells (mgk 33 S) 185)) :
    Calls Tryz.prog 198 #[.slice (some ⟨bl, i, none⟩) nw capw, .slice (some ⟨bs, 0, none⟩) n caps, .int .u32 ((g : Nat) : Int)] w fun e w' => ∃ b r, e = .returned (.bool b) ∧ r < pw (n + 1) ∧ W + (if b then 1 else 0) * pw (n + 1) = r + g * S ∧
      ∃ l, St (some bl) w w' [(bs, .cells (mgk 33 S) 185)] l ∧ (bl, Obj.cells (mgk 33 (x + r * pw i)) 185) ∈ l := by
  have hS := St.start_may w bl _ hbl [(bs, .cells (mgk 33 S) 185)] (by
    intro y hy
    obtain rfl := List.mem_singleton.1 hy
    exact ⟨hbs, hne⟩)
  rw [← win_start i x W] at hS
  clear hbl hbs hne
  have HX := Lib.hid hx
  have HW := Lib.hid hW
  have HS := Lib.hid hS0
  have b5 : ((n : Nat) : Int) < ((nw : Nat) : Int) := by omega
  clear hx hW hS0
  go_enter Tryz.func198, Tryz.ntmps198
  go_wp2
  go_loopw [7, 8, 14] (fun cy bw ix wr => ∃ k c br r H : Nat, k ≤ n ∧ ix = .int .i64 k ∧ cy = .int .u64 ((c : Nat) : Int) ∧ bw = .int .u32 ((br : Nat) : Int) ∧ c ≤ 4294967295 ∧ br ≤ 1 ∧ Hid (r < pw k) ∧ Hid (W / pw k = H) ∧ Hid (W % pw k + br * pw k + c * pw k = r + g * (S % pw k)) ∧ St (some bl) w wr [(bs, .cells (mgk 33 S) 185)] [(bl, .cells (mgk 33 (win i x r k H)) 185)]) (fun _ _ ix _ => n - (intOf ix).toNat)
  case atStart => exact ⟨0, 0, 0, 0, W, by omega, rfl, rfl, rfl, by omega, by omega, pw_pos 0, div_pw_zero W, (show W % pw 0 + 0 * pw 0 + 0 * pw 0 = 0 + g * (S % pw 0) by rw [mod_pw_zero, mod_pw_zero]; simp), hS⟩
  case round =>
    clear hS
    obtain ⟨k, c, br, r, H, hk, rfl, rfl, rfl, hc, hbr, HR, HH, HI, hS⟩ := hrel
    by_cases hlt : k < n
    · have hlt' : ((k : Nat) : Int) < ((n : Nat) : Int) := by omega
      have b6 : ((k : Nat) : Int) < ((nw : Nat) : Int) := by omega
      have hd := limb_lt S k
      have hwk := limb_lt W k
      have HO := Lib.hid ((off_next (W := W) (D := S) (g := g) HI.out).resolve_right (by omega))
      have HWk : Hid (H % 4294967296 = limb W k) := by show _ = _; rw [← HH.out]; rfl
      have HHn : Hid (H / 4294967296 = W / pw (k + 1)) := by show _ = _; rw [← HH.out]; exact top_next W k
      have hoc := off_carry (c := c) (d := limb S k) (g := g) (by omega) hd hg
      have HD : Hid ((mgk 33 S)[k]? = some (.int .u32 ((limb S k : Nat) : Int))) := mgk_get' (by omega)
      generalize limb S k = d at *
      generalize limb W k = wk at *
      obtain ⟨H1, hH1⟩ : ∃ H1, W / pw (k + 1) = H1 := ⟨_, rfl⟩
      have HH1 := Lib.hid hH1
      rw [hH1] at HHn
      clear hH1
      obtain ⟨M, hM⟩ : ∃ M, d * g = M := ⟨_, rfl⟩
      have hMZ : ((d : Nat) : Int) * ((g : Nat) : Int) = ((M : Nat) : Int) := by rw [← hM]; simp
      rw [hM] at HO hoc
      clear hM
      obtain ⟨t, ht⟩ : ∃ t, c + M = t := ⟨_, rfl⟩
      have htZ : ((c : Nat) : Int) + ((M : Nat) : Int) = ((t : Nat) : Int) := by omega
      rw [ht] at HO hoc
      have hMb : M ≤ 18446744073709551615 := by omega
      clear ht
      obtain ⟨y, hy⟩ : ∃ y, t % 4294967296 = y := ⟨_, rfl⟩
      obtain ⟨c2, hc2⟩ : ∃ c2, t / 4294967296 = c2 := ⟨_, rfl⟩
      have hyZ : IntKind.u32.wrap ((t : Nat) : Int) = ((y : Nat) : Int) := by rw [IntKind.wrap_u32]; omega
      have hcZ : ((t : Nat) : Int) / 4294967296 = ((c2 : Nat) : Int) := by omega
      have htb : t ≤ 18446744073709551615 := by omega
      have hyb : y < 4294967296 := by omega
      have hcb : c2 ≤ 4294967295 := by omega
      rw [hy, hc2] at HO
      clear hy hc2 hoc
      have GS := sub32 wk y br hwk hyb hbr
      have hb2 := brw_le wk y br
      have HV := Lib.hid (subD_lt wk y br)
      generalize subD wk y br = sd at *
      generalize brw wk y br = b2 at *
      have HR2 : Hid (r + sd * pw k < pw (k + 1)) := lim_add HR.out HV.out
      go_wp2_with (first | ((with_reducible refine L_slot 18 ?_); (refine L_load (t := 22) rfl rfl ?_; refine ⟨_, run_load_cell hS _ _ rfl _ _ rfl _ _ (.inr (.head _)) _ Tryz.underlying22 rfl _ (HD.out), ?_⟩)) | ((with_reducible refine L_slot 32 ?_); (refine L_load (t := 22) rfl rfl ?_; refine ⟨_, run_load_cell hS _ _ rfl _ _ rfl _ _ (.inl (.head _)) _ Tryz.underlying22 rfl _ (win_get HX.out HR.out (by omega) HWk.out), ?_⟩)) | (go_at_call 176; (with_reducible refine Gives.use (GS) hS ?_); clear hS; intro _ hS) | ((with_reducible refine L_storeAt 39 ?_); (refine L_store (t := 22) hS rfl rfl ?_; refine ⟨_, _, mgk 33 (win i x (r + sd * pw k) (k + 1) H1), _, _, (.head), run_store_cell hS _ _ _ rfl _ _ rfl _ rfl _ _ _ (.head) size22 rfl rfl ?_ ?_, ?_⟩; (focus (rw [mgk_size]; omega)); (focus (exact win_set rfl HX.out HR.out HV.out HHn.out)); clear hS; intro _ hS)))
      go_roundw
      case rel => exact ⟨k + 1, c2, b2, r + sd * pw k, H1, by omega, by go_num, rfl, rfl, hcb, hb2, HR2, HH1, HO, hS⟩
      case measure => simp [intOf]; omega
    · have ek : k = n := by omega
      subst ek
      have hlt' : ¬ ((k : Nat) : Int) < ((k : Nat) : Int) := by omega
      have HHb : Hid (H < 4294967296) := by
        show H < 4294967296
        rw [← HH.out, Nat.div_lt_iff_lt_mul (pw_pos k), Nat.mul_comm, ← pw_succ]; exact HW.out
      have HHm : Hid (H % 4294967296 = H) := Nat.mod_eq_of_lt HHb.out
      have HHz : Hid (H / 4294967296 = 0) := Nat.div_eq_of_lt HHb.out
      have hcZ : IntKind.u32.wrap ((c : Nat) : Int) = ((c : Nat) : Int) := by rw [IntKind.wrap_u32]; omega
      have GS := sub32 H c br HHb.out (by omega) hbr
      have hb2 := brw_le H c br
      have HV := Lib.hid (subD_lt H c br)
      have HF : Hid (W + brw H c br * pw (k + 1) = (r + subD H c br * pw k) + g * S) := by
        have h1 := HI.out
        rw [Nat.mod_eq_of_lt HS.out] at h1
        have h2 := Nat.div_add_mod W (pw k)
        rw [HH.out] at h2
        have key : H + brw H c br * 4294967296 = subD H c br + c + br := by
          have := HHb.out
          unfold brw subD
          split <;> omega
        have k1 : (H + brw H c br * 4294967296) * pw k = (subD H c br + c + br) * pw k := by rw [key]
        simp only [Nat.add_mul] at k1
        have m1 : brw H c br * 4294967296 * pw k = brw H c br * pw (k + 1) := by rw [pw_succ, Nat.mul_assoc, Nat.mul_comm (pw k)]
        rw [Nat.mul_comm (pw k)] at h2
        show _ = _
        omega
      generalize subD H c br = sd at *
      generalize brw H c br = b2 at *
      have HR2 : Hid (r + sd * pw k < pw (k + 1)) := lim_add HR.out HV.out
      have HE : Hid (win i x (r + sd * pw k) (k + 1) 0 = x + (r + sd * pw k) * pw i) := win_end _ _ _ _
      obtain ⟨bb, hbb⟩ : ∃ bb : Bool, (((b2 : Nat) : Int) != 0) = bb := ⟨_, rfl⟩
      have hb3 : (if bb then 1 else 0) = b2 := by
        rcases Nat.lt_or_ge b2 1 with h | h
        · have : b2 = 0 := by omega
          subst this; rw [← hbb]; rfl
        · have : b2 = 1 := by omega
          subst this; rw [← hbb]; rfl
      go_wp2_with (first | ((with_reducible refine L_slot 51 ?_); (refine L_load (t := 22) rfl rfl ?_; refine ⟨_, run_load_cell hS _ _ rfl _ _ rfl _ _ (.inl (.head _)) _ Tryz.underlying22 rfl _ (win_get HX.out HR.out (by omega) HHm.out), ?_⟩)) | (go_at_call 176; (with_reducible refine Gives.use (GS) hS ?_); clear hS; intro _ hS) | ((with_reducible refine L_storeAt 58 ?_); (refine L_store (t := 22) hS rfl rfl ?_; refine ⟨_, _, mgk 33 (win i x (r + sd * pw k) (k + 1) 0), _, _, (.head), run_store_cell hS _ _ _ rfl _ _ rfl _ rfl _ _ _ (.head) size22 rfl rfl ?_ ?_, ?_⟩; (focus (rw [mgk_size]; omega)); (focus (exact win_set rfl HX.out HR.out HV.out HHz.out)); clear hS; intro _ hS)))
      go_ret
      exact ⟨bb, r + sd * pw k, rfl, HR2.out, by rw [hb3]; exact HF.out, _, hS, by rw [HE.out]; exact .head _⟩
end Go.Proofs.YtkiefjbfepjcbaaGreatDoor
end
section
namespace Go.Proofs.YtkiefjbfepjcbaaGreatDoor
open Go.RowKit
set_option linter.unusedVariables false

theorem body_end0 {P : Program} {fn : Func} {R : Ending → World → Prop} {a : Act} {w : World} (hr : fn.results = #[]) (hd : a.defers = []) (hR : R (.returned (.tuple #[])) w) : bodyPost P fn R .normal a w := by
  exact bodyPost_end (results_none hr _ _ _) hd hR
set_option maxRecDepth 100000 in
set_option maxHeartbeats 4000000 in
theorem putBack_core (bl bs i n nw capw caps x W S : Nat) (hne : bs ≠ bl) (hnw : n + 1 = nw) (hin : i + n + 1 ≤ 33) (hnn : n ≤ 32) (hx : x < pw i) (hW : W < pw (n + 1)) (hS0 : S < pw n)
    (w : World) (hbl : w.heap[bl]? = some (.cells (mgk 33 (x + W * pw i)) 185)) (hbs : w.heap[bs]? = some (.cells (mgk 33 S) 185)) :
    Calls Tryz.prog 199 #[.slice (some ⟨bl, i, none⟩) nw capw, .slice (some ⟨bs, 0, none⟩) n caps] w fun e w' => e = .returned (.tuple #[]) ∧
      ∃ l, St (some bl) w w' [(bs, .cells (mgk 33 S) 185)] l ∧ (bl, Obj.cells (mgk 33 (x + (W + S) % pw (n + 1) * pw i)) 185) ∈ l := by
  have hS := St.start_may w bl _ hbl [(bs, .cells (mgk 33 S) 185)] (by
    intro y hy
    obtain rfl := List.mem_singleton.1 hy
    exact ⟨hbs, hne⟩)
  rw [← win_start i x W] at hS
  clear hbl hbs hne
  have HX := Lib.hid hx
  have HW := Lib.hid hW
  have HS := Lib.hid hS0
  have b5 : ((n : Nat) : Int) < ((nw : Nat) : Int) := by omega
  clear hx hW hS0
  go_enter Tryz.func199, Tryz.ntmps199
  go_wp2
  go_loopw [4, 9] (fun cy ix wr => ∃ k c r H : Nat, k ≤ n ∧ ix = .int .i64 k ∧ cy = .int .u32 ((c : Nat) : Int) ∧ c ≤ 1 ∧ Hid (r < pw k) ∧ Hid (W / pw k = H) ∧ Hid (W % pw k + S % pw k = r + c * pw k) ∧ St (some bl) w wr [(bs, .cells (mgk 33 S) 185)] [(bl, .cells (mgk 33 (win i x r k H)) 185)]) (fun _ ix _ => n - (intOf ix).toNat)
  case atStart => exact ⟨0, 0, 0, W, by omega, rfl, rfl, by omega, pw_pos 0, div_pw_zero W, (show W % pw 0 + S % pw 0 = 0 + 0 * pw 0 by rw [mod_pw_zero, mod_pw_zero]; simp), hS⟩
  case round =>
    clear hS
    obtain ⟨k, c, r, H, hk, rfl, rfl, hc, HR, HH, HI, hS⟩ := hrel
    by_cases hlt : k < n
    · have hlt' : ((k : Nat) : Int) < ((n : Nat) : Int) := by omega
      have b6 : ((k : Nat) : Int) < ((nw : Nat) : Int) := by omega
      have hd := limb_lt S k
      have hwk := limb_lt W k
      have HO := Lib.hid (back_next HI.out)
      have HWk : Hid (H % 4294967296 = limb W k) := by show _ = _; rw [← HH.out]; rfl
      have HHn : Hid (H / 4294967296 = W / pw (k + 1)) := by show _ = _; rw [← HH.out]; exact top_next W k
      have HD : Hid ((mgk 33 S)[k]? = some (.int .u32 ((limb S k : Nat) : Int))) := mgk_get' (by omega)
      have GS := add32 (limb W k) (limb S k) c hwk hd hc
      have hc2 : addC (limb W k) (limb S k) c ≤ 1 := by unfold addC; omega
      have HV := Lib.hid (addS_lt (limb W k) (limb S k) c)
      have HO2 : Hid (W % pw (k + 1) + S % pw (k + 1) = (r + addS (limb W k) (limb S k) c * pw k) + addC (limb W k) (limb S k) c * pw (k + 1)) := HO.out
      clear HO
      generalize addS (limb W k) (limb S k) c = sd at *
      generalize addC (limb W k) (limb S k) c = c2 at *
      generalize limb S k = d at *
      generalize limb W k = wk at *
      obtain ⟨H1, hH1⟩ : ∃ H1, W / pw (k + 1) = H1 := ⟨_, rfl⟩
      have HH1 := Lib.hid hH1
      rw [hH1] at HHn
      clear hH1
      have HR2 : Hid (r + sd * pw k < pw (k + 1)) := lim_add HR.out HV.out
      go_wp2_with (first | ((with_reducible refine L_slot 13 ?_); (refine L_load (t := 22) rfl rfl ?_; refine ⟨_, run_load_cell hS _ _ rfl _ _ rfl _ _ (.inr (.head _)) _ Tryz.underlying22 rfl _ (HD.out), ?_⟩)) | ((with_reducible refine L_slot 20 ?_); (refine L_load (t := 22) rfl rfl ?_; refine ⟨_, run_load_cell hS _ _ rfl _ _ rfl _ _ (.inl (.head _)) _ Tryz.underlying22 rfl _ (win_get HX.out HR.out (by omega) HWk.out), ?_⟩)) | (go_at_call 175; (with_reducible refine Gives.use (GS) hS ?_); clear hS; intro _ hS) | ((with_reducible refine L_storeAt 26 ?_); (refine L_store (t := 22) hS rfl rfl ?_; refine ⟨_, _, mgk 33 (win i x (r + sd * pw k) (k + 1) H1), _, _, (.head), run_store_cell hS _ _ _ rfl _ _ rfl _ rfl _ _ _ (.head) size22 rfl rfl ?_ ?_, ?_⟩; (focus (rw [mgk_size]; omega)); (focus (exact win_set rfl HX.out HR.out HV.out HHn.out)); clear hS; intro _ hS)))
      go_roundw
      case rel => exact ⟨k + 1, c2, r + sd * pw k, H1, by omega, by go_num, rfl, hc2, HR2, HH1, HO2, hS⟩
      case measure => simp [intOf]; omega
    · have ek : k = n := by omega
      subst ek
      have hlt' : ¬ ((k : Nat) : Int) < ((k : Nat) : Int) := by omega
      have HHb : Hid (H < 4294967296) := by
        show H < 4294967296
        rw [← HH.out, Nat.div_lt_iff_lt_mul (pw_pos k), Nat.mul_comm, ← pw_succ]; exact HW.out
      have HHm : Hid (H % 4294967296 = H) := Nat.mod_eq_of_lt HHb.out
      have HHz : Hid (H / 4294967296 = 0) := Nat.div_eq_of_lt HHb.out
      obtain ⟨v, hv⟩ : ∃ v, (H + c) % 4294967296 = v := ⟨_, rfl⟩
      have hvZ : IntKind.u32.wrap (((H : Nat) : Int) + ((c : Nat) : Int)) = ((v : Nat) : Int) := by rw [IntKind.wrap_u32]; omega
      have HV : Hid (v < 4294967296) := by show v < _; omega
      have HF : Hid (r + v * pw k = (W + S) % pw (k + 1)) := by
        have h1 := HI.out
        rw [Nat.mod_eq_of_lt HS.out] at h1
        have h2 := Nat.div_add_mod W (pw k)
        rw [HH.out, Nat.mul_comm] at h2
        have h3 : W + S = (H + c) * pw k + r := by rw [Nat.add_mul]; omega
        have := (split_next h3 HR.out).1
        rw [hv] at this
        exact this.symm
      clear hv
      have HE : Hid (win i x (r + v * pw k) (k + 1) 0 = x + (r + v * pw k) * pw i) := win_end _ _ _ _
      go_wp2_with (first | ((with_reducible refine L_slot 32 ?_); (refine L_load (t := 22) rfl rfl ?_; refine ⟨_, run_load_cell hS _ _ rfl _ _ rfl _ _ (.inl (.head _)) _ Tryz.underlying22 rfl _ (win_get HX.out HR.out (by omega) HHm.out), ?_⟩)) | ((with_reducible refine L_storeAt 35 ?_); (refine L_store (t := 22) hS rfl rfl ?_; refine ⟨_, _, mgk 33 (win i x (r + v * pw k) (k + 1) 0), _, _, (.head), run_store_cell hS _ _ _ rfl _ _ rfl _ rfl _ _ _ (.head) size22 rfl rfl ?_ ?_, ?_⟩; (focus (rw [mgk_size]; omega)); (focus (exact win_set rfl HX.out HR.out HV.out HHz.out)); clear hS; intro _ hS)))
      refine body_end0 rfl rfl ⟨rfl, _, hS, ?_⟩
      rw [← hnw, ← HF.out, HE.out]
      exact .head _
end Go.Proofs.YtkiefjbfepjcbaaGreatDoor
end
section
namespace Go.Proofs.YtkiefjbfepjcbaaGreatDoor
open Go.RowKit
variable {P : Program} {ops : Array Oper} {md : Region.Mode} {Q : Exit → Act → World → Prop} {c : Option Nat} {w0 : World} {r : List (Nat × Obj)}

def opA (P : Program) (ops : Array Oper) (c : Option Nat) (w0 : World) (r : List (Nat × Obj)) (i : Nat) (a : Act) (l : List (Nat × Obj)) (K : Act → List (Nat × Obj) → Prop) : Prop :=
  ∃ o, ops[i]? = some o ∧
    ((∃ v, (Region.wanted o (yielded ops a.tmps) = true ∧ Into P o a (fun w => St c w0 w r l) (fun w => St c w0 w r l) v ∨ Region.wanted o (yielded ops a.tmps) = false ∧ v = undef) ∧ K (a.put o.dst v) l) ∨
     (∃ t cs, o.guard = none ∧ o.op = .alloc t ∧ (P.info? t).map (·.zero) = some (some (.agg cs)) ∧ ∀ b, K (a.put o.dst (.pointer (some ⟨b, 0, none⟩))) ((b, .cells cs t) :: l)) ∨
     (∃ t x y b cs cs' T l', o.guard = none ∧ o.op = .store t x y ∧ Upd l b (.cells cs T) (.cells cs' T) l' ∧ (∀ w, St c w0 w r l → (execOp a.eval o).run P w = .ok .skip (w.setRow b cs')) ∧ K (a.put o.dst undef) l'))

def anyA (P : Program) (md : Region.Mode) (ops : Array Oper) (Q : Exit → Act → World → Prop) (c : Option Nat) (w0 : World) (r : List (Nat × Obj)) : Nat → Array Bool → Act → List (Nat × Obj) → Prop
  | 0, listed, a, l => Region.ready md ops listed = [] ∧ ∀ w, St c w0 w r l → Q .normal a w
  | f + 1, listed, a, l => (Region.ready md ops listed = [] → ∀ w, St c w0 w r l → Q .normal a w) ∧
    ∀ i ∈ Region.ready md ops listed, opA P ops c w0 r i a l (anyA P md ops Q c w0 r f (listed.setIfInBounds i true))

theorem wpOp_of_opA {i : Nat} {a : Act} {l : List (Nat × Obj)} {K : Act → List (Nat × Obj) → Prop} {K' : Act → World → Prop} {w : World} (hw : St c w0 w r l)
    (h : ∀ a w' l', St c w0 w' r l' → K a l' → K' a w') (hh : opA P ops c w0 r i a l K) : wpOp P ops Q i K' a w := by
  obtain ⟨o, ho, hh⟩ := hh
  rcases hh with ⟨v, hv, hk⟩ | ⟨t, cs, hg, hop, hz, hk⟩ | ⟨t, x, y, b, cs, cs', T, l', hg, hop, hu, hrun, hk⟩
  · rcases hv with ⟨hwt, hv⟩ | ⟨hwt, rfl⟩
    · unfold wpOp
      simp only [ho, hwt, if_true]
      have hv' := hv w hw
      refine .inl ?_
      unfold Oper.wp
      generalize (execOp a.eval o).run P w = r at *
      cases r with
      | ok n w' =>
        cases n <;> simp only [IntoAt] at hv' <;> simp only [Oper.upon]
        case value u => obtain ⟨rfl, h2⟩ := hv'; exact h _ _ _ h2 hk
        case skip => obtain ⟨rfl, h2⟩ := hv'; exact h _ _ _ h2 hk
        case enter f args =>
          obtain ⟨rfl, hc⟩ := hv'
          exact hc.mono fun e w'' ⟨he, hw''⟩ => by subst he; exact h _ _ _ hw'' hk
      | halt x w' => simp only [IntoAt] at hv'
    · unfold wpOp
      simp only [ho, hwt]
      exact h _ _ _ hw hk
  · exact wpOp_value ho hg (run_alloc_op w t hop cs hz) (h _ _ _ (hw.alloc _) (hk _))
  · exact wpOp_skip ho hg (hrun w hw) (h _ _ _ (hw.setRow hu) hk)

theorem wpAny_of_anyA : ∀ (f : Nat) (listed : Array Bool) (a : Act) (l : List (Nat × Obj)) (w : World), St c w0 w r l → anyA P md ops Q c w0 r f listed a l → wpAny P md ops Q f listed a w
  | 0, _, _, _, w, hw, h => ⟨h.1, h.2 w hw⟩
  | f + 1, _, _, _, w, hw, h => ⟨fun h0 => h.1 h0 w hw, fun i hi => wpOp_of_opA hw (fun a' w' l' hw' ha => wpAny_of_anyA f _ a' l' w' hw' ha) (h.2 i hi)⟩

def YA (P : Program) (ops : Array Oper) (c : Option Nat) (w0 : World) (r l : List (Nat × Obj)) (o : Oper) (v : Value) (a : Act) : Prop :=
  Region.wanted o (yielded ops a.tmps) = true ∧ ∀ l', l <:+ l' → Into P o a (fun w => St c w0 w r l') (fun w => St c w0 w r l') v
theorem YA.of_same {l : List (Nat × Obj)} {o : Oper} {v : Value} {a a' : Act} (hy : YA P ops c w0 r l o v a) (he : execOp a'.eval o = execOp a.eval o)
    (hw : Region.wanted o (yielded ops a'.tmps) = Region.wanted o (yielded ops a.tmps)) : YA P ops c w0 r l o v a' := by
  unfold YA Into at *
  rw [he, hw]
  exact hy
theorem YA.more {l : List (Nat × Obj)} {o : Oper} {v : Value} {a : Act} (hy : YA P ops c w0 r l o v a) (x : Nat × Obj) : YA P ops c w0 r (x :: l) o v a :=
  ⟨hy.1, fun l' h => hy.2 l' ((List.suffix_cons x l).trans h)⟩

theorem anyA_take {i : Nat} {oi : Oper} {v : Value} (hi : ops[i]? = some oi) (hsel : ∀ (j : Nat) (o : Oper) cs b, ops[j]? = some o → o.op ≠ .select cs b)
    (hwait : ∀ (j : Nat) (o : Oper) t x y, ops[j]? = some o → o.op = .store t x y → waitsT md ops 2 j i = true) :
    ∀ (f : Nat) (listed : Array Bool) (a : Act) (l : List (Nat × Obj)), Closed md ops listed →
      (∀ j oj, ops[j]? = some oj → j ≠ i → listed.getD j true = false → (∀ e ∈ oj.after, Region.binds md e = true → e.on ≠ i) → oi.apart ops oj = true) →
      i ∈ Region.ready md ops listed → YA P ops c w0 r l oi v a →
      anyA P md ops Q c w0 r f (listed.setIfInBounds i true) (a.put oi.dst v) l → anyA P md ops Q c w0 r (f + 1) listed a l := by
  intro f
  induction f with
  | zero =>
    intro listed a l _ _ hr hy H
    refine ⟨fun e => (by rw [e] at hr; cases hr), fun j hj => ?_⟩
    by_cases hji : j = i
    · subst hji; exact ⟨oi, hi, .inl ⟨v, .inl ⟨hy.1, hy.2 l (List.suffix_refl l)⟩, H⟩⟩
    · have := ready_mono hj hji
      rw [H.1] at this
      cases this
  | succ f ih =>
    intro listed a l hcl hfree hr hy H
    refine ⟨fun e => (by rw [e] at hr; cases hr), fun j hj => ?_⟩
    by_cases hji : j = i
    · subst hji; exact ⟨oi, hi, .inl ⟨v, .inl ⟨hy.1, hy.2 l (List.suffix_refl l)⟩, H⟩⟩
    · have h1 := H.2 j (ready_mono hj hji)
      obtain ⟨hjun, oj, hoj, hall⟩ := mem_ready.1 hj
      have hiun := (mem_ready.1 hr).1
      have hnot : ∀ e ∈ oj.after, Region.binds md e = true → e.on ≠ i := fun e he hb heq => by
        have h2 := hall e he hb
        rw [heq, getD_both hiun] at h2
        cases h2
      obtain ⟨p1, p2, p3⟩ := Oper.apart_spec (hfree j oj hoj hji hjun hnot)
      have hsi := fun cs b => hsel i oi cs b hi
      have hsj := fun cs b => hsel j oj cs b hoj
      have hcomm : (listed.setIfInBounds i true).setIfInBounds j true = (listed.setIfInBounds j true).setIfInBounds i true := Array.setIfInBounds_comm _ _ (Ne.symm hji)
      have hy' : ∀ u, YA P ops c w0 r l oi v (a.put oj.dst u) := fun u => hy.of_same (execOp_put oi hsi a oj.dst u p3) (wanted_put oi a oj.dst u p3)
      have next : ∀ u l', YA P ops c w0 r l' oi v (a.put oj.dst u) → anyA P md ops Q c w0 r f ((listed.setIfInBounds i true).setIfInBounds j true) ((a.put oi.dst v).put oj.dst u) l' → anyA P md ops Q c w0 r (f + 1) (listed.setIfInBounds j true) (a.put oj.dst u) l' := fun u l' hya hK => by
        refine ih _ _ _ (hcl.set hj) (fun k ok hk hki hun hno => hfree k ok hk hki ?_ hno) (ready_mono hr (Ne.symm hji)) hya ?_
        · by_cases hjk : j = k
          · subst hjk; exact hjun
          · rw [getD_set_ne true hjk] at hun; exact hun
        · rw [← hcomm, ← Act.put_comm a v u p2]; exact hK
      obtain ⟨oj', hoj', h1⟩ := h1
      obtain rfl : oj' = oj := Option.some.inj (hoj'.symm.trans hoj)
      rcases h1 with ⟨u, hu, hk⟩ | ⟨t, cs, hg, hop, hz, hk⟩ | ⟨t, x, y, b, cs, cs', T, l', hg, hop, hup, hrun, hk⟩
      · refine ⟨oj', hoj, .inl ⟨u, ?_, next u l (hy' u) hk⟩⟩
        rw [wanted_put oj' a oi.dst v p1] at hu
        rcases hu with ⟨hw, hu⟩ | hu
        · refine .inl ⟨hw, fun w hC => ?_⟩
          have := hu w hC
          rwa [execOp_put oj' hsj a oi.dst v p1] at this
        · exact .inr hu
      · exact ⟨oj', hoj, .inr (.inl ⟨t, cs, hg, hop, hz, fun b => next _ _ ((hy' _).more _) (hk b)⟩)⟩
      · exact absurd hj (not_ready_of_waitsT hcl (n := 2) (hwait j oj' t x y hoj hop) hiun)

theorem anyA_new {k : Nat} {o1 o2 o3 o4 : Oper} {t1 t2 : TypeId} {z1 z2 cs1 cs2 : Array Value} {l : List (Nat × Obj)} (h1 : ops[k]? = some o1) (h2 : ops[k + 1]? = some o2) (h3 : ops[k + 2]? = some o3) (h4 : ops[k + 3]? = some o4)
    (s3 : ∃ t x y, o3.op = .store t x y) (s4 : ∃ t x y, o4.op = .store t x y)
    {listed : Array Bool} {a : Act} (hB : okHd md ops 0 k listed = true) (hN : New P c w0 r l Q o1 o2 o3 o4 t1 t2 z1 z2 cs1 cs2 a) : anyA P md ops Q c w0 r 4 listed a l := by
  simp only [okHd, Bool.and_eq_true, decide_eq_true_eq] at hB
  obtain ⟨⟨⟨⟨⟨r0, r1⟩, r2⟩, r3⟩, r4⟩, r5⟩ := hB
  obtain ⟨t3, x3, y3, e3⟩ := s3
  obtain ⟨t4, x4, y4, e4⟩ := s4
  have one : ∀ {i f : Nat} {listed : Array Bool} {a : Act} {l : List (Nat × Obj)}, Region.ready md ops listed = [i] → opA P ops c w0 r i a l (anyA P md ops Q c w0 r f (listed.setIfInBounds i true)) → anyA P md ops Q c w0 r (f + 1) listed a l := fun {i f listed a l} hr h =>
    ⟨fun e => (by rw [hr] at e; cases e), fun j hj => (by rw [hr] at hj; obtain rfl := List.mem_singleton.1 hj; exact h)⟩
  refine ⟨fun e => (by rw [r0] at e; cases e), fun i hi => ?_⟩
  rw [r0] at hi
  have hi' : i = k ∨ i = k + 1 := by simpa using hi
  rcases hi' with rfl | rfl
  · refine ⟨o1, h1, .inr (.inl ⟨t1, z1, hN.g1, hN.op1, hN.zero1, fun b1 => one r1 ⟨o2, h2, .inr (.inl ⟨t2, z2, hN.g2, hN.op2, hN.zero2, fun b2 => ?_⟩)⟩⟩)⟩
    refine one r3 ⟨o3, h3, .inr (.inr ⟨t3, x3, y3, b1, z1, cs1, t1, _, hN.g3, e3, .tail .head, fun w hw => hN.run3 b1 b2 w hw, ?_⟩)⟩
    refine one r4 ⟨o4, h4, .inr (.inr ⟨t4, x4, y4, b2, z2, cs2, t2, _, hN.g4, e4, .head, fun w hw => hN.run4 b1 b2 w hw, ?_⟩)⟩
    exact ⟨r5, fun w hw => hN.rest b1 b2 w hw⟩
  · refine ⟨o2, h2, .inr (.inl ⟨t2, z2, hN.g2, hN.op2, hN.zero2, fun b2 => one r2 ⟨o1, h1, .inr (.inl ⟨t1, z1, hN.g1, hN.op1, hN.zero1, fun b1 => ?_⟩)⟩⟩)⟩
    rw [hN.comm, Array.setIfInBounds_comm _ _ (by omega)]
    refine one r3 ⟨o3, h3, .inr (.inr ⟨t3, x3, y3, b1, z1, cs1, t1, _, hN.g3, e3, .head, fun w hw => hN.run3 b1 b2 w hw.swap, ?_⟩)⟩
    refine one r4 ⟨o4, h4, .inr (.inr ⟨t4, x4, y4, b2, z2, cs2, t2, _, hN.g4, e4, .tail .head, fun w hw => hN.run4 b1 b2 w hw.swap, ?_⟩)⟩
    exact ⟨r5, fun w hw => hN.rest b1 b2 w hw.swap⟩

def wpHa (P : Program) (ops : Array Oper) (c : Option Nat) (w0 : World) (r l : List (Nat × Obj)) (K : Act → Prop) : List Oper → Act → Prop
  | [], a => K a
  | o :: rest, a => ∃ v, YA P ops c w0 r l o v a ∧ wpHa P ops c w0 r l K rest (a.put o.dst v)
theorem wpHa_cons {l : List (Nat × Obj)} {K : Act → Prop} {o : Oper} {rest : List Oper} {a : Act} (h : ∃ v, YA P ops c w0 r l o v a ∧ wpHa P ops c w0 r l K rest (a.put o.dst v)) : wpHa P ops c w0 r l K (o :: rest) a := h
theorem St.suffix {l l' : List (Nat × Obj)} {w : World} (h : St c w0 w r l') (hs : l <:+ l') : St c w0 w r l := by
  obtain ⟨p, rfl⟩ := hs
  induction p with
  | nil => exact h
  | cons x p ih => exact ih h.drop
theorem Ha_run {l : List (Nat × Obj)} {o : Oper} {v : Value} {a : Act} (hw : Region.wanted o (yielded ops a.tmps) = true) (h : ∀ w, St c w0 w r l → (execOp a.eval o).run P w = .ok (.value v) w) : YA P ops c w0 r l o v a :=
  ⟨hw, fun _ hs w hC => by rw [h w (hC.suffix hs)]; exact ⟨rfl, hC⟩⟩
theorem Ha_call {l : List (Nat × Obj)} {o : Oper} {v : Value} {a : Act} (f : FuncId) (args : Array Value) (hw : Region.wanted o (yielded ops a.tmps) = true) (h : ∀ w, (execOp a.eval o).run P w = .ok (.enter f args) w) (hg : Gives P f args v) : YA P ops c w0 r l o v a :=
  ⟨hw, fun _ _ w hC => by rw [h w]; exact ⟨rfl, hg.use hC fun w' h' => ⟨rfl, h'⟩⟩⟩

def isStore : Op → Bool
  | .store .. => true
  | _ => false
def okHa (md : Region.Mode) (ops : Array Oper) : Nat → Nat → Array Bool → Bool
  | 0, k, listed => okHd md ops 0 k listed
  | f + 1, k, listed => (Region.ready md ops listed).contains k && Region.free md ops listed k && ((List.range ops.size).all fun t => ((ops[t]?).all fun o => !isStore o.op) || waitsT md ops 2 t k) && okHa md ops f (k + 1) (listed.setIfInBounds k true)

theorem anyA_ha {l : List (Nat × Obj)} {o1 o2 o3 o4 : Oper} {t1 t2 : TypeId} {z1 z2 cs1 cs2 : Array Value} (hsel : Region.noSelect ops = true) (s3 : ∃ t x y, o3.op = .store t x y) (s4 : ∃ t x y, o4.op = .store t x y) :
    ∀ (hd : List Oper) (k : Nat) (listed : Array Bool) (a : Act), (∀ j, j < hd.length → hd[j]? = ops[k + j]?) → ops[k + hd.length]? = some o1 → ops[k + hd.length + 1]? = some o2 → ops[k + hd.length + 2]? = some o3 → ops[k + hd.length + 3]? = some o4 →
    Closed .any ops listed → okHa .any ops hd.length k listed = true → wpHa P ops c w0 r l (New P c w0 r l Q o1 o2 o3 o4 t1 t2 z1 z2 cs1 cs2) hd a →
    anyA P .any ops Q c w0 r (hd.length + 4) listed a l
  | [], k, listed, a, _, h1, h2, h3, h4, _, hB, h => by
    have := anyA_new h1 h2 h3 h4 s3 s4 hB h
    simpa using this
  | o :: hd, k, listed, a, hl, h1, h2, h3, h4, hcl, hB, ⟨v, hy, h⟩ => by
    have h0 : ops[k]? = some o := by simpa using (hl 0 (by simp)).symm
    simp only [List.length_cons, okHa, Bool.and_eq_true, List.all_eq_true, List.mem_range, Bool.or_eq_true] at hB
    obtain ⟨⟨⟨hr, hf⟩, hwt⟩, hB⟩ := hB
    have hr' : k ∈ Region.ready .any ops listed := by simpa using hr
    have e : k + (o :: hd).length = k + 1 + hd.length := by simp only [List.length_cons]; omega
    rw [e] at h1 h2 h3 h4
    rw [show (o :: hd).length + 4 = hd.length + 4 + 1 by simp only [List.length_cons]]
    refine anyA_take h0 (Region.noSelect_spec hsel) (fun j oj t x y hj hop => ?_) (hd.length + 4) listed a l hcl (Region.free_spec h0 hf) hr' hy ?_
    · rcases hwt j (Array.getElem?_eq_some_iff.1 hj).1 with h | h
      · rw [hj] at h; simp [isStore, hop] at h
      · exact h
    · exact anyA_ha hsel s3 s4 hd (k + 1) _ _ (fun j hj => by have := hl (j + 1) (by simp [hj]); simpa [Nat.add_assoc, Nat.add_comm 1 j] using this) h1 h2 h3 h4 (hcl.set hr') hB h

theorem wp_region_2newa {id : Nat} {a : Act} {w : World} {l : List (Nat × Obj)} {hd : List Oper} {o1 o2 o3 o4 : Oper} (t1 t2 : TypeId) (z1 z2 cs1 cs2 : Array Value) (hS : St c w0 w r l) (hm : P.follows .mixedOrders = true) (hsel : Region.noSelect (hd ++ [o1, o2, o3, o4]).toArray = true)
    (hB : okHa .any (hd ++ [o1, o2, o3, o4]).toArray hd.length 0 (Array.replicate (hd ++ [o1, o2, o3, o4]).toArray.size false) = true) (s3 : ∃ t x y, o3.op = .store t x y) (s4 : ∃ t x y, o4.op = .store t x y)
    (h : wpHa P (hd ++ [o1, o2, o3, o4]).toArray c w0 r l (New P c w0 r l Q o1 o2 o3 o4 t1 t2 z1 z2 cs1 cs2) hd a) : (Code.region id (hd ++ [o1, o2, o3, o4]).toArray true).wp P Q a w := by
  refine wp_region_any hm ?_
  have hcl : Closed .any (hd ++ [o1, o2, o3, o4]).toArray (Array.replicate (hd ++ [o1, o2, o3, o4]).toArray.size false) := ⟨by simp, fun j oj _ hl => (by rw [getD_replicate_false] at hl; cases hl)⟩
  have := wpAny_of_anyA _ _ a l w.drew hS.drew (anyA_ha (Q := Q) hsel s3 s4 hd 0 _ a (fun j hj => by rw [Nat.zero_add, List.getElem?_toArray]; exact (List.getElem?_append_left hj).symm) (by simp) (by simp) (by simp) (by simp) hcl hB h)
  have e : hd.length + 4 = (hd ++ [o1, o2, o3, o4]).toArray.size := by simp
  rw [e] at this
  exact this
end Go.Proofs.YtkiefjbfepjcbaaGreatDoor
end
section
namespace Go.Proofs.YtkiefjbfepjcbaaGreatDoor
open Go.RowKit
set_option linter.unusedVariables false

theorem limb_shift (L j t : Nat) : limb L (j + t) = limb (L / pw j) t := by
  unfold limb; rw [pw_add, ← Nat.div_div_eq_div_mul]
theorem est_facts {n n1 n2 j D L W q : Nat} (hn1 : n1 + 1 = n) (hn2 : n2 + 1 = n1) (hD : D < pw n) (hf : 2147483648 ≤ D / pw n1) (hL : L < D * pw (j + 1)) (hW : L / pw j = W) (hq : W / D = q) :
    W < pw (n + 1) ∧ q ≤ 4294967295 ∧ limb D n1 = D / pw n1 ∧ q * (limb D n1 * 4294967296 + limb D n2) ≤ (limb L (j + n) * 4294967296 + limb L (j + n1)) * 4294967296 + limb L (j + n2) ∧
    limb L (j + n) * 4294967296 + limb L (j + n1) < limb D n1 * 4294967296 + 4294967296 ∧
    (∀ g, g ≤ 4294967295 → g * (limb D n1 * 4294967296 + limb D n2) ≤ (limb L (j + n) * 4294967296 + limb L (j + n1)) * 4294967296 + limb L (j + n2) → g ≤ q + 1) := by
  subst hn2 hn1
  have hD0 : 0 < D := by
    refine Nat.pos_of_ne_zero fun e => ?_
    rw [e, Nat.zero_div] at hf; omega
  have hWD : W < D * 4294967296 := by
    have e : D * pw (j + 1) = D * 4294967296 * pw j := by rw [pw_succ j, Nat.mul_comm (pw j), Nat.mul_assoc]
    rw [e] at hL
    have := (Nat.div_lt_iff_lt_mul (pw_pos j)).2 hL
    rwa [hW] at this
  have hW1 : W < pw (n2 + 1 + 1 + 1) := by
    rw [pw_succ (n2 + 1 + 1)]
    exact Nat.lt_of_lt_of_le hWD (Nat.mul_le_mul_right _ (Nat.le_of_lt hD))
  have hq1 : q ≤ 4294967295 := by
    have : W / D < 4294967296 := by rw [Nat.div_lt_iff_lt_mul hD0, Nat.mul_comm]; exact hWD
    omega
  have hfl : D / pw (n2 + 1) < 4294967296 := by rw [Nat.div_lt_iff_lt_mul (pw_pos _), Nat.mul_comm, ← pw_succ]; exact hD
  have hlf : limb D (n2 + 1) = D / pw (n2 + 1) := by unfold limb; exact Nat.mod_eq_of_lt hfl
  have hD2 : D / pw n2 = limb D (n2 + 1) * 4294967296 + limb D n2 := by rw [hlf]; exact div_pw D n2
  have hwl : W / pw (n2 + 1 + 1) < 4294967296 := by rw [Nat.div_lt_iff_lt_mul (pw_pos _), Nat.mul_comm, ← pw_succ]; exact hW1
  have hwn : limb L (j + (n2 + 1 + 1)) = W / pw (n2 + 1 + 1) := by rw [limb_shift, hW]; unfold limb; exact Nat.mod_eq_of_lt hwl
  have hh : limb L (j + (n2 + 1 + 1)) * 4294967296 + limb L (j + (n2 + 1)) = W / pw (n2 + 1) := by rw [hwn, limb_shift, hW]; exact (div_pw W (n2 + 1)).symm
  have hW3 : (limb L (j + (n2 + 1 + 1)) * 4294967296 + limb L (j + (n2 + 1))) * 4294967296 + limb L (j + n2) = W / pw n2 := by rw [hh, limb_shift, hW]; exact (div_pw W n2).symm
  refine ⟨hW1, hq1, hlf, ?_, ?_, ?_⟩
  · rw [← hD2, hW3, ← hq]; exact est_q (pw_pos n2)
  · rw [hh, Nat.div_lt_iff_lt_mul (pw_pos _), hlf]
    have h1 := Nat.div_add_mod D (pw (n2 + 1))
    have h2 := Nat.mod_lt D (pw_pos (n2 + 1))
    obtain ⟨f, hf'⟩ : ∃ f, D / pw (n2 + 1) = f := ⟨_, rfl⟩
    rw [hf'] at h1 ⊢
    have h3 : D ≤ f * pw (n2 + 1) + pw (n2 + 1) := by rw [Nat.mul_comm] at h1; omega
    have h4 : D * 4294967296 ≤ (f * pw (n2 + 1) + pw (n2 + 1)) * 4294967296 := Nat.mul_le_mul_right _ h3
    have h5 : (f * pw (n2 + 1) + pw (n2 + 1)) * 4294967296 = (f * 4294967296 + 4294967296) * pw (n2 + 1) := by
      rw [Nat.add_mul, Nat.add_mul, Nat.mul_assoc f (pw (n2 + 1)) 4294967296, Nat.mul_assoc f 4294967296 (pw (n2 + 1)), Nat.mul_comm 4294967296 (pw (n2 + 1))]
    exact Nat.lt_of_lt_of_le hWD (Nat.le_trans h4 (Nat.le_of_eq h5))
  · intro g hg h
    rw [← hD2, hW3] at h
    rw [← hq]
    refine est_fin (pw_pos n2) hD0 h ?_
    rw [hD2, hlf]; omega

theorem step_digit {n D W q g r : Nat} {b : Bool} (hD0 : 0 < D) (hD : D < pw n) (hW : W < pw (n + 1)) (hq : W / D = q) (h1 : q ≤ g) (h2 : g ≤ q + 1) (hr : r < pw (n + 1)) (h : W + (if b then 1 else 0) * pw (n + 1) = r + g * D) :
    (b = false ∧ g = q ∧ r = W % D) ∨ (b = true ∧ g = q + 1 ∧ (r + D) % pw (n + 1) = W % D) := by
  have hdm := Nat.div_add_mod W D
  have hml := Nat.mod_lt W hD0
  rw [hq, Nat.mul_comm] at hdm
  have hpn : pw n ≤ pw (n + 1) := pw_le (by omega)
  rcases Nat.lt_or_ge q g with hlt | hge
  · have hg : g = q + 1 := by omega
    subst hg
    rw [Nat.add_mul, Nat.one_mul] at h
    cases b
    · simp at h; omega
    · simp at h
      refine .inr ⟨rfl, rfl, ?_⟩
      have : r + D = W % D + pw (n + 1) := by omega
      rw [this, Nat.add_mod_right, Nat.mod_eq_of_lt (by omega)]
  · have hg : g = q := by omega
    subst hg
    cases b
    · simp at h
      exact .inl ⟨rfl, rfl, by omega⟩
    · simp at h; omega

theorem step_next {A D Q L W q j x : Nat} (hA : A = Q * D + L) (hx : L % pw j = x) (hW : L / pw j = W) (hq : W / D = q) (hD0 : 0 < D) : A = (Q + q * pw j) * D + (x + W % D * pw j) ∧ x + W % D * pw j < D * pw j := by
  have h1 := Nat.div_add_mod L (pw j)
  have h2 := Nat.div_add_mod W D
  rw [hx, hW] at h1
  rw [hq] at h2
  refine ⟨?_, ?_⟩
  · have e : pw j * W = pw j * (D * q) + W % D * pw j := by
      have : pw j * W = pw j * (D * q + W % D) := by rw [h2]
      rw [this, Nat.mul_add, Nat.mul_comm (pw j) (W % D)]
    have e2 : (Q + q * pw j) * D = Q * D + pw j * (D * q) := by rw [Nat.add_mul]; congr 1; ac_rfl
    omega
  · have hx' : x < pw j := by rw [← hx]; exact Nat.mod_lt _ (pw_pos j)
    have h3 : (W % D + 1) * pw j ≤ D * pw j := Nat.mul_le_mul_right _ (Nat.mod_lt W hD0)
    rw [Nat.add_mul, Nat.one_mul] at h3
    omega
theorem put_zero {Q j q : Nat} (h : Q % pw (j + 1) = 0) : put Q j q = Q + q * pw j ∧ (Q + q * pw j) % pw j = 0 := by
  have hl : limb Q j = 0 := by
    rw [mod_pw] at h
    have hp := pw_pos j
    refine Classical.byContradiction fun hn => ?_
    have : 1 * pw j ≤ limb Q j * pw j := Nat.mul_le_mul_right _ (by omega)
    omega
  refine ⟨by unfold put; rw [hl]; omega, ?_⟩
  rw [Nat.add_mul_mod_self_right]
  rw [mod_pw] at h
  omega
end Go.Proofs.YtkiefjbfepjcbaaGreatDoor
end
section
namespace Go.Proofs.YtkiefjbfepjcbaaGreatDoor
open Go.RowKit
set_option linter.unusedVariables false

set_option maxHeartbeats 400000 in
theorem leading_any (x s : Nat) (hx : x < 4294967296) (hs : s + bl x = 32) : Gives Tryz.prog 195 #[.int .u32 ((x : Nat) : Int)] (.int .i64 ((s : Nat) : Int)) := by
  intro w
  have hS := St.start w
  have G := len32_any x hx
  have e : (32 : Int) - ((bl x : Nat) : Int) = ((s : Nat) : Int) := by omega
  have hb : bl x ≤ 32 := by omega
  generalize bl x = y at *
  go_enter Tryz.func195, Tryz.ntmps195
  go_wp2_with (first | (go_at_call 202; (with_reducible refine Gives.use (G) hS ?_); clear hS; intro _ hS))
  go_ret
  exact ⟨rfl, hS.below⟩

theorem estimate_any (bl bs j n n1 n2 nw capw caps L D W q : Nat) (hn1 : n1 + 1 = n) (hn2 : n2 + 1 = n1) (hnw : n + 1 = nw) (hin : j + n + 1 ≤ 33) (hnb : n ≤ 32) (hD : D < pw n) (hf : 2147483648 ≤ D / pw n1) (hL : L < D * pw (j + 1)) (hW : L / pw j = W) (hq : W / D = q)
    (w : World) (hbl : w.heap[bl]? = some (.cells (mgk 33 L) 185)) (hbs : w.heap[bs]? = some (.cells (mgk 33 D) 185)) :
    Calls Tryz.prog 197 #[.slice (some ⟨bl, j, none⟩) nw capw, .slice (some ⟨bs, 0, none⟩) n caps] w fun e w' => (∃ g : Nat, e = .returned (.int .u32 ((g : Nat) : Int)) ∧ q ≤ g ∧ g ≤ q + 1 ∧ g ≤ 4294967295) ∧ Below w.heap.size w w' := by
  obtain ⟨h1, h2, h3, h4, h5, h6⟩ := est_facts hn1 hn2 hD hf hL hW hq
  have k1 := limb_lt D n1
  have k2 := limb_lt D n2
  have k3 := limb_lt L (j + n)
  have k4 := limb_lt L (j + n1)
  have k5 := limb_lt L (j + n2)
  rw [← h3] at hf
  refine (estimate_core bl bs j n n1 n2 nw capw caps L D _ _ _ _ _ q _ (by omega) (by omega) hnw hin (by omega) rfl rfl rfl rfl rfl (by omega) (by omega) (by omega) (by omega) (by omega) rfl h4 h5 h2 w hbl hbs).mono ?_
  intro e w' ⟨⟨g, he, g1, g2, g3⟩, hb⟩
  exact ⟨⟨g, he, g1, h6 g g2 g3, g2⟩, hb⟩

set_option maxRecDepth 100000 in
set_option maxHeartbeats 8000000 in
theorem limbs_core (A0 B0 n n1 n2 s p A D la top : Nat) (hn1 : n1 + 1 = n) (hn2 : n2 + 1 = n1) (hnb : n ≤ 32) (hA0 : A0 < pw 32) (hB0 : B0 < pw 32) (hs : s < 32) (hA : A0 * 2 ^ s = A) (hD : B0 * 2 ^ s = D)
    (htop : limb B0 n1 = top) (hlz : s + bl top = 32) (hla : nl A0 = la) (hnla : n ≤ la) (hla2 : la ≤ 32) (hDn : D < pw n) (hDf : 2147483648 ≤ D / pw n1) (hAD : A < D * pw (la - n + 1)) :
    Gives Tryz.prog 174 #[.agg (mgk 32 A0), .agg (mgk 32 B0), .int .i64 ((n : Nat) : Int)] (.tuple #[.agg (mgk 32 (A0 / B0)), .agg (mgk 32 (A0 % B0))]) := by
  intro w
  have hS := St.start w
  have GA := shiftLeft_any A0 s hA0 hs
  have GB := shiftLeft_any B0 s hB0 hs
  rw [hA] at GA
  rw [hD] at GB
  have htopb : top < 4294967296 := by rw [← htop]; exact limb_lt _ _
  have GL := leading_any top s htopb hlz
  have GC := limbCount_any A0
  rw [hla] at GC
  have HTOP : Hid ((mgk 32 B0)[n1]? = some (.int .u32 ((top : Nat) : Int))) := by show _ = _; rw [mgk_get' (by omega), htop]
  have HDn := Lib.hid hDn
  have HDf := Lib.hid hDf
  have HAD := Lib.hid hAD
  have HD0 : Hid (0 < D) := by
    refine Nat.pos_of_ne_zero fun e => ?_
    rw [e, Nat.zero_div] at hDf; omega
  have HFIN : Hid (∀ Q L, A = Q * D + L → L < D → Q = A0 / B0 ∧ L / 2 ^ s = A0 % B0 ∧ L / 2 ^ s < pw 32) := by
    intro Q L h1 h2
    have hp : 0 < 2 ^ s := Nat.pow_pos (by omega)
    have hB : 0 < B0 := by
      refine Nat.pos_of_ne_zero fun e => ?_
      rw [← hD, e, Nat.zero_mul] at h2; omega
    have e1 : Q = A / D := by
      rw [h1, Nat.mul_comm, Nat.mul_add_div (by omega), Nat.div_eq_of_lt h2]; omega
    have e2 : L = A % D := by
      rw [h1, Nat.mul_comm, Nat.mul_add_mod, Nat.mod_eq_of_lt h2]
    have e3 : A / D = A0 / B0 := by rw [← hA, ← hD, Nat.mul_div_mul_right _ _ hp]
    have e4 : A % D = A0 % B0 * 2 ^ s := by rw [← hA, ← hD, Nat.mul_mod_mul_right]
    have e5 : L / 2 ^ s = A0 % B0 := by rw [e2, e4, Nat.mul_div_cancel _ hp]
    refine ⟨by rw [e1, e3], e5, ?_⟩
    rw [e5]
    exact Nat.lt_of_le_of_lt (Nat.mod_le _ _) hA0
  have c1 : ((n : Nat) : Int) - 1 = ((n1 : Nat) : Int) := by omega
  have c2 : ((n1 : Nat) : Int) < 32 := by omega
  have c3 : ((n : Nat) : Int) ≤ 33 := by omega
  have c4 : (0 : Int) ≤ ((n : Nat) : Int) := by omega
  clear hA hD hDn hDf hAD hA0 hB0 hlz hla htop
  go_enter Tryz.func174, Tryz.ntmps174
  go_wp2_with (first | (refine L_box_agg (o := ⟨some 3, _, _, _, _, _⟩) hS rfl rfl ?_; refine ⟨_, rfl, ?_⟩; clear hS; intro b3 _ hS) | (refine L_box_agg (o := ⟨some 4, _, _, _, _, _⟩) hS rfl rfl ?_; refine ⟨_, rfl, ?_⟩; clear hS; intro b4 _ hS) | (refine L_alloc_agg (o := ⟨some 6, _, _, _, _, _⟩) hS rfl rfl ?_; refine ⟨_, zero119, ?_⟩; clear hS; intro b6 _ hS) | (refine L_alloc_agg (o := ⟨some 7, _, _, _, _, _⟩) hS rfl rfl ?_; refine ⟨_, zero119, ?_⟩; clear hS; intro b7 _ hS) | ((with_reducible refine L_slot 18 ?_); (refine L_load (t := 22) rfl rfl ?_; refine ⟨_, run_load_cell hS _ _ rfl _ _ rfl _ _ (.inl (.tail _ (.tail _ (.head _)))) _ Tryz.underlying22 rfl _ (HTOP.out), ?_⟩)) | (go_at_call 195; (with_reducible refine Gives.use (GL) hS ?_); clear hS; intro _ hS))
  (try simp only [Act.put]); (try simp only [List.setIfInBounds_toArray, List.set_cons_succ, List.set_cons_zero]); refine wp_region_2newa (hd := [_, _, _, _, _, _]) 185 185 (mgk 33 0) (mgk 33 0) (mgk 33 A) (mgk 33 D) hS (by kernel_rfl) (by kernel_rfl) (by kernel_rfl) ⟨_, _, _, rfl⟩ ⟨_, _, _, rfl⟩ ?_
  (refine wpHa_cons ?_; apply Exists.intro; apply And.intro; (focus (apply Ha_run; exact rfl; intro _ hS'; exact run_load_row hS' 119 _ rfl _ rfl _ _ (.inl (.tail _ (.tail _ (.tail _ (.head _))))) _ Tryz.underlying119 rfl (size119_mg _))); simp only [Act.put, List.setIfInBounds_toArray, List.set_cons_succ, List.set_cons_zero])
  (refine wpHa_cons ?_; apply Exists.intro; apply And.intro; (focus (apply Ha_run; exact rfl; intro _ _; go_simp; (try go_bits); exact rfl)); simp only [Act.put, List.setIfInBounds_toArray, List.set_cons_succ, List.set_cons_zero])
  (refine wpHa_cons ?_; apply Exists.intro; apply And.intro; (focus (refine Ha_call 196 _ rfl (fun _ => ?_) (GA); go_simp; done)); simp only [Act.put, List.setIfInBounds_toArray, List.set_cons_succ, List.set_cons_zero])
  (refine wpHa_cons ?_; apply Exists.intro; apply And.intro; (focus (apply Ha_run; exact rfl; intro _ hS'; exact run_load_row hS' 119 _ rfl _ rfl _ _ (.inl (.tail _ (.tail _ (.head _)))) _ Tryz.underlying119 rfl (size119_mg _))); simp only [Act.put, List.setIfInBounds_toArray, List.set_cons_succ, List.set_cons_zero])
  (refine wpHa_cons ?_; apply Exists.intro; apply And.intro; (focus (apply Ha_run; exact rfl; intro _ _; go_simp; (try go_bits); exact rfl)); simp only [Act.put, List.setIfInBounds_toArray, List.set_cons_succ, List.set_cons_zero])
  (refine wpHa_cons ?_; apply Exists.intro; apply And.intro; (focus (refine Ha_call 196 _ rfl (fun _ => ?_) (GB); go_simp; done)); simp only [Act.put, List.setIfInBounds_toArray, List.set_cons_succ, List.set_cons_zero])
  refine ⟨rfl, rfl, rfl, rfl, rfl, rfl, zero185, zero185, fun _ _ => rfl, fun _ _ _ hS' => run_store_row hS' 185 _ _ rfl _ rfl _ _ rfl _ (.tail .head) (size185_mg _) (mg_sizes _ _ _) (oneCells _ _), fun _ _ _ hS' => run_store_row hS' 185 _ _ rfl _ rfl _ _ rfl _ .head (size185_mg _) (mg_sizes _ _ _) (oneCells _ _), ?_⟩; clear hS
  intro b9 b10 w1 hS
  simp only [Act.put, List.setIfInBounds_toArray, List.set_cons_succ, List.set_cons_zero]
  go_wp2_with (first | ((with_reducible refine L_slot 28 ?_); (refine L_load (t := 119) rfl rfl ?_; refine ⟨_, run_load_row hS _ _ rfl _ rfl _ _ (.inl (.tail _ (.tail _ (.tail _ (.tail _ (.tail _ (.head _))))))) _ Tryz.underlying119 rfl (size119_mg _), ?_⟩)) | (go_at_call 169; (with_reducible refine Gives.use (GC) hS ?_); clear hS; intro _ hS))
  go_loopw [12] (fun iv wr => ∃ k Q L : Nat, k + n ≤ 33 ∧ iv = .int .i64 ((k : Int) - 1) ∧ Hid (A = Q * D + L) ∧ Hid (L < D * pw k) ∧ Hid (Q % pw k = 0 ∧ Q < pw 32) ∧ St none w wr [] [(b10, .cells (mgk 33 D) 185), (b9, .cells (mgk 33 L) 185), (b7, .cells (mgk 32 0) 119), (b6, .cells (mgk 32 Q) 119), (b4, .cells (mgk 32 B0) 119), (b3, .cells (mgk 32 A0) 119)]) (fun iv _ => (intOf iv + 1).toNat)
  case atStart =>
    have e0 : ((la : Nat) : Int) - ((n : Nat) : Int) = ((la - n + 1 : Nat) : Int) - 1 := by omega
    have e1 : Hid (A = 0 * D + A) := by show A = 0 * D + A; rw [Nat.zero_mul, Nat.zero_add]
    have e2 : Hid (0 % pw (la - n + 1) = 0 ∧ 0 < pw 32) := ⟨Nat.zero_mod _, pw_pos 32⟩
    have e3 : la - n + 1 + n ≤ 33 := by omega
    exact ⟨la - n + 1, 0, A, e3, congrArg (Value.int .i64) e0, e1, HAD, e2, hS⟩
  case round =>
    clear hS
    obtain ⟨k, Q, L, hk, rfl, HA, HL, HQ, hS⟩ := hrel
    rcases k with _ | j
    · have HF := HFIN.out Q L HA.out (by have := HL.out; rwa [pw_zero, Nat.mul_one] at this)
      obtain ⟨f1, f2, f3⟩ := HF
      have GR := shiftRight_any L s f3 hs
      rw [f2] at GR
      have HF1 := Lib.hid f1
      clear f1 f2 f3
      go_wp2_with (fail)
      (try simp only [Act.put]); (try simp only [List.setIfInBounds_toArray, List.set_cons_succ, List.set_cons_zero]); refine wp_region_u2 hS 4 5 [] (.tail (.tail (.tail (.head (o' := .cells (mgk 32 Q) 119))))) (.tail (.tail (.head (o' := .cells (mgk 32 (A0 % B0)) 119)))) (by kernel_rfl) (by kernel_rfl) ?_
      (refine S_load (t := 119) rfl rfl rfl rfl ?_; refine ⟨_, fun _ hS' => run_load_row hS' _ _ rfl _ rfl _ _ (.inl (.tail _ (.tail _ (.tail _ (.head _))))) _ Tryz.underlying119 rfl (size119_mg _), ?_⟩; simp only [Act.put, List.setIfInBounds_toArray, List.set_cons_succ, List.set_cons_zero])
      (refine S_load (t := 185) rfl rfl rfl rfl ?_; refine ⟨_, fun _ hS' => run_load_row hS' _ _ rfl _ rfl _ _ (.inl (.tail _ (.head _))) _ Tryz.underlying185 rfl (size185_mg _), ?_⟩; simp only [Act.put, List.setIfInBounds_toArray, List.set_cons_succ, List.set_cons_zero])
      (refine S_run rfl rfl ?_; apply Exists.intro; refine ⟨fun _ => ?_, ?_⟩; (focus (go_simp; (try go_bits); exact rfl)); simp only [Act.put, List.setIfInBounds_toArray, List.set_cons_succ, List.set_cons_zero])
      (refine S_call 200 rfl rfl rfl rfl ?_; apply Exists.intro; refine ⟨fun _ => ?_, ?_⟩; (focus (go_simp; exact rfl)); apply Exists.intro; (with_reducible refine ⟨GR, ?_⟩); simp only [Act.put, List.setIfInBounds_toArray, List.set_cons_succ, List.set_cons_zero])
      (refine S_store (t := 119) rfl rfl rfl ?_; refine ⟨_, _, _, _, (.tail (.tail (.tail .head))), fun _ hS' => run_store_row hS' _ _ _ rfl _ rfl _ _ rfl _ (.tail (.tail (.tail .head))) (size119_mg _) (mg_sizes _ _ _) (oneCells _ _), ?_⟩; simp only [Act.put])
      (refine S_store (t := 119) rfl rfl rfl ?_; refine ⟨_, _, _, _, (.tail (.tail .head)), fun _ hS' => run_store_row hS' _ _ _ rfl _ rfl _ _ rfl _ (.tail (.tail .head)) (size119_mg _) (mg_sizes _ _ _) (oneCells _ _), ?_⟩; simp only [Act.put])
      refine S_end2 ?_; clear hS; intro _ hS
      go_wp2_with (fail)
      (try simp only [Exit.inBlock, Exit.then]); refine bodyPost_ret (res_cell_cell rfl _ _ _ _ _ (run_loadRow hS _ _ _ _ (.inl (.tail _ (.tail _ (.tail _ (.head _))))) _ Tryz.underlying119 rfl (size119_mg _)) (run_loadRow hS _ _ _ _ (.inl (.tail _ (.tail _ (.head _)))) _ Tryz.underlying119 rfl (size119_mg _)) rfl rfl) rfl ⟨?_, hS.below⟩
      rw [← HF1.out]
    · obtain ⟨W, hW⟩ : ∃ W, L / pw j = W := ⟨_, rfl⟩
      obtain ⟨x, hx⟩ : ∃ x, L % pw j = x := ⟨_, rfl⟩
      obtain ⟨q, hq⟩ : ∃ q, W / D = q := ⟨_, rfl⟩
      have HE := Lib.hid (est_facts hn1 hn2 HDn.out HDf.out HL.out hW hq)
      have HN := Lib.hid (step_next HA.out hx hW hq HD0.out)
      have HP := Lib.hid (put_zero (q := q) HQ.out.1)
      have HX : Hid (x < pw j) := by show x < pw j; rw [← hx]; exact Nat.mod_lt _ (pw_pos j)
      have HLx : Hid (L = x + W * pw j) := by
        show L = x + W * pw j
        have := Nat.div_add_mod L (pw j)
        rw [hW, hx, Nat.mul_comm] at this; omega
      have HW := Lib.hid hW
      have Hq := Lib.hid hq
      have hqb : q ≤ 4294967295 := HE.out.2.1
      have HQ2 : Hid ((Q + q * pw j) % pw j = 0 ∧ Q + q * pw j < pw 32) := ⟨HP.out.2, by rw [← HP.out.1]; exact put_lt HQ.out.2 (by omega) (by omega)⟩
      have HQS : Hid ((mgk 32 Q).setIfInBounds j (.int .u32 ((q : Nat) : Int)) = mgk 32 (Q + q * pw j)) := by
        show _ = _
        rw [mgk_put' Q q rfl (by omega), HP.out.1]
      clear hW hx hq
      have ej : ((j + 1 : Nat) : Int) - 1 = (j : Int) := by omega
      rw [ej]
      clear ej
      obtain ⟨mm, hmm⟩ : ∃ mm, j + n + 1 = mm := ⟨_, rfl⟩
      have d1 : ((j : Nat) : Int) + ((n : Nat) : Int) + 1 = ((mm : Nat) : Int) := by omega
      have d2 : ((j : Nat) : Int) ≤ ((mm : Nat) : Int) := by omega
      have d3 : ((mm : Nat) : Int) ≤ 33 := by omega
      obtain ⟨nw, hnw⟩ : ∃ nw, n + 1 = nw := ⟨_, rfl⟩
      have d4 : mm - j = nw := by omega
      have d5 : (((mm : Nat) : Int) - ((j : Nat) : Int)).toNat = nw := by omega
      have dk : j + n + 1 ≤ 33 := by omega
      clear hk hmm
      have dj : j < 32 := by omega
      go_wp2_with (first | (go_at_call 197; fail))
      have hne : b10 ≠ b9 := (List.pairwise_cons.1 hS.apart).1 _ (.head _)
      refine (estimate_any b9 b10 j n n1 n2 nw (33 - j) 33 L D W q hn1 hn2 hnw dk hnb HDn.out HDf.out HL.out HW.out Hq.out _ (hS.get (.inl (.tail _ (.head _)))) (hS.get (.inl (.head _)))).mono ?_
      intro e w2 ⟨⟨g, he, g1, g2, g3⟩, hb⟩
      subst he
      replace hS := hS.later hb
      clear hb
      rw [HLx.out] at hS
      go_wp2_with (first | (go_at_call 198; fail))
      refine (takeOff_core b9 b10 j n nw (33 - j) 33 x W D g hne hnw dk hnb HX.out HE.out.1 HDn.out (by omega) _ (hS.get (.inl (.tail _ (.head _)))) (hS.get (.inl (.head _)))).mono ?_
      intro e w3 ⟨b, rr, he, hr, heq, l2, h2, hm⟩
      subst he
      replace hS := hS.but (.tail .head) h2 hm
      clear h2 hm
      rcases step_digit HD0.out HDn.out HE.out.1 Hq.out g1 g2 hr heq with ⟨rfl, hg, rfl⟩ | ⟨rfl, hg, hrr⟩
      · have hg' := hg.symm
        clear hg
        subst hg'
        clear hr heq g1 g2 g3
        go_wp2_with (first | ((with_reducible refine L_storeAt 56 ?_); refine L_store (t := 22) hS rfl rfl ?_; refine ⟨_, _, mgk 32 (Q + q * pw j), _, _, (.tail (.tail (.tail .head))), run_store_cell hS _ _ _ rfl _ _ rfl _ rfl _ _ _ (.tail (.tail (.tail .head))) size22 rfl rfl ?_ ?_, ?_⟩; (focus (rw [mgk_size]; omega)); (focus (exact HQS.out)); clear hS; intro _ hS))
        go_roundw
        case rel => exact ⟨j, Q + q * pw j, x + W % D * pw j, by omega, rfl, HN.out.1, HN.out.2, HQ2, hS⟩
        case measure => simp [intOf]
      · clear heq g1 g2
        have hgq : ((g : Nat) : Int) - 1 = ((q : Nat) : Int) := by omega
        have hg1 : (1 : Int) ≤ ((g : Nat) : Int) := by omega
        have HR := Lib.hid hr
        have HRR := Lib.hid hrr
        clear hg hr hrr
        go_wp2_with (first | (go_at_call 199; fail))
        refine (putBack_core b9 b10 j n nw (33 - j) 33 x rr D hne hnw dk hnb HX.out HR.out HDn.out _ (hS.get (.inl (.tail _ (.head _)))) (hS.get (.inl (.head _)))).mono ?_
        intro e w4 ⟨he, l2, h2, hm⟩
        subst he
        rw [HRR.out] at hm
        replace hS := hS.but (.tail .head) h2 hm
        clear h2 hm
        go_wp2_with (first | ((with_reducible refine L_storeAt 56 ?_); refine L_store (t := 22) hS rfl rfl ?_; refine ⟨_, _, mgk 32 (Q + q * pw j), _, _, (.tail (.tail (.tail .head))), run_store_cell hS _ _ _ rfl _ _ rfl _ rfl _ _ _ (.tail (.tail (.tail .head))) size22 rfl rfl ?_ ?_, ?_⟩; (focus (rw [mgk_size]; omega)); (focus (exact HQS.out)); clear hS; intro _ hS))
        go_roundw
        case rel => exact ⟨j, Q + q * pw j, x + W % D * pw j, by omega, rfl, HN.out.1, HN.out.2, HQ2, hS⟩
        case measure => simp [intOf]
end Go.Proofs.YtkiefjbfepjcbaaGreatDoor
end
section
namespace Go.Proofs.YtkiefjbfepjcbaaGreatDoor
open Go.RowKit
set_option linter.unusedVariables false

theorem norm_facts {m n1 s top : Nat} (hm : m < pw (n1 + 1)) (ht : limb m n1 = top) (h0 : top ≠ 0) (hs : s + bl top = 32) : s < 32 ∧ m * 2 ^ s < pw (n1 + 1) ∧ 2147483648 ≤ m * 2 ^ s / pw n1 ∧ pw n1 ≤ m := by
  have hb := bl_pos h0
  have hdv : m / pw n1 = top := by
    rw [← ht]; unfold limb
    exact (Nat.mod_eq_of_lt (by rw [Nat.div_lt_iff_lt_mul (pw_pos n1), Nat.mul_comm, ← pw_succ]; exact hm)).symm
  have hdm := Nat.div_add_mod m (pw n1)
  have hml := Nat.mod_lt m (pw_pos n1)
  rw [hdv] at hdm
  have h1 : top + 1 ≤ 2 ^ bl top := bl_lt top
  have h2 : 2 ^ (bl top - 1) ≤ top := bl_ge h0
  have e1 : 2 ^ bl top * 2 ^ s = 4294967296 := by rw [← Nat.pow_add, show bl top + s = 32 by omega]
  have e2 : 2 ^ (bl top - 1) * 2 ^ s = 2147483648 := by rw [← Nat.pow_add, show bl top - 1 + s = 31 by omega]
  have k1 : (top + 1) * 2 ^ s ≤ 4294967296 := by rw [← e1]; exact Nat.mul_le_mul_right _ h1
  have k2 : 2147483648 ≤ top * 2 ^ s := by rw [← e2]; exact Nat.mul_le_mul_right _ h2
  have hp : 0 < 2 ^ s := Nat.pow_pos (by omega)
  refine ⟨by omega, ?_, ?_, ?_⟩
  · have h3 : m < (top + 1) * pw n1 := by rw [Nat.add_mul, Nat.one_mul, Nat.mul_comm top]; omega
    have h4 : m * 2 ^ s < (top + 1) * pw n1 * 2 ^ s := Nat.mul_lt_mul_of_pos_right h3 hp
    have h5 : (top + 1) * pw n1 * 2 ^ s = (top + 1) * 2 ^ s * pw n1 := Nat.mul_right_comm ..
    have h6 : (top + 1) * 2 ^ s * pw n1 ≤ 4294967296 * pw n1 := Nat.mul_le_mul_right _ k1
    rw [pw_succ, Nat.mul_comm (pw n1)]
    rw [h5] at h4
    exact Nat.lt_of_lt_of_le h4 h6
  · rw [Nat.le_div_iff_mul_le (pw_pos n1)]
    have h3 : top * pw n1 ≤ m := by rw [Nat.mul_comm]; omega
    have h4 : top * pw n1 * 2 ^ s ≤ m * 2 ^ s := Nat.mul_le_mul_right _ h3
    have h5 : top * pw n1 * 2 ^ s = top * 2 ^ s * pw n1 := Nat.mul_right_comm ..
    have h6 : 2147483648 * pw n1 ≤ top * 2 ^ s * pw n1 := Nat.mul_le_mul_right _ k2
    rw [h5] at h4
    exact Nat.le_trans h6 h4
  · have h3 : 1 * pw n1 ≤ top * pw n1 := Nat.mul_le_mul_right _ (by omega)
    rw [Nat.mul_comm top] at h3; omega

theorem limbs_any (A0 B0 n : Nat) (hA0 : A0 < pw 32) (hB0 : B0 < pw 32) (hn : nl B0 = n) (h2 : 2 ≤ n) (hle : B0 ≤ A0) :
    Gives Tryz.prog 174 #[.agg (mgk 32 A0), .agg (mgk 32 B0), .int .i64 ((n : Nat) : Int)] (.tuple #[.agg (mgk 32 (A0 / B0)), .agg (mgk 32 (A0 % B0))]) := by
  obtain ⟨n2, rfl⟩ : ∃ n2, n = n2 + 1 + 1 := ⟨n - 2, by omega⟩
  have hnb : n2 + 1 + 1 ≤ 32 := by have := nl_le B0; omega
  have hBn : B0 < pw (n2 + 1 + 1) := by have := nl_lt hB0; rwa [hn] at this
  have htop : limb B0 (n2 + 1) ≠ 0 := by
    rcases nl_top B0 with h | h
    · omega
    · rw [hn] at h; exact h
  have hbl : bl (limb B0 (n2 + 1)) ≤ 32 := by
    refine bl_le ?_
    have := limb_lt B0 (n2 + 1)
    exact this
  obtain ⟨s, hs⟩ : ∃ s, s + bl (limb B0 (n2 + 1)) = 32 := ⟨32 - bl (limb B0 (n2 + 1)), by omega⟩
  obtain ⟨f1, f2, f3, f4⟩ := norm_facts hBn rfl htop hs
  have hla : n2 + 1 + 1 ≤ nl A0 := by
    refine Classical.byContradiction fun hc => ?_
    have h1 := nl_lt hA0
    have h3 : pw (nl A0) ≤ pw (n2 + 1) := pw_le (by omega)
    omega
  have hla2 := nl_le A0
  refine limbs_core A0 B0 (n2 + 1 + 1) (n2 + 1) n2 s 0 _ _ (nl A0) _ rfl rfl hnb hA0 hB0 f1 rfl rfl rfl hs rfl hla hla2 f2 f3 ?_
  have hA : A0 < pw (nl A0) := nl_lt hA0
  have hp : 0 < 2 ^ s := Nat.pow_pos (by omega)
  have hsb : 2 ^ s ≤ 2147483648 := Nat.pow_le_pow_right (by omega) (show s ≤ 31 by omega)
  have g1 : A0 * 2 ^ s < pw (nl A0) * 2 ^ s := Nat.mul_lt_mul_of_pos_right hA hp
  have g2 : pw (nl A0) * 2 ^ s ≤ pw (nl A0) * 2147483648 := Nat.mul_le_mul_left _ hsb
  have g3 : 2147483648 * pw (n2 + 1) ≤ B0 * 2 ^ s := (Nat.le_div_iff_mul_le (pw_pos _)).1 f3
  have g4 : 2147483648 * pw (n2 + 1) * pw (nl A0 - (n2 + 1 + 1) + 1) ≤ B0 * 2 ^ s * pw (nl A0 - (n2 + 1 + 1) + 1) := Nat.mul_le_mul_right _ g3
  have g5 : 2147483648 * pw (n2 + 1) * pw (nl A0 - (n2 + 1 + 1) + 1) = pw (nl A0) * 2147483648 := by
    rw [Nat.mul_assoc, ← pw_add, Nat.mul_comm]
    congr 2; omega
  rw [g5] at g4
  exact Nat.lt_of_lt_of_le g1 (Nat.le_trans g2 g4)

set_option maxRecDepth 10000 in
set_option maxHeartbeats 2000000 in
theorem divide_any (n m : Nat) (hn : n < pw 32) (hm : m < pw 32) (h0 : 0 < m) : DivGives n m := by
  by_cases h1 : m < 4294967296
  · exact divide_one n m hn h0 h1
  have h2 : 2 ≤ nl m := by
    refine Classical.byContradiction fun hc => ?_
    have h3 := nl_lt hm
    have h4 : pw (nl m) ≤ pw 1 := pw_le (by omega)
    rw [pw_one] at h4; omega
  intro w
  have hS := St.start w
  have HN := Lib.hid hn
  have HM := Lib.hid hm
  obtain ⟨k, hk⟩ : ∃ k, nl m = k := ⟨_, rfl⟩
  have G : Gives Tryz.prog 169 #[.agg (mgk 32 m)] (.int .i64 ((k : Nat) : Int)) := by
    have := limbCount_any m; rwa [hk] at this
  have hk1 : (((k : Nat) : Int) == 1) = false := by simp; omega
  by_cases hlt : n < m
  · have GC := compare_any n m hn hm
    rw [cmpv_lt hlt] at GC
    have HR : Hid (n / m = 0 ∧ n % m = n) := ⟨Nat.div_eq_of_lt hlt, Nat.mod_eq_of_lt hlt⟩
    clear hn hm h0 h1 h2 hk hlt
    unfold DivGives at *
    rw [HR.out.1, HR.out.2]
    go_enter Tryz.func148, Tryz.ntmps148
    go_wp2_with (first | ((with_reducible refine L_slot 2 ?_); (refine L_box_agg (o := ⟨some 2, _, _, _, _, _⟩) hS rfl rfl ?_; refine ⟨_, rfl, ?_⟩; clear hS; intro b2 _ hS)) | ((with_reducible refine L_slot 3 ?_); (refine L_box_agg (o := ⟨some 3, _, _, _, _, _⟩) hS rfl rfl ?_; refine ⟨_, rfl, ?_⟩; clear hS; intro b3 _ hS)) | ((with_reducible refine L_slot 4 ?_); (refine L_alloc_agg (o := ⟨some 4, _, _, _, _, _⟩) hS rfl rfl ?_; refine ⟨_, zero119, ?_⟩; clear hS; intro b4 _ hS)) | ((with_reducible refine L_slot 5 ?_); (refine L_alloc_agg (o := ⟨some 5, _, _, _, _, _⟩) hS rfl rfl ?_; refine ⟨_, zero119, ?_⟩; clear hS; intro b5 _ hS)) | ((with_reducible refine L_slot 7 ?_); (refine L_load (t := 119) rfl rfl ?_; refine ⟨_, run_load_row hS _ _ rfl _ rfl _ _ (.inl (.tail _ (.tail _ (.head _)))) _ Tryz.underlying119 rfl (size119_mg _), ?_⟩)) | ((with_reducible refine L_slot 21 ?_); (refine L_load (t := 119) rfl rfl ?_; refine ⟨_, run_load_row hS _ _ rfl _ rfl _ _ (.inl (.tail _ (.tail _ (.tail _ (.head _))))) _ Tryz.underlying119 rfl (size119_mg _), ?_⟩)) | ((with_reducible refine L_slot 22 ?_); (refine L_load (t := 119) rfl rfl ?_; refine ⟨_, run_load_row hS _ _ rfl _ rfl _ _ (.inl (.tail _ (.tail _ (.head _)))) _ Tryz.underlying119 rfl (size119_mg _), ?_⟩)) | ((with_reducible refine L_slot 27 ?_); (refine L_load (t := 119) rfl rfl ?_; refine ⟨_, run_load_row hS _ _ rfl _ rfl _ _ (.inl (.tail _ (.tail _ (.tail _ (.head _))))) _ Tryz.underlying119 rfl (size119_mg _), ?_⟩)) | ((with_reducible refine L_slot 28 ?_); (refine L_load (t := 119) rfl rfl ?_; refine ⟨_, run_load_row hS _ _ rfl _ rfl _ _ (.inl (.tail _ (.tail _ (.head _)))) _ Tryz.underlying119 rfl (size119_mg _), ?_⟩)) | (go_at_call 169; (with_reducible refine Gives.use (G) hS ?_); clear hS; intro _ hS) | (go_at_call 151; (with_reducible refine Gives.use (GC) hS ?_); clear hS; intro _ hS))
    (try simp only [Act.put]); (try simp only [List.setIfInBounds_toArray, List.set_cons_succ, List.set_cons_zero]); refine wp_region_u2 hS 2 3 [1] (.tail (.head (o' := .cells (mgk 32 0) 119))) (.head (o' := .cells (mgk 32 n) 119)) (by kernel_rfl) (by kernel_rfl) ?_
    (refine S_build rfl rfl rfl ?_; refine ⟨_, built119, ?_⟩; simp only [Act.put, List.setIfInBounds_toArray, List.set_cons_succ, List.set_cons_zero])
    (refine S_float (t := 119) rfl rfl rfl ?_ (by decide); refine ⟨.agg (mgk 32 (n)), fun q _ hq _ hS' => run_load_row hS' _ _ rfl _ rfl (mgk 32 (n)) 119 (by rcases q with _ | _ | _ | q; (focus exact .inl (.tail _ (.tail _ (.tail _ (.head _))))); (focus exact .inl (.tail _ (.tail _ (.tail _ (.head _))))); (focus exact .inl (.tail _ (.tail _ (.tail _ (.head _))))); exact absurd hq (by simp)) _ Tryz.underlying119 rfl (size119_mg _), ?_⟩; simp only [Act.put, List.setIfInBounds_toArray, List.set_cons_succ, List.set_cons_zero])
    (refine S_store (t := 119) rfl rfl rfl ?_; refine ⟨_, _, _, _, (.tail .head), fun _ hS' => run_store_row hS' _ _ _ rfl _ rfl _ _ rfl _ (.tail .head) (size119_mg _) (mg_sizes _ _ _) (oneCells _ _), ?_⟩; simp only [Act.put])
    (refine S_store (t := 119) rfl rfl rfl ?_; refine ⟨_, _, _, _, (.head), fun _ hS' => run_store_row hS' _ _ _ rfl _ rfl _ _ rfl _ (.head) (size119_mg _) (mg_sizes _ _ _) (oneCells _ _), ?_⟩; simp only [Act.put])
    refine S_end2 ?_; clear hS; intro _ hS
    go_wp2_with (fail)
    (try simp only [Exit.inBlock, Exit.then])
    (try simp only [Exit.inBlock, Exit.then]); refine bodyPost_ret (res_cell_cell rfl _ _ _ _ _ (run_loadRow hS _ _ _ _ (.inl (.tail _ (.head _))) _ Tryz.underlying119 rfl (size119_mg _)) (run_loadRow hS _ _ _ _ (.inl (.head _)) _ Tryz.underlying119 rfl (size119_mg _)) rfl rfl) rfl ⟨?_, hS.below⟩
    rfl
  · have hc : 0 ≤ cmpv n m := by unfold cmpv; rw [if_neg hlt]; split <;> omega
    have GC := compare_any n m hn hm
    generalize cmpv n m = cc at *
    have GD := limbs_any n m k hn hm hk (by omega) (by omega)
    clear hn hm h0 h1 h2 hk hlt
    unfold DivGives at *
    generalize n / m = q at *
    generalize n % m = r at *
    go_enter Tryz.func148, Tryz.ntmps148
    go_wp2_with (first | ((with_reducible refine L_slot 2 ?_); (refine L_box_agg (o := ⟨some 2, _, _, _, _, _⟩) hS rfl rfl ?_; refine ⟨_, rfl, ?_⟩; clear hS; intro b2 _ hS)) | ((with_reducible refine L_slot 3 ?_); (refine L_box_agg (o := ⟨some 3, _, _, _, _, _⟩) hS rfl rfl ?_; refine ⟨_, rfl, ?_⟩; clear hS; intro b3 _ hS)) | ((with_reducible refine L_slot 4 ?_); (refine L_alloc_agg (o := ⟨some 4, _, _, _, _, _⟩) hS rfl rfl ?_; refine ⟨_, zero119, ?_⟩; clear hS; intro b4 _ hS)) | ((with_reducible refine L_slot 5 ?_); (refine L_alloc_agg (o := ⟨some 5, _, _, _, _, _⟩) hS rfl rfl ?_; refine ⟨_, zero119, ?_⟩; clear hS; intro b5 _ hS)) | ((with_reducible refine L_slot 7 ?_); (refine L_load (t := 119) rfl rfl ?_; refine ⟨_, run_load_row hS _ _ rfl _ rfl _ _ (.inl (.tail _ (.tail _ (.head _)))) _ Tryz.underlying119 rfl (size119_mg _), ?_⟩)) | ((with_reducible refine L_slot 21 ?_); (refine L_load (t := 119) rfl rfl ?_; refine ⟨_, run_load_row hS _ _ rfl _ rfl _ _ (.inl (.tail _ (.tail _ (.tail _ (.head _))))) _ Tryz.underlying119 rfl (size119_mg _), ?_⟩)) | ((with_reducible refine L_slot 22 ?_); (refine L_load (t := 119) rfl rfl ?_; refine ⟨_, run_load_row hS _ _ rfl _ rfl _ _ (.inl (.tail _ (.tail _ (.head _)))) _ Tryz.underlying119 rfl (size119_mg _), ?_⟩)) | ((with_reducible refine L_slot 27 ?_); (refine L_load (t := 119) rfl rfl ?_; refine ⟨_, run_load_row hS _ _ rfl _ rfl _ _ (.inl (.tail _ (.tail _ (.tail _ (.head _))))) _ Tryz.underlying119 rfl (size119_mg _), ?_⟩)) | ((with_reducible refine L_slot 28 ?_); (refine L_load (t := 119) rfl rfl ?_; refine ⟨_, run_load_row hS _ _ rfl _ rfl _ _ (.inl (.tail _ (.tail _ (.head _)))) _ Tryz.underlying119 rfl (size119_mg _), ?_⟩)) | (go_at_call 169; (with_reducible refine Gives.use (G) hS ?_); clear hS; intro _ hS) | (go_at_call 151; (with_reducible refine Gives.use (GC) hS ?_); clear hS; intro _ hS) | (go_at_call 174; (with_reducible refine Gives.use (GD) hS ?_); clear hS; intro _ hS) | ((with_reducible refine L_storeAt 4 ?_); (refine L_store (t := 119) hS rfl rfl ?_; refine ⟨_, _, _, _, _, (.tail .head), run_store_row hS _ _ _ rfl _ rfl _ _ rfl _ (.tail .head) (size119_mg _) (mg_sizes _ _ _) (oneCells _ _), ?_⟩; clear hS; intro _ hS)) | ((with_reducible refine L_storeAt 5 ?_); (refine L_store (t := 119) hS rfl rfl ?_; refine ⟨_, _, _, _, _, (.head), run_store_row hS _ _ _ rfl _ rfl _ _ rfl _ (.head) (size119_mg _) (mg_sizes _ _ _) (oneCells _ _), ?_⟩; clear hS; intro _ hS)))
    (try simp only [Exit.inBlock, Exit.then])
    (try simp only [Exit.inBlock, Exit.then]); refine bodyPost_ret (res_cell_cell rfl _ _ _ _ _ (run_loadRow hS _ _ _ _ (.inl (.tail _ (.head _))) _ Tryz.underlying119 rfl (size119_mg _)) (run_loadRow hS _ _ _ _ (.inl (.head _)) _ Tryz.underlying119 rfl (size119_mg _)) rfl rfl) rfl ⟨?_, hS.below⟩
    rfl
end Go.Proofs.YtkiefjbfepjcbaaGreatDoor
end
section
namespace Go.Proofs.YtkiefjbfepjcbaaGreatDoor
open Go.RowKit

theorem add_Z (x y z : Int) (e : x + y = z) (hx : x.natAbs < pw 32) (hy : y.natAbs < pw 32) (h : z.natAbs < pw 32) : Gives Tryz.prog 101 #[.agg (ivZ x), .agg (ivZ y)] (.tuple #[.agg (ivZ z), .int .i64 0]) := by
  subst e
  have := add_yes (decide (x < 0)) (decide (y < 0)) x.natAbs y.natAbs hx hy (by rw [vz_self, vz_self]; exact h)
  rwa [vz_self, vz_self] at this
theorem mul_Z (x y z : Int) (e : x * y = z) (hx : x.natAbs < pw 32) (hy : y.natAbs < pw 32) (h : z.natAbs < pw 32) : Gives Tryz.prog 99 #[.agg (ivZ x), .agg (ivZ y)] (.tuple #[.agg (ivZ z), .int .i64 0]) := by
  subst e
  have := mul_any (decide (x < 0)) (decide (y < 0)) x.natAbs y.natAbs hx hy
  rw [vz_self, vz_self, resZ_fits h] at this
  exact this
theorem sign_Z (x : Int) (hx : x.natAbs < pw 32) : Gives Tryz.prog 82 #[.agg (ivZ x)] (.int .i64 (sgn x)) := by
  have := sign_any (decide (x < 0)) x.natAbs hx
  rwa [vz_self] at this
end Go.Proofs.YtkiefjbfepjcbaaGreatDoor
end
section
namespace Go.Proofs.YtkiefjbfepjcbaaGreatDoor
open Go.RowKit Go.Proofs.YtkiefjbfepjcbaaGreatDoor.Sx
set_option linter.unusedSimpArgs false
set_option linter.unusedVariables false

theorem rv_list (s t : Bool) (n m : Nat) : (Value.bool s :: (mgl 32 n ++ Value.bool t :: mgl 32 m)).toArray = rv s n t m := by
  apply Array.toList_inj.1; simp [rv, iv, mgl]
def rvZ (x y : Int) : Array Value := rv (decide (x < 0)) x.natAbs (decide (y < 0)) y.natAbs
def vld (s : Bool) (n : Nat) (t : Bool) (m : Nat) : Bool := !(s && isz n) && !t && !isz m && decide (bl n ≤ 480) && decide (bl m ≤ 480) && decide (Nat.gcd n m = 1)
theorem over_any (s t : Bool) (n m : Nat) (hn : n < pw 32) (hm : m < pw 32) (h0 : 0 < m) : Gives Tryz.prog 121 #[.agg (iv s n), .agg (iv t m)] (.agg (ivZ (vz s n / vz t m))) := by
  have hd := divMod_of s t n m hn hm h0 (divide_any n m hn hm h0)
  unfold divR at hd
  obtain ⟨q, hq⟩ : ∃ q, q = vz s n / vz t m := ⟨_, rfl⟩
  obtain ⟨r, hr⟩ : ∃ q, q = vz s n % vz t m := ⟨_, rfl⟩
  rw [← hq, ← hr] at hd
  rw [← hq]
  have h := pure_of plain [.bool s, .agg (mgk 32 n), .bool t, .agg (mgk 32 m)] tpOver_ok (by kernel_rfl) (.agg (ivZ q)) (tree_leaf (ev_call [.bool (decide (q < 0)), .agg (mgk 32 q.natAbs), .bool (decide (r < 0)), .agg (mgk 32 r.natAbs), .int .i64 0] rfl rfl (pure_gives hd) (fun β => by simp [BTm.den, Tm.i, Tm.s, Tm.den, env, vInt, vBool, vStr, exI, SW.den, SV.den, Cell.den, densP, Piece.den, denV, denT, rowCells_mgk, iv_list]) (fun β => by simp [BTm.den, Tm.i, Tm.s, Tm.den, env, vInt, vBool, vStr, exI, SW.den, SV.den, Cell.den, densP, Piece.den, denV, denT, rowCells_mgk, iv_list, ivZ]) (ev_nil fun β => by simp [BTm.den, Tm.i, Tm.s, Tm.den, env, vInt, vBool, vStr, exI, SW.den, SV.den, Cell.den, densP, Piece.den, denV, denT, rowCells_mgk, iv_list, ivZ])))
  refine gives_pure ?_
  simpa [intB, BTm.den, Tm.i, Tm.s, Tm.den, env, vInt, vBool, vStr, exI, SW.den, SV.den, Cell.den, densP, Piece.den, denV, denT, rowCells_mgk, iv_list] using h
theorem canon_any (s : Bool) (n : Nat) (hn : n < pw 32) : Gives Tryz.prog 145 #[.agg (iv s n)] (.bool (!(s && isz n))) := by
  have hs := sign_any s n hn
  obtain ⟨g, hg⟩ : ∃ g, g = sgn (vz s n) := ⟨_, rfl⟩
  rw [← hg] at hs
  have hz : (g = 0) ↔ n = 0 := by
    rw [hg]; unfold sgn vz; cases s <;> simp <;> split <;> omega
  have h := pure_of plain [.bool s, .agg (mgk 32 n)] tpCanon_ok (by kernel_rfl) (.bool (!(s && isz n))) (tree_ite (ev_nil ⟨fun h1 => tree_leaf (ev_call [.int .i64 g] rfl rfl (pure_gives hs) (fun β => by simp [BTm.den, Tm.i, Tm.s, Tm.den, env, vInt, vBool, vStr, exI, SW.den, SV.den, Cell.den, densP, Piece.den, denV, denT, rowCells_mgk, iv_list]) (fun β => by simp [BTm.den, Tm.i, Tm.s, Tm.den, env, vInt, vBool, vStr, exI, SW.den, SV.den, Cell.den, densP, Piece.den, denV, denT]) (ev_nil fun β => ?_)), fun h1 => tree_leaf (ev_nil fun β => ?_)⟩))
  · refine gives_pure ?_
    simpa [intB, BTm.den, Tm.i, Tm.s, Tm.den, env, vInt, vBool, vStr, exI, SW.den, SV.den, Cell.den, densP, Piece.den, denV, denT, rowCells_mgk, iv_list] using h
  · have h1 : s = true := by simpa [BTm.den, Tm.i, Tm.s, Tm.den, env, vInt, vBool, vStr, exI] using h1
    subst h1
    simp [BTm.den, Tm.i, Tm.s, Tm.den, env, vInt, vBool, vStr, exI, SW.den, SV.den, Cell.den, densP, Piece.den, denV, denT, isz]
    rw [Bool.eq_iff_iff]; simp [hz]
  · have h1 : s = false := by simpa [BTm.den, Tm.i, Tm.s, Tm.den, env, vInt, vBool, vStr, exI] using h1
    subst h1
    simp [BTm.den, Tm.i, Tm.s, Tm.den, env, vInt, vBool, vStr, exI, SW.den, SV.den, Cell.den, densP, Piece.den, denV, denT]
theorem times_rat (s t : Bool) (n m : Nat) (hn : n < pw 32) (hm : m < pw 32) (r e : Int) (hr : resZ (vz s n * vz t m) = .tuple #[.agg (ivZ r), .int .i64 e]) : Gives Tryz.prog 133 #[.agg (iv s n), .agg (iv t m)] (.agg (ivZ r)) ∧ Gives Tryz.prog 73 #[.agg (iv s n), .agg (iv t m)] (.agg (ivZ r)) := by
  have h1 := mul_any s t n m hn hm
  have h2 := rmul_any s t n m hn hm
  rw [hr] at h1 h2
  constructor
  · have h := pure_of plain [.bool s, .agg (mgk 32 n), .bool t, .agg (mgk 32 m)] tpTimes_ok (by kernel_rfl) (.agg (ivZ r)) (tree_leaf (ev_call [.bool (decide (r < 0)), .agg (mgk 32 r.natAbs), .int .i64 e] rfl rfl (pure_gives h1) (fun β => by simp [BTm.den, Tm.i, Tm.s, Tm.den, env, vInt, vBool, vStr, exI, SW.den, SV.den, Cell.den, densP, Piece.den, denV, denT, rowCells_mgk, iv_list]) (fun β => by simp [BTm.den, Tm.i, Tm.s, Tm.den, env, vInt, vBool, vStr, exI, SW.den, SV.den, Cell.den, densP, Piece.den, denV, denT, rowCells_mgk, iv_list, ivZ]) (ev_nil fun β => by simp [BTm.den, Tm.i, Tm.s, Tm.den, env, vInt, vBool, vStr, exI, SW.den, SV.den, Cell.den, densP, Piece.den, denV, denT, rowCells_mgk, iv_list, ivZ])))
    refine gives_pure ?_
    simpa [intB, BTm.den, Tm.i, Tm.s, Tm.den, env, vInt, vBool, vStr, exI, SW.den, SV.den, Cell.den, densP, Piece.den, denV, denT, rowCells_mgk, iv_list] using h
  · have h := pure_of plain [.bool s, .agg (mgk 32 n), .bool t, .agg (mgk 32 m)] tdProduct_ok (by kernel_rfl) (.agg (ivZ r)) (tree_leaf (ev_call [.bool (decide (r < 0)), .agg (mgk 32 r.natAbs), .int .i64 e] rfl rfl (pure_gives h2) (fun β => by simp [BTm.den, Tm.i, Tm.s, Tm.den, env, vInt, vBool, vStr, exI, SW.den, SV.den, Cell.den, densP, Piece.den, denV, denT, rowCells_mgk, iv_list]) (fun β => by simp [BTm.den, Tm.i, Tm.s, Tm.den, env, vInt, vBool, vStr, exI, SW.den, SV.den, Cell.den, densP, Piece.den, denV, denT, rowCells_mgk, iv_list, ivZ]) (ev_nil fun β => by simp [BTm.den, Tm.i, Tm.s, Tm.den, env, vInt, vBool, vStr, exI, SW.den, SV.den, Cell.den, densP, Piece.den, denV, denT, rowCells_mgk, iv_list, ivZ])))
    refine gives_pure ?_
    simpa [intB, BTm.den, Tm.i, Tm.s, Tm.den, env, vInt, vBool, vStr, exI, SW.den, SV.den, Cell.den, densP, Piece.den, denV, denT, rowCells_mgk, iv_list] using h
end Go.Proofs.YtkiefjbfepjcbaaGreatDoor
end
section
namespace Go.Proofs.YtkiefjbfepjcbaaGreatDoor
open Go.RowKit
set_option linter.unusedVariables false

section
variable {c : Option Nat} {w0 w w' : World} {r l l' : List (Nat × Obj)} {P : Program} {ops : Array Oper} {rest : List Oper} {o : Oper} {a : Act} {Q : Exit → Act → World → Prop}
end

theorem iv_put (s : Bool) {m k v : Nat} (hk : k < 32) (hm : m < pw k) (hv : v < 4294967296) : (iv s m).setIfInBounds (1 + k) (.int .u32 ((v : Nat) : Int)) = iv s (m + v * pw k) := by
  rw [← put_low v hm]
  apply Array.ext_getElem?
  intro i
  rw [Array.getElem?_setIfInBounds]
  split
  · rename_i h; subst h
    rw [if_pos (by rw [iv_size]; omega), iv_limb hk, limb_put _ _ _ _ hv, if_pos rfl]
  · rename_i h
    rcases Nat.eq_zero_or_pos i with rfl | hi
    · rw [iv_neg, iv_neg]
    · obtain ⟨j, rfl⟩ : ∃ j, i = 1 + j := ⟨i - 1, by omega⟩
      rcases Nat.lt_or_ge j 32 with hj | hj
      · rw [iv_limb hj, iv_limb hj, limb_put _ _ _ _ hv, if_neg (by omega)]
      · rw [Array.getElem?_eq_none (by rw [iv_size]; omega), Array.getElem?_eq_none (by rw [iv_size]; omega)]

theorem iv_neg_put (s s' : Bool) (m : Nat) : (iv s m).setIfInBounds 0 (.bool s') = iv s' m := by
  apply Array.ext_getElem?
  intro i
  rw [Array.getElem?_setIfInBounds]
  split
  · rename_i h; subst h
    rw [if_pos (by rw [iv_size]; omega), iv_neg]
  · rename_i h
    obtain ⟨j, rfl⟩ : ∃ j, i = 1 + j := ⟨i - 1, by omega⟩
    rw [iv_mag, iv_mag]
theorem size4 : (Tryz.prog.info? 4).map (·.size) = some 1 := by kernel_rfl
end Go.Proofs.YtkiefjbfepjcbaaGreatDoor
end
section
namespace Go.Proofs.YtkiefjbfepjcbaaGreatDoor
open Go.RowKit
set_option linter.unusedVariables false

set_option maxHeartbeats 800000 in
theorem rfromInt_core (s : Bool) (z : Int) (k lo hi : Nat) (v0 : Int) (hv0 : IntKind.u64.wrap z = v0) (hz : decide (z < 0) = s) (hneg : s = true → IntKind.u64.wrap (-v0) = ((k : Nat) : Int)) (hpos : s = false → v0 = ((k : Nat) : Int)) (hk : k < 18446744073709551616)
    (hlo : IntKind.u32.wrap ((k : Nat) : Int) = ((lo : Nat) : Int)) (hhi : ((k : Nat) : Int) / 4294967296 = ((hi : Nat) : Int)) (rlo : lo < 4294967296) (rhi : hi < 4294967296) (HP1 : Hid ((iv s 0).setIfInBounds 1 (.int .u32 ((lo : Nat) : Int)) = iv s lo)) (HP2 : Hid ((iv s lo).setIfInBounds 2 (.int .u32 ((hi : Nat) : Int)) = iv s k)) : Gives Tryz.prog 58 #[.int .i64 z] (.agg (iv s k)) := by
  intro w
  have hS := St.start w
  cases s
  · have hn : ¬ z < 0 := of_decide_eq_false hz
    have hv := hpos rfl
    clear hneg hpos
    go_enter Tryz.func58, Tryz.ntmps58
    go_wp2_with (first | ((with_reducible refine L_alloc? ?_); (refine L_alloc_agg hS rfl rfl ?_; refine ⟨_, zero25, ?_⟩; clear hS; intro _ _ hS)) | ((with_reducible refine L_storeAt 13 ?_); refine L_store (t := 4) hS rfl rfl ?_; refine ⟨_, _, iv false 0, _, _, .head, run_store_cell hS _ _ _ rfl _ _ rfl _ rfl _ _ _ .head size4 rfl rfl ?_ ?_, ?_⟩; (focus (rw [iv_size]; omega)); (focus (exact iv_neg_put _ _ _)); clear hS; intro _ hS) | ((with_reducible refine L_storeAt 20 ?_); refine L_store (t := 22) hS rfl rfl ?_; refine ⟨_, _, iv false lo, _, _, .head, run_store_cell hS _ _ _ rfl _ _ rfl _ rfl _ _ _ .head size22 rfl rfl ?_ ?_, ?_⟩; (focus (rw [iv_size]; omega)); (focus (exact HP1.out)); clear hS; intro _ hS) | ((with_reducible refine L_storeAt 22 ?_); refine L_store (t := 22) hS rfl rfl ?_; refine ⟨_, _, iv false k, _, _, .head, run_store_cell hS _ _ _ rfl _ _ rfl _ rfl _ _ _ .head size22 rfl rfl ?_ ?_, ?_⟩; (focus (rw [iv_size]; omega)); (focus (exact HP2.out)); clear hS; intro _ hS) | ((with_reducible refine L_slot 23 ?_); (refine L_load (t := 25) (o := ⟨some 23, _, _, _, _, _⟩) rfl rfl ?_; refine ⟨_, run_load_row hS _ _ rfl _ rfl _ _ (.inl (.head _)) _ Tryz.underlying25 rfl (size25_iv _ _), ?_⟩)) | ((with_reducible refine L_storeAt 2 ?_); (refine L_store (t := 25) hS rfl rfl ?_; refine ⟨_, _, _, _, _, (.tail .head), run_store_row hS _ _ _ rfl _ rfl _ _ rfl _ (.tail .head) (size25_iv _ _) (iv_sizes _ _ _ _) (oneCells_iv _ _), ?_⟩; clear hS; intro _ hS)))
    (try simp only [Exit.inBlock, Exit.then]); refine bodyPost_ret (res_cell rfl hS _ _ _ _ (.inl (.tail _ (.head _))) rfl _ Tryz.underlying25 rfl (size25_iv _ _)) rfl ⟨?_, hS.below⟩
    rfl
  · have hn : z < 0 := of_decide_eq_true hz
    have hv := hneg rfl
    clear hneg hpos
    go_enter Tryz.func58, Tryz.ntmps58
    go_wp2_with (first | ((with_reducible refine L_alloc? ?_); (refine L_alloc_agg hS rfl rfl ?_; refine ⟨_, zero25, ?_⟩; clear hS; intro _ _ hS)) | ((with_reducible refine L_storeAt 13 ?_); refine L_store (t := 4) hS rfl rfl ?_; refine ⟨_, _, iv true 0, _, _, .head, run_store_cell hS _ _ _ rfl _ _ rfl _ rfl _ _ _ .head size4 rfl rfl ?_ ?_, ?_⟩; (focus (rw [iv_size]; omega)); (focus (exact iv_neg_put _ _ _)); clear hS; intro _ hS) | ((with_reducible refine L_storeAt 20 ?_); refine L_store (t := 22) hS rfl rfl ?_; refine ⟨_, _, iv true lo, _, _, .head, run_store_cell hS _ _ _ rfl _ _ rfl _ rfl _ _ _ .head size22 rfl rfl ?_ ?_, ?_⟩; (focus (rw [iv_size]; omega)); (focus (exact HP1.out)); clear hS; intro _ hS) | ((with_reducible refine L_storeAt 22 ?_); refine L_store (t := 22) hS rfl rfl ?_; refine ⟨_, _, iv true k, _, _, .head, run_store_cell hS _ _ _ rfl _ _ rfl _ rfl _ _ _ .head size22 rfl rfl ?_ ?_, ?_⟩; (focus (rw [iv_size]; omega)); (focus (exact HP2.out)); clear hS; intro _ hS) | ((with_reducible refine L_slot 23 ?_); (refine L_load (t := 25) (o := ⟨some 23, _, _, _, _, _⟩) rfl rfl ?_; refine ⟨_, run_load_row hS _ _ rfl _ rfl _ _ (.inl (.head _)) _ Tryz.underlying25 rfl (size25_iv _ _), ?_⟩)) | ((with_reducible refine L_storeAt 2 ?_); (refine L_store (t := 25) hS rfl rfl ?_; refine ⟨_, _, _, _, _, (.tail .head), run_store_row hS _ _ _ rfl _ rfl _ _ rfl _ (.tail .head) (size25_iv _ _) (iv_sizes _ _ _ _) (oneCells_iv _ _), ?_⟩; clear hS; intro _ hS)))
    (try simp only [Exit.inBlock, Exit.then]); refine bodyPost_ret (res_cell rfl hS _ _ _ _ (.inl (.tail _ (.head _))) rfl _ Tryz.underlying25 rfl (size25_iv _ _)) rfl ⟨?_, hS.below⟩
    rfl
theorem rfromInt_any (z : Int) (h : -9223372036854775808 ≤ z ∧ z ≤ 9223372036854775807) : Gives Tryz.prog 58 #[.int .i64 z] (.agg (ivZ z)) := by
  have e : ivZ z = iv (decide (z < 0)) z.natAbs := rfl
  rw [e]
  have hk : z.natAbs < 18446744073709551616 := by omega
  refine rfromInt_core _ z z.natAbs (z.natAbs % 4294967296) (z.natAbs / 4294967296) (IntKind.u64.wrap z) rfl rfl (fun hs => ?_) (fun hs => ?_) hk ?_ ?_ (by omega) (by omega) ?_ ?_
  · have : z < 0 := of_decide_eq_true hs
    rw [IntKind.wrap_u64, IntKind.wrap_u64]; omega
  · have : ¬ z < 0 := of_decide_eq_false hs
    rw [IntKind.wrap_u64]; omega
  · rw [IntKind.wrap_u32]; omega
  · omega
  · have := iv_put (decide (z < 0)) (m := 0) (k := 0) (v := z.natAbs % 4294967296) (by omega) (pw_pos 0) (by omega)
    rw [pw_zero, Nat.zero_add, Nat.mul_one] at this
    exact this
  · have := iv_put (decide (z < 0)) (m := z.natAbs % 4294967296) (k := 1) (v := z.natAbs / 4294967296) (by omega) (by rw [pw_one]; omega) (by omega)
    rw [pw_one, show z.natAbs % 4294967296 + z.natAbs / 4294967296 * 4294967296 = z.natAbs by omega] at this
    exact this
end Go.Proofs.YtkiefjbfepjcbaaGreatDoor
end
section
namespace Go.Proofs.YtkiefjbfepjcbaaGreatDoor
open Go.RowKit Go.Proofs.YtkiefjbfepjcbaaGreatDoor.Sx
set_option linter.unusedSimpArgs false
set_option linter.unusedVariables false

theorem same_ZZ (x y : Int) (hx : x.natAbs < pw 32) (hy : y.natAbs < pw 32) : SameFact Tryz.prog 25 (.agg (ivZ x)) (.agg (ivZ y)) (decide (x = y)) := fun w => by
  have := ivType.2 w (decide (x < 0)) (decide (y < 0)) x.natAbs y.natAbs hx hy
  rw [decide_eq_decide.2 (ivZ_inj (x := x) (y := y))] at this
  exact this
theorem vsgn_pos (t : Bool) (m : Nat) : 0 < sgn (vz t m) ↔ t = false ∧ m ≠ 0 := by
  unfold sgn vz; cases t <;> simp <;> split <;> (try split) <;> omega
theorem vsgn_zero (t : Bool) (m : Nat) : sgn (vz t m) = 0 ↔ m = 0 := by
  unfold sgn vz; cases t <;> simp <;> split <;> (try split) <;> omega
theorem vsgn_neg (t : Bool) (m : Nat) : sgn (vz t m) < 0 ↔ t = true ∧ m ≠ 0 := by
  unfold sgn vz; cases t <;> simp <;> split <;> (try split) <;> omega
theorem one_lt : (1 : Int).natAbs < pw 32 := by
  have := pw_le (show 1 ≤ 32 by omega); rw [pw_one] at this
  show 1 < pw 32; omega
theorem gcd_lt {n m : Nat} (hn : n < pw 32) (hm : m < pw 32) : ((Nat.gcd n m : Nat) : Int).natAbs < pw 32 := by
  rw [Int.natAbs_natCast]
  rcases Nat.eq_zero_or_pos n with h | h
  · rw [h, Nat.gcd_zero_left]; exact hm
  · exact Nat.lt_of_le_of_lt (Nat.gcd_le_left _ h) hn
theorem fits_rat (s t : Bool) (n m : Nat) (hn : n < pw 32) (hm : m < pw 32) : Gives Tryz.prog 122 #[.agg (rv s n t m)] (.bool (decide (bl n ≤ 480) && decide (bl m ≤ 480))) := by
  have hb := bits_any s n hn
  have hc := bits_any t m hm
  obtain ⟨x, hx⟩ : ∃ x, x = bl n := ⟨_, rfl⟩
  obtain ⟨y, hy⟩ : ∃ x, x = bl m := ⟨_, rfl⟩
  rw [← hx] at hb ⊢
  rw [← hy] at hc ⊢
  have hmain : ∀ v, v = Value.bool (decide (x ≤ 480) && decide (y ≤ 480)) → tpFits.den Tryz.prog (fun ρ' ret => ∀ β, ret.val.den (env ρ') β = v) [.bool s, .agg (mgk 32 n), .bool t, .agg (mgk 32 m)] := by
    intro v hv
    refine tree_ite ?_
    refine ev_zc [.int .i64 (x : Nat)] (pure_gives (hb)) ?_
    refine ev_nil ⟨fun h => tree_leaf (ev_nil fun β => ?_), fun h => tree_leaf ?_⟩
    · have h : (480 : Int) < x := by simpa [BTm.den, Tm.i, Tm.s, Tm.den, env, vInt, vBool, vStr, exI] using h
      rw [hv, decide_eq_false (by omega)]; simp [BTm.den, Tm.i, Tm.s, Tm.den, env, vInt, vBool, vStr, exI, SW.den, SV.den, Cell.den, densP, Piece.den, denV, rowCells_mgk, iv_list, rv_list, ivZ, rvZ, mgl_agg]
    · have h : ¬ (480 : Int) < x := by simpa [BTm.den, Tm.i, Tm.s, Tm.den, env, vInt, vBool, vStr, exI] using h
      refine ev_zc [.int .i64 (y : Nat)] (pure_gives (hc)) ?_
      refine ev_nil fun β => ?_
      rw [hv, decide_eq_true (by omega)]; simp [BTm.den, Tm.i, Tm.s, Tm.den, env, vInt, vBool, vStr, exI, SW.den, SV.den, Cell.den, densP, Piece.den, denV, rowCells_mgk, iv_list, rv_list, ivZ, rvZ, mgl_agg]
      rw [Bool.eq_iff_iff]; simp; omega
  have h := pure_of plain [.bool s, .agg (mgk 32 n), .bool t, .agg (mgk 32 m)] tpFits_ok (by kernel_rfl) _ (hmain _ rfl)
  refine gives_pure ?_
  simpa [ratR, BTm.den, Tm.i, Tm.s, Tm.den, env, vInt, vBool, vStr, exI, SW.den, SV.den, Cell.den, densP, Piece.den, denV, denT, rowCells_mgk, rv_list] using h
set_option maxHeartbeats 1000000 in
theorem pValid (s t : Bool) (n m : Nat) (hn : n < pw 32) (hm : m < pw 32) : Gives Tryz.prog 98 #[.agg (rv s n t m)] (.bool (vld s n t m)) := by
  have hcan := canon_any s n hn
  have hsg := sign_any t m hm
  have hsp := vsgn_pos t m
  have hfit := fits_rat s t n m hn hm
  have hg := gcd_of (pw 32) s t n m hn hm hm fun x y hx hy h0 _ => divide_any x y hx hy h0
  have hgl := gcd_lt hn hm
  have h1 := fromInt_any 1 (by omega)
  have hmain : ∀ v, v = Value.bool (vld s n t m) → tpValid.den Tryz.prog (fun ρ' ret => ∀ β, ret.val.den (env ρ') β = v) [.bool s, .agg (mgk 32 n), .bool t, .agg (mgk 32 m)] := by
    intro v hv
    have hgi : decide (((Nat.gcd n m : Nat) : Int) = 1) = decide (Nat.gcd n m = 1) := by rw [decide_eq_decide]; omega
    unfold vld at hv
    have hmz : isz m = decide (m = 0) := rfl
    obtain ⟨c, hc⟩ : ∃ c, c = (!(s && isz n)) := ⟨_, rfl⟩
    obtain ⟨f, hf⟩ : ∃ c, c = (decide (bl n ≤ 480) && decide (bl m ≤ 480)) := ⟨_, rfl⟩
    obtain ⟨g, hgg⟩ : ∃ c, c = ((Nat.gcd n m : Nat) : Int) := ⟨_, rfl⟩
    obtain ⟨k, hk⟩ : ∃ c, c = sgn (vz t m) := ⟨_, rfl⟩
    rw [← hc] at hcan
    rw [← hf] at hfit
    rw [← hgg] at hg hgl hgi
    rw [← hk] at hsg hsp
    have hv : v = .bool (c && (decide (0 < k)) && f && decide (g = 1)) := by
      rw [hv, hc, hf, hgi]
      congr 1
      have : decide (0 < k) = (!t && !isz m) := by
        rw [Bool.eq_iff_iff]; simp [hsp, hmz]
      rw [this]
      cases (!(s && isz n)) <;> cases t <;> cases (isz m) <;> cases (decide (bl n ≤ 480)) <;> simp
    clear hc hf hgg hk
    refine tree_ite ?_
    refine ev_zc [.bool c] (pure_gives (hcan)) ?_
    refine ev_nil ⟨fun h => tree_ite ?_, fun h => tree_leaf (ev_nil fun β => ?_)⟩
    · have h : c = true := by simpa [BTm.den, Tm.i, Tm.s, Tm.den, env, vInt, vBool, vStr, exI] using h
      subst h
      refine ev_zc [.int .i64 k] (pure_gives (hsg)) ?_
      refine ev_nil ⟨fun h => tree_ite ?_, fun h => tree_leaf (ev_nil fun β => ?_)⟩
      · have h : 0 < k := by simpa [BTm.den, Tm.i, Tm.s, Tm.den, env, vInt, vBool, vStr, exI] using h
        refine ev_zc [.bool f] (pure_gives (hfit)) ?_
        refine ev_nil ⟨fun h2 => tree_leaf ?_, fun h2 => tree_leaf (ev_nil fun β => ?_)⟩
        · have h2 : f = true := by simpa [BTm.den, Tm.i, Tm.s, Tm.den, env, vInt, vBool, vStr, exI] using h2
          subst h2
          refine ev_zc [.bool (decide (g < 0)), .agg (mgk 32 (g : Int).natAbs)] (pure_gives (hg)) ?_
          refine ev_call [.bool (decide (1 < 0)), .agg (mgk 32 (1 : Int).natAbs)] rfl rfl (pure_gives h1) (fun β => by simp [BTm.den, Tm.i, Tm.s, Tm.den, env, vInt, vBool, vStr, exI, SW.den, SV.den, Cell.den, densP, Piece.den, denV, denT]) (fun β => by simp [BTm.den, Tm.i, Tm.s, Tm.den, env, vInt, vBool, vStr, exI, SW.den, SV.den, Cell.den, densP, Piece.den, denV, denT, rowCells_mgk, iv_list, ivZ]) ?_
          refine ev_same (decide (g = 1)) rfl (fun β => by simp [BTm.den, Tm.i, Tm.s, Tm.den, env, vInt, vBool, vStr, exI, SW.den, SV.den, Cell.den, densP, Piece.den, denV, rowCells_mgk, iv_list, rv_list, ivZ, rvZ, mgl_agg]) (fun β => by simp [BTm.den, Tm.i, Tm.s, Tm.den, env, vInt, vBool, vStr, exI, SW.den, SV.den, Cell.den, densP, Piece.den, denV, rowCells_mgk, iv_list, rv_list, ivZ, rvZ, mgl_agg]) (same_ZZ g 1 hgl one_lt) ?_
          refine ev_nil fun β => ?_
          rw [hv, decide_eq_true h]; simp [BTm.den, Tm.i, Tm.s, Tm.den, env, vInt, vBool, vStr, exI, SW.den, SV.den, Cell.den, densP, Piece.den, denV, rowCells_mgk, iv_list, rv_list, ivZ, rvZ, mgl_agg]
        · have h2 : f = false := by simpa [BTm.den, Tm.i, Tm.s, Tm.den, env, vInt, vBool, vStr, exI] using h2
          rw [hv, h2]; simp [BTm.den, Tm.i, Tm.s, Tm.den, env, vInt, vBool, vStr, exI, SW.den, SV.den, Cell.den, densP, Piece.den, denV, rowCells_mgk, iv_list, rv_list, ivZ, rvZ, mgl_agg]
      · have h : ¬ 0 < k := by simpa [BTm.den, Tm.i, Tm.s, Tm.den, env, vInt, vBool, vStr, exI] using h
        rw [hv, decide_eq_false h]; simp [BTm.den, Tm.i, Tm.s, Tm.den, env, vInt, vBool, vStr, exI, SW.den, SV.den, Cell.den, densP, Piece.den, denV, rowCells_mgk, iv_list, rv_list, ivZ, rvZ, mgl_agg]
    · have h : c = false := by simpa [BTm.den, Tm.i, Tm.s, Tm.den, env, vInt, vBool, vStr, exI] using h
      rw [hv, h]; simp [BTm.den, Tm.i, Tm.s, Tm.den, env, vInt, vBool, vStr, exI, SW.den, SV.den, Cell.den, densP, Piece.den, denV, rowCells_mgk, iv_list, rv_list, ivZ, rvZ, mgl_agg]
  have h := pure_of plain [.bool s, .agg (mgk 32 n), .bool t, .agg (mgk 32 m)] tpValid_ok (by kernel_rfl) _ (hmain _ rfl)
  refine gives_pure ?_
  simpa [ratR, BTm.den, Tm.i, Tm.s, Tm.den, env, vInt, vBool, vStr, exI, SW.den, SV.den, Cell.den, densP, Piece.den, denV, denT, rowCells_mgk, rv_list] using h
end Go.Proofs.YtkiefjbfepjcbaaGreatDoor
end
section
namespace Go.Proofs.YtkiefjbfepjcbaaGreatDoor
open Go.RowKit Go.Proofs.YtkiefjbfepjcbaaGreatDoor.Sx
set_option linter.unusedSimpArgs false
set_option linter.unusedVariables false

set_option maxHeartbeats 2000000 in
theorem dValid (s t : Bool) (n m : Nat) (hn : n < pw 32) (hm : m < pw 32) : Gives Tryz.prog 50 #[.agg (rv s n t m)] (.bool (vld s n t m)) := by
  have hsn := rsign_any s n hn
  have hsz := vsgn_zero s n
  have hsg := rsign_any t m hm
  have hsp := vsgn_pos t m
  have hb := rbits_any s n hn
  have hc := rbits_any t m hm
  have hg := rgcd_any s t n m hn hm
  have hgl := gcd_lt hn hm
  have h1 := rfromInt_any 1 (by omega)
  have hmain : ∀ v, v = Value.bool (vld s n t m) → tdValid.den Tryz.prog (fun ρ' ret => ∀ β, ret.val.den (env ρ') β = v) [.bool s, .agg (mgk 32 n), .bool t, .agg (mgk 32 m)] := by
    intro v hv
    have hgi : decide (((Nat.gcd n m : Nat) : Int) = 1) = decide (Nat.gcd n m = 1) := by rw [decide_eq_decide]; omega
    unfold vld at hv
    have hmz : isz m = decide (m = 0) := rfl
    have hnz : isz n = decide (n = 0) := rfl
    obtain ⟨g, hgg⟩ : ∃ c, c = ((Nat.gcd n m : Nat) : Int) := ⟨_, rfl⟩
    obtain ⟨k, hk⟩ : ∃ c, c = sgn (vz t m) := ⟨_, rfl⟩
    obtain ⟨j, hj⟩ : ∃ c, c = sgn (vz s n) := ⟨_, rfl⟩
    obtain ⟨x, hx⟩ : ∃ x, x = bl n := ⟨_, rfl⟩
    obtain ⟨y, hy⟩ : ∃ x, x = bl m := ⟨_, rfl⟩
    rw [← hgg] at hg hgl hgi
    rw [← hk] at hsg hsp
    rw [← hj] at hsn hsz
    rw [← hx] at hb
    rw [← hy] at hc
    have hv : v = .bool (!(s && decide (j = 0)) && decide (0 < k) && decide (x ≤ 480) && decide (y ≤ 480) && decide (g = 1)) := by
      rw [hv, hx, hy, hgi]
      congr 1
      have : decide (0 < k) = (!t && !isz m) := by
        rw [Bool.eq_iff_iff]; simp [hsp, hmz]
      have h2 : decide (j = 0) = isz n := by rw [hnz, decide_eq_decide]; exact hsz
      rw [this, h2]
      cases (!(s && isz n)) <;> cases t <;> cases (isz m) <;> cases (decide (bl n ≤ 480)) <;> simp
    clear hx hy hgg hk hj
    refine tree_ite (ev_nil ⟨fun h => tree_ite ?_, fun h => tree_ite ?_⟩)
    · have h : s = true := by simpa [BTm.den, Tm.i, Tm.s, Tm.den, env, vInt, vBool, vStr, exI] using h
      subst h
      refine ev_zc [.int .i64 j] (pure_gives (hsn)) ?_
      refine ev_nil ⟨fun h => tree_leaf (ev_nil fun β => ?_), fun h => tree_ite ?_⟩
      · have h : j = 0 := by simpa [BTm.den, Tm.i, Tm.s, Tm.den, env, vInt, vBool, vStr, exI] using h
        rw [hv, decide_eq_true h]; simp [BTm.den, Tm.i, Tm.s, Tm.den, env, vInt, vBool, vStr, exI, SW.den, SV.den, Cell.den, densP, Piece.den, denV, rowCells_mgk, iv_list, rv_list, ivZ, rvZ, mgl_agg]
      have h : j ≠ 0 := by simpa [BTm.den, Tm.i, Tm.s, Tm.den, env, vInt, vBool, vStr, exI] using h
      refine ev_zc [.int .i64 k] (pure_gives (hsg)) ?_
      refine ev_nil ⟨fun h => tree_ite ?_, fun h => tree_leaf (ev_nil fun β => ?_)⟩
      · have h' : 0 < k := by simpa [BTm.den, Tm.i, Tm.s, Tm.den, env, vInt, vBool, vStr, exI] using h
        refine ev_zc [.int .i64 (x : Nat)] (pure_gives (hb)) ?_
        refine ev_nil ⟨fun h => tree_leaf (ev_nil fun β => ?_), fun h => tree_ite ?_⟩
        · have h : (480 : Int) < x := by simpa [BTm.den, Tm.i, Tm.s, Tm.den, env, vInt, vBool, vStr, exI] using h
          rw [hv, decide_eq_false (p := x ≤ 480) (by omega)]; simp [BTm.den, Tm.i, Tm.s, Tm.den, env, vInt, vBool, vStr, exI, SW.den, SV.den, Cell.den, densP, Piece.den, denV, rowCells_mgk, iv_list, rv_list, ivZ, rvZ, mgl_agg]
        have h3 : ¬ (480 : Int) < x := by simpa [BTm.den, Tm.i, Tm.s, Tm.den, env, vInt, vBool, vStr, exI] using h
        refine ev_zc [.int .i64 (y : Nat)] (pure_gives (hc)) ?_
        refine ev_nil ⟨fun h => tree_leaf (ev_nil fun β => ?_), fun h => tree_leaf ?_⟩
        · have h : (480 : Int) < y := by simpa [BTm.den, Tm.i, Tm.s, Tm.den, env, vInt, vBool, vStr, exI] using h
          rw [hv, decide_eq_false (p := y ≤ 480) (by omega)]; simp [BTm.den, Tm.i, Tm.s, Tm.den, env, vInt, vBool, vStr, exI, SW.den, SV.den, Cell.den, densP, Piece.den, denV, rowCells_mgk, iv_list, rv_list, ivZ, rvZ, mgl_agg]
        have h4 : ¬ (480 : Int) < y := by simpa [BTm.den, Tm.i, Tm.s, Tm.den, env, vInt, vBool, vStr, exI] using h
        refine ev_zc [.bool (decide (g < 0)), .agg (mgk 32 (g : Int).natAbs)] (pure_gives (hg)) ?_
        refine ev_call [.bool (decide (1 < 0)), .agg (mgk 32 (1 : Int).natAbs)] rfl rfl (pure_gives h1) (fun β => by simp [BTm.den, Tm.i, Tm.s, Tm.den, env, vInt, vBool, vStr, exI, SW.den, SV.den, Cell.den, densP, Piece.den, denV, denT]) (fun β => by simp [BTm.den, Tm.i, Tm.s, Tm.den, env, vInt, vBool, vStr, exI, SW.den, SV.den, Cell.den, densP, Piece.den, denV, denT, rowCells_mgk, iv_list, ivZ]) ?_
        refine ev_same (decide (g = 1)) rfl (fun β => by simp [BTm.den, Tm.i, Tm.s, Tm.den, env, vInt, vBool, vStr, exI, SW.den, SV.den, Cell.den, densP, Piece.den, denV, rowCells_mgk, iv_list, rv_list, ivZ, rvZ, mgl_agg]) (fun β => by simp [BTm.den, Tm.i, Tm.s, Tm.den, env, vInt, vBool, vStr, exI, SW.den, SV.den, Cell.den, densP, Piece.den, denV, rowCells_mgk, iv_list, rv_list, ivZ, rvZ, mgl_agg]) (same_ZZ g 1 hgl one_lt) ?_
        refine ev_nil fun β => ?_
        rw [hv, decide_eq_true (p := y ≤ 480) (by omega), decide_eq_true (p := x ≤ 480) (by omega), decide_eq_true h', decide_eq_false (p := j = 0) (by assumption)]; simp [BTm.den, Tm.i, Tm.s, Tm.den, env, vInt, vBool, vStr, exI, SW.den, SV.den, Cell.den, densP, Piece.den, denV, rowCells_mgk, iv_list, rv_list, ivZ, rvZ, mgl_agg]
      · have h : ¬ 0 < k := by simpa [BTm.den, Tm.i, Tm.s, Tm.den, env, vInt, vBool, vStr, exI] using h
        rw [hv, decide_eq_false h]; simp [BTm.den, Tm.i, Tm.s, Tm.den, env, vInt, vBool, vStr, exI, SW.den, SV.den, Cell.den, densP, Piece.den, denV, rowCells_mgk, iv_list, rv_list, ivZ, rvZ, mgl_agg]
    · have h : s = false := by simpa [BTm.den, Tm.i, Tm.s, Tm.den, env, vInt, vBool, vStr, exI] using h
      subst h
      refine ev_zc [.int .i64 k] (pure_gives (hsg)) ?_
      refine ev_nil ⟨fun h => tree_ite ?_, fun h => tree_leaf (ev_nil fun β => ?_)⟩
      · have h' : 0 < k := by simpa [BTm.den, Tm.i, Tm.s, Tm.den, env, vInt, vBool, vStr, exI] using h
        refine ev_zc [.int .i64 (x : Nat)] (pure_gives (hb)) ?_
        refine ev_nil ⟨fun h => tree_leaf (ev_nil fun β => ?_), fun h => tree_ite ?_⟩
        · have h : (480 : Int) < x := by simpa [BTm.den, Tm.i, Tm.s, Tm.den, env, vInt, vBool, vStr, exI] using h
          rw [hv, decide_eq_false (p := x ≤ 480) (by omega)]; simp [BTm.den, Tm.i, Tm.s, Tm.den, env, vInt, vBool, vStr, exI, SW.den, SV.den, Cell.den, densP, Piece.den, denV, rowCells_mgk, iv_list, rv_list, ivZ, rvZ, mgl_agg]
        have h3 : ¬ (480 : Int) < x := by simpa [BTm.den, Tm.i, Tm.s, Tm.den, env, vInt, vBool, vStr, exI] using h
        refine ev_zc [.int .i64 (y : Nat)] (pure_gives (hc)) ?_
        refine ev_nil ⟨fun h => tree_leaf (ev_nil fun β => ?_), fun h => tree_leaf ?_⟩
        · have h : (480 : Int) < y := by simpa [BTm.den, Tm.i, Tm.s, Tm.den, env, vInt, vBool, vStr, exI] using h
          rw [hv, decide_eq_false (p := y ≤ 480) (by omega)]; simp [BTm.den, Tm.i, Tm.s, Tm.den, env, vInt, vBool, vStr, exI, SW.den, SV.den, Cell.den, densP, Piece.den, denV, rowCells_mgk, iv_list, rv_list, ivZ, rvZ, mgl_agg]
        have h4 : ¬ (480 : Int) < y := by simpa [BTm.den, Tm.i, Tm.s, Tm.den, env, vInt, vBool, vStr, exI] using h
        refine ev_zc [.bool (decide (g < 0)), .agg (mgk 32 (g : Int).natAbs)] (pure_gives (hg)) ?_
        refine ev_call [.bool (decide (1 < 0)), .agg (mgk 32 (1 : Int).natAbs)] rfl rfl (pure_gives h1) (fun β => by simp [BTm.den, Tm.i, Tm.s, Tm.den, env, vInt, vBool, vStr, exI, SW.den, SV.den, Cell.den, densP, Piece.den, denV, denT]) (fun β => by simp [BTm.den, Tm.i, Tm.s, Tm.den, env, vInt, vBool, vStr, exI, SW.den, SV.den, Cell.den, densP, Piece.den, denV, denT, rowCells_mgk, iv_list, ivZ]) ?_
        refine ev_same (decide (g = 1)) rfl (fun β => by simp [BTm.den, Tm.i, Tm.s, Tm.den, env, vInt, vBool, vStr, exI, SW.den, SV.den, Cell.den, densP, Piece.den, denV, rowCells_mgk, iv_list, rv_list, ivZ, rvZ, mgl_agg]) (fun β => by simp [BTm.den, Tm.i, Tm.s, Tm.den, env, vInt, vBool, vStr, exI, SW.den, SV.den, Cell.den, densP, Piece.den, denV, rowCells_mgk, iv_list, rv_list, ivZ, rvZ, mgl_agg]) (same_ZZ g 1 hgl one_lt) ?_
        refine ev_nil fun β => ?_
        rw [hv, decide_eq_true (p := y ≤ 480) (by omega), decide_eq_true (p := x ≤ 480) (by omega), decide_eq_true h']; simp [BTm.den, Tm.i, Tm.s, Tm.den, env, vInt, vBool, vStr, exI, SW.den, SV.den, Cell.den, densP, Piece.den, denV, rowCells_mgk, iv_list, rv_list, ivZ, rvZ, mgl_agg]
      · have h : ¬ 0 < k := by simpa [BTm.den, Tm.i, Tm.s, Tm.den, env, vInt, vBool, vStr, exI] using h
        rw [hv, decide_eq_false h]; simp [BTm.den, Tm.i, Tm.s, Tm.den, env, vInt, vBool, vStr, exI, SW.den, SV.den, Cell.den, densP, Piece.den, denV, rowCells_mgk, iv_list, rv_list, ivZ, rvZ, mgl_agg]
  have h := pure_of plain [.bool s, .agg (mgk 32 n), .bool t, .agg (mgk 32 m)] tdValid_ok (by kernel_rfl) _ (hmain _ rfl)
  refine gives_pure ?_
  simpa [ratR, BTm.den, Tm.i, Tm.s, Tm.den, env, vInt, vBool, vStr, exI, SW.den, SV.den, Cell.den, densP, Piece.den, denV, denT, rowCells_mgk, rv_list] using h
end Go.Proofs.YtkiefjbfepjcbaaGreatDoor
end
section
namespace Go.Proofs.YtkiefjbfepjcbaaGreatDoor
open Go.RowKit Go.Proofs.YtkiefjbfepjcbaaGreatDoor.Sx
set_option linter.unusedSimpArgs false
set_option linter.unusedVariables false

def mkN (x y : Int) (g : Nat) : Int := if y < 0 then -(x / (g : Int)) else x / (g : Int)
def mkF (a b : Int) : Bool := decide (bl a.natAbs ≤ 480) && decide (bl b.natAbs ≤ 480)
def mkv (x y : Int) (g : Nat) : Value :=
  if y = 0 then .tuple #[.agg (rvZ 0 0), .int .i64 11]
  else if mkF (mkN x y g) (mkN y y g) = true then .tuple #[.agg (rvZ (mkN x y g) (mkN y y g)), .int .i64 0] else .tuple #[.agg (rvZ 0 0), .int .i64 10]
theorem over_neg (x : Int) (g : Nat) : x / (-(g : Int)) = -(x / (g : Int)) := Int.ediv_neg x g
theorem quo_lt {x : Int} {g : Nat} (hx : x.natAbs < pw 32) (hg : 0 < g) (hd : (g : Int) ∣ x) : (x / (g : Int)).natAbs < pw 32 := by
  obtain ⟨q, rfl⟩ := hd
  rw [Int.mul_ediv_cancel_left _ (by omega)]
  rw [Int.natAbs_mul, Int.natAbs_natCast] at hx
  exact Nat.lt_of_le_of_lt (Nat.le_mul_of_pos_left _ hg) hx
theorem zero_rat : (Value.bool false :: (List.replicate 32 (.int .u32 0) ++ Value.bool false :: List.replicate 32 (.int .u32 0))).toArray = rvZ 0 0 := by
  rw [← mgl_zero, rv_list]; rfl
set_option maxHeartbeats 2000000 in
theorem pMake (s t : Bool) (n m : Nat) (hn : n < pw 32) (hm : m < pw 32) : Gives Tryz.prog 62 #[.agg (iv s n), .agg (iv t m)] (mkv (vz s n) (vz t m) (Nat.gcd n m)) := by
  have hsg := sign_any t m hm
  have hg := gcd_of (pw 32) s t n m hn hm hm fun x y hx hy h0 _ => divide_any x y hx hy h0
  have hgl := gcd_lt hn hm
  have hz := vsgn_zero t m
  have hng := vsgn_neg t m
  obtain ⟨k, hk⟩ : ∃ c, c = sgn (vz t m) := ⟨_, rfl⟩
  rw [← hk] at hsg hz hng
  have hmain : ∀ v, v = mkv (vz s n) (vz t m) (Nat.gcd n m) → tpMake.den Tryz.prog (fun ρ' ret => ∀ β, ret.val.den (env ρ') β = v) [.bool s, .agg (mgk 32 n), .bool t, .agg (mgk 32 m)] := by
    intro v hv
    unfold mkv at hv
    refine tree_ite ?_
    refine ev_zc [.int .i64 k] (pure_gives (hsg)) ?_
    refine ev_nil ⟨fun h => tree_leaf (ev_nil fun β => ?_), fun h => tree_ite ?_⟩
    · have h : k = 0 := by simpa [BTm.den, Tm.i, Tm.s, Tm.den, env, vInt, vBool, vStr, exI] using h
      have hm0 : m = 0 := hz.1 h
      have : vz t m = 0 := by rw [hm0]; cases t <;> rfl
      rw [if_pos this] at hv
      rw [hv, ← zero_rat]; simp [BTm.den, Tm.i, Tm.s, Tm.den, env, vInt, vBool, vStr, exI, SW.den, SV.den, Cell.den, densP, Piece.den, denV, denT]
    have h : k ≠ 0 := by simpa [BTm.den, Tm.i, Tm.s, Tm.den, env, vInt, vBool, vStr, exI] using h
    have hm0 : m ≠ 0 := fun h2 => h (hz.2 h2)
    have hy0 : vz t m ≠ 0 := vz_ne (by omega)
    rw [if_neg hy0] at hv
    have hgp : 0 < Nat.gcd n m := Nat.gcd_pos_of_pos_right _ (by omega)
    have hdx : ((Nat.gcd n m : Nat) : Int) ∣ vz s n := by
      have : ((Nat.gcd n m : Nat) : Int) ∣ (n : Int) := Int.natCast_dvd_natCast.2 (Nat.gcd_dvd_left ..)
      unfold vz; split
      · exact (Int.dvd_neg).2 this
      · exact this
    have hdy : ((Nat.gcd n m : Nat) : Int) ∣ vz t m := by
      have : ((Nat.gcd n m : Nat) : Int) ∣ (m : Int) := Int.natCast_dvd_natCast.2 (Nat.gcd_dvd_right ..)
      unfold vz; split
      · exact (Int.dvd_neg).2 this
      · exact this
    have hxl := quo_lt (by rw [vz_abs]; exact hn) hgp hdx
    have hyl := quo_lt (by rw [vz_abs]; exact hm) hgp hdy
    have hgl' : Nat.gcd n m < pw 32 := by simpa using hgl
    have ho1 := fun (b : Bool) => over_any s b n (Nat.gcd n m) hn hgl' hgp
    have ho2 := fun (b : Bool) => over_any t b m (Nat.gcd n m) hm hgl' hgp
    have hneg : vz t m < 0 ↔ k < 0 := by
      rw [hng]; unfold vz; cases t <;> simp <;> omega
    have hgn := neg_any false (Nat.gcd n m) hgl'
    obtain ⟨x, hx⟩ : ∃ c, c = vz s n := ⟨_, rfl⟩
    obtain ⟨y, hy⟩ : ∃ c, c = vz t m := ⟨_, rfl⟩
    rw [← hx] at hxl hdx ho1 hv
    rw [← hy] at hyl hdy ho2 hv hneg
    obtain ⟨g, hgg⟩ : ∃ c, c = Nat.gcd n m := ⟨_, rfl⟩
    rw [← hgg] at hg hxl hyl ho1 ho2 hv hgn hgp hgl'
    have e1 : vz true g = -(g : Int) := rfl
    have e2 : vz false g = (g : Int) := rfl
    have hgd : decide ((g : Int) < 0) = false := decide_eq_false (by omega)
    have hgd2 : decide (-(g : Int) < 0) = true := decide_eq_true (by omega)
    rw [e2] at hgn
    have hgiv : ivZ ((g : Nat) : Int) = iv false g := by unfold ivZ; rw [hgd]; rfl
    have hgiv2 : ivZ (-((g : Nat) : Int)) = iv true g := by unfold ivZ; rw [hgd2, Int.natAbs_neg]; rfl
    rw [hgiv] at hg
    rw [hgiv2] at hgn
    refine ev_zc [.bool false, .agg (mgk 32 g)] (pure_gives (hg)) ?_
    refine ev_zc [.int .i64 k] (pure_gives (hsg)) ?_
    refine ev_nil ⟨fun h2 => tree_ite ?_, fun h2 => tree_ite ?_⟩
    · have h2 : k < 0 := by simpa [BTm.den, Tm.i, Tm.s, Tm.den, env, vInt, vBool, vStr, exI] using h2
      have h3 := ho1 true
      have h4 := ho2 true
      rw [e1, over_neg] at h3 h4
      unfold mkN at hv
      rw [if_pos (hneg.2 h2), if_pos (hneg.2 h2)] at hv
      rw [← Int.natAbs_neg] at hxl hyl
      obtain ⟨a, ha⟩ : ∃ c, c = -(x / (g : Int)) := ⟨_, rfl⟩
      obtain ⟨b, hb⟩ : ∃ c, c = -(y / (g : Int)) := ⟨_, rfl⟩
      rw [← ha] at h3 hxl hv
      rw [← hb] at h4 hyl hv
      have hf := fits_rat (decide (a < 0)) (decide (b < 0)) a.natAbs b.natAbs hxl hyl
      have hff : (decide (bl a.natAbs ≤ 480) && decide (bl b.natAbs ≤ 480)) = mkF a b := rfl
      rw [hff] at hf
      obtain ⟨f, hfe⟩ : ∃ c, c = mkF a b := ⟨_, rfl⟩
      rw [← hfe] at hf hv
      refine ev_zc [.bool true, .agg (mgk 32 g)] (pure_gives (hgn)) ?_
      refine ev_zc [.bool (decide (a < 0)), .agg (mgk 32 (a : Int).natAbs)] (pure_gives (h3)) ?_
      refine ev_zc [.bool (decide (b < 0)), .agg (mgk 32 (b : Int).natAbs)] (pure_gives (h4)) ?_
      refine ev_zc [.bool f] (pure_gives (hf)) ?_
      refine ev_nil ⟨fun h5 => tree_leaf (ev_nil fun β => ?_), fun h5 => tree_leaf (ev_nil fun β => ?_)⟩
      · have h5 : f = true := by simpa [BTm.den, Tm.i, Tm.s, Tm.den, env, vInt, vBool, vStr, exI] using h5
        rw [if_pos h5] at hv
        rw [hv]; simp [BTm.den, Tm.i, Tm.s, Tm.den, env, vInt, vBool, vStr, exI, SW.den, SV.den, Cell.den, densP, Piece.den, denV, rowCells_mgk, iv_list, rv_list, ivZ, rvZ, mgl_agg]
      · have h5 : f = false := by simpa [BTm.den, Tm.i, Tm.s, Tm.den, env, vInt, vBool, vStr, exI] using h5
        rw [h5, if_neg (by simp)] at hv
        rw [hv, ← zero_rat]; simp [BTm.den, Tm.i, Tm.s, Tm.den, env, vInt, vBool, vStr, exI, SW.den, SV.den, Cell.den, densP, Piece.den, denV, denT]
    · have h2 : ¬ k < 0 := by simpa [BTm.den, Tm.i, Tm.s, Tm.den, env, vInt, vBool, vStr, exI] using h2
      have h3 := ho1 false
      have h4 := ho2 false
      rw [e2] at h3 h4
      unfold mkN at hv
      rw [if_neg (fun h => h2 (hneg.1 h)), if_neg (fun h => h2 (hneg.1 h))] at hv
      obtain ⟨a, ha⟩ : ∃ c, c = (x / (g : Int)) := ⟨_, rfl⟩
      obtain ⟨b, hb⟩ : ∃ c, c = (y / (g : Int)) := ⟨_, rfl⟩
      rw [← ha] at h3 hxl hv
      rw [← hb] at h4 hyl hv
      have hf := fits_rat (decide (a < 0)) (decide (b < 0)) a.natAbs b.natAbs hxl hyl
      have hff : (decide (bl a.natAbs ≤ 480) && decide (bl b.natAbs ≤ 480)) = mkF a b := rfl
      rw [hff] at hf
      obtain ⟨f, hfe⟩ : ∃ c, c = mkF a b := ⟨_, rfl⟩
      rw [← hfe] at hf hv
      refine ev_zc [.bool (decide (a < 0)), .agg (mgk 32 (a : Int).natAbs)] (pure_gives (h3)) ?_
      refine ev_zc [.bool (decide (b < 0)), .agg (mgk 32 (b : Int).natAbs)] (pure_gives (h4)) ?_
      refine ev_zc [.bool f] (pure_gives (hf)) ?_
      refine ev_nil ⟨fun h5 => tree_leaf (ev_nil fun β => ?_), fun h5 => tree_leaf (ev_nil fun β => ?_)⟩
      · have h5 : f = true := by simpa [BTm.den, Tm.i, Tm.s, Tm.den, env, vInt, vBool, vStr, exI] using h5
        rw [if_pos h5] at hv
        rw [hv]; simp [BTm.den, Tm.i, Tm.s, Tm.den, env, vInt, vBool, vStr, exI, SW.den, SV.den, Cell.den, densP, Piece.den, denV, rowCells_mgk, iv_list, rv_list, ivZ, rvZ, mgl_agg]
      · have h5 : f = false := by simpa [BTm.den, Tm.i, Tm.s, Tm.den, env, vInt, vBool, vStr, exI] using h5
        rw [h5, if_neg (by simp)] at hv
        rw [hv, ← zero_rat]; simp [BTm.den, Tm.i, Tm.s, Tm.den, env, vInt, vBool, vStr, exI, SW.den, SV.den, Cell.den, densP, Piece.den, denV, denT]
  have h := pure_of plain [.bool s, .agg (mgk 32 n), .bool t, .agg (mgk 32 m)] tpMake_ok (by kernel_rfl) _ (hmain _ rfl)
  refine gives_pure ?_
  simpa [intB, BTm.den, Tm.i, Tm.s, Tm.den, env, vInt, vBool, vStr, exI, SW.den, SV.den, Cell.den, densP, Piece.den, denV, denT, rowCells_mgk, iv_list] using h
end Go.Proofs.YtkiefjbfepjcbaaGreatDoor
end
section
namespace Go.Proofs.YtkiefjbfepjcbaaGreatDoor
open Go.RowKit Go.Proofs.YtkiefjbfepjcbaaGreatDoor.Sx
set_option linter.unusedSimpArgs false
set_option linter.unusedVariables false

theorem sgn_lt (z : Int) : sgn z < 0 ↔ z < 0 := by unfold sgn; split <;> (try split) <;> omega
theorem quo_neg {y : Int} {g : Nat} (hg : 0 < g) (hd : (g : Int) ∣ y) : y / (g : Int) < 0 ↔ y < 0 := by
  obtain ⟨q, rfl⟩ := hd
  rw [Int.mul_ediv_cancel_left _ (by omega)]
  constructor
  · intro h; exact Int.mul_neg_of_pos_of_neg (by omega) h
  · intro h
    by_cases h2 : q < 0
    · exact h2
    · have := Int.mul_nonneg (show (0 : Int) ≤ (g : Int) by omega) (show 0 ≤ q by omega)
      omega
theorem dvd_vz {g n : Nat} (s : Bool) (h : g ∣ n) : ((g : Nat) : Int) ∣ vz s n := by
  have : ((g : Nat) : Int) ∣ (n : Int) := Int.natCast_dvd_natCast.2 h
  unfold vz; split
  · exact (Int.dvd_neg).2 this
  · exact this
theorem rsign_Z (z : Int) (hz : z.natAbs < pw 32) : Gives Tryz.prog 54 #[.agg (ivZ z)] (.int .i64 (sgn z)) := by
  have := rsign_any (decide (z < 0)) z.natAbs hz
  rwa [vz_self] at this
theorem rneg_Z (z : Int) (hz : z.natAbs < pw 32) : Gives Tryz.prog 123 #[.agg (ivZ z)] (.agg (ivZ (-z))) := by
  have := rneg_any (decide (z < 0)) z.natAbs hz
  rwa [vz_self] at this
theorem rbits_Z (z : Int) (hz : z.natAbs < pw 32) : Gives Tryz.prog 109 #[.agg (ivZ z)] (.int .i64 ((bl z.natAbs : Nat) : Int)) := rbits_any (decide (z < 0)) z.natAbs hz
set_option maxHeartbeats 2000000 in
theorem dMake (s t : Bool) (n m : Nat) (hn : n < pw 32) (hm : m < pw 32) : Gives Tryz.prog 65 #[.agg (iv s n), .agg (iv t m)] (mkv (vz s n) (vz t m) (Nat.gcd n m)) := by
  have hsg := rsign_any t m hm
  have hg := rgcd_any s t n m hn hm
  have hgl := gcd_lt hn hm
  have hz := vsgn_zero t m
  obtain ⟨k, hk⟩ : ∃ c, c = sgn (vz t m) := ⟨_, rfl⟩
  rw [← hk] at hsg hz
  have hmain : ∀ v, v = mkv (vz s n) (vz t m) (Nat.gcd n m) → tdMake.den Tryz.prog (fun ρ' ret => ∀ β, ret.val.den (env ρ') β = v) [.bool s, .agg (mgk 32 n), .bool t, .agg (mgk 32 m)] := by
    intro v hv
    unfold mkv at hv
    refine tree_ite ?_
    refine ev_zc [.int .i64 k] (pure_gives (hsg)) ?_
    refine ev_nil ⟨fun h => tree_leaf (ev_nil fun β => ?_), fun h => tree_ite ?_⟩
    · have h : k = 0 := by simpa [BTm.den, Tm.i, Tm.s, Tm.den, env, vInt, vBool, vStr, exI] using h
      have hm0 : m = 0 := hz.1 h
      have : vz t m = 0 := by rw [hm0]; cases t <;> rfl
      rw [if_pos this] at hv
      rw [hv, ← zero_rat]; simp [BTm.den, Tm.i, Tm.s, Tm.den, env, vInt, vBool, vStr, exI, SW.den, SV.den, Cell.den, densP, Piece.den, denV, denT]
    have h : k ≠ 0 := by simpa [BTm.den, Tm.i, Tm.s, Tm.den, env, vInt, vBool, vStr, exI] using h
    have hm0 : m ≠ 0 := fun h2 => h (hz.2 h2)
    have hy0 : vz t m ≠ 0 := vz_ne (by omega)
    rw [if_neg hy0] at hv
    have hgp : 0 < Nat.gcd n m := Nat.gcd_pos_of_pos_right _ (by omega)
    have hdx := dvd_vz s (Nat.gcd_dvd_left n m)
    have hdy := dvd_vz t (Nat.gcd_dvd_right n m)
    have hxl := quo_lt (by rw [vz_abs]; exact hn) hgp hdx
    have hyl := quo_lt (by rw [vz_abs]; exact hm) hgp hdy
    have hgl' : Nat.gcd n m < pw 32 := by simpa using hgl
    have ho1 := rdivMod_any s false n (Nat.gcd n m) hn hgl' hgp
    have ho2 := rdivMod_any t false m (Nat.gcd n m) hm hgl' hgp
    unfold divR at ho1 ho2
    have hneg := quo_neg hgp hdy
    obtain ⟨x, hx⟩ : ∃ c, c = vz s n := ⟨_, rfl⟩
    obtain ⟨y, hy⟩ : ∃ c, c = vz t m := ⟨_, rfl⟩
    rw [← hx] at hxl hdx ho1 hv
    rw [← hy] at hyl hdy ho2 hv hneg
    obtain ⟨g, hgg⟩ : ∃ c, c = Nat.gcd n m := ⟨_, rfl⟩
    rw [← hgg] at hg hxl hyl ho1 ho2 hv hgp hgl' hneg
    have e2 : vz false g = (g : Int) := rfl
    have hgd : decide ((g : Int) < 0) = false := decide_eq_false (by omega)
    have hgiv : ivZ ((g : Nat) : Int) = iv false g := by unfold ivZ; rw [hgd]; rfl
    rw [hgiv] at hg
    rw [e2] at ho1 ho2
    unfold mkN at hv
    obtain ⟨a, ha⟩ : ∃ c, c = (x / (g : Int)) := ⟨_, rfl⟩
    obtain ⟨b, hb⟩ : ∃ c, c = (y / (g : Int)) := ⟨_, rfl⟩
    obtain ⟨a', ha'⟩ : ∃ c, c = (x % (g : Int)) := ⟨_, rfl⟩
    obtain ⟨b', hb'⟩ : ∃ c, c = (y % (g : Int)) := ⟨_, rfl⟩
    rw [← ha, ← ha'] at ho1
    rw [← hb, ← hb'] at ho2
    rw [← ha] at hxl hv
    rw [← hb] at hyl hv hneg
    have hsb := rsign_Z b hyl
    have hsl := sgn_lt b
    obtain ⟨k2, hk2⟩ : ∃ c, c = sgn b := ⟨_, rfl⟩
    rw [← hk2] at hsb hsl
    refine ev_zc [.bool false, .agg (mgk 32 g)] (pure_gives (hg)) ?_
    refine ev_zc [.bool (decide (a < 0)), .agg (mgk 32 (a : Int).natAbs), .bool (decide (a' < 0)), .agg (mgk 32 (a' : Int).natAbs), .int .i64 0] (pure_gives (ho1)) ?_
    refine ev_zc [.bool (decide (b < 0)), .agg (mgk 32 (b : Int).natAbs), .bool (decide (b' < 0)), .agg (mgk 32 (b' : Int).natAbs), .int .i64 0] (pure_gives (ho2)) ?_
    refine ev_zc [.int .i64 k2] (pure_gives (hsb)) ?_
    refine ev_nil ⟨fun h2 => tree_ite ?_, fun h2 => tree_ite ?_⟩
    · have h2 : k2 < 0 := by simpa [BTm.den, Tm.i, Tm.s, Tm.den, env, vInt, vBool, vStr, exI] using h2
      have h3 : y < 0 := hneg.1 (hsl.1 h2)
      rw [if_pos h3, if_pos h3] at hv
      have hna := rneg_Z a hxl
      have hnb := rneg_Z b hyl
      have hxl' : (-a).natAbs < pw 32 := by rw [Int.natAbs_neg]; exact hxl
      have hyl' : (-b).natAbs < pw 32 := by rw [Int.natAbs_neg]; exact hyl
      obtain ⟨c, hc⟩ : ∃ c, c = -a := ⟨_, rfl⟩
      obtain ⟨d, hd⟩ : ∃ c, c = -b := ⟨_, rfl⟩
      rw [← hc] at hna hxl' hv
      rw [← hd] at hnb hyl' hv
      have hba := rbits_Z c hxl'
      have hbb := rbits_Z d hyl'
      unfold mkF at hv
      obtain ⟨p, hp⟩ : ∃ p, p = bl c.natAbs := ⟨_, rfl⟩
      obtain ⟨q, hq⟩ : ∃ p, p = bl d.natAbs := ⟨_, rfl⟩
      rw [← hp] at hba hv
      rw [← hq] at hbb hv
      refine ev_zc [.bool (decide (c < 0)), .agg (mgk 32 (c : Int).natAbs)] (pure_gives (hna)) ?_
      refine ev_zc [.bool (decide (d < 0)), .agg (mgk 32 (d : Int).natAbs)] (pure_gives (hnb)) ?_
      refine ev_zc [.int .i64 (p : Nat)] (pure_gives (hba)) ?_
      refine ev_nil ⟨fun h5 => tree_leaf (ev_nil fun β => ?_), fun h5 => tree_ite ?_⟩
      · have h5 : (480 : Int) < p := by simpa [BTm.den, Tm.i, Tm.s, Tm.den, env, vInt, vBool, vStr, exI] using h5
        rw [decide_eq_false (p := p ≤ 480) (by omega), if_neg (by simp)] at hv
        rw [hv, ← zero_rat]; simp [BTm.den, Tm.i, Tm.s, Tm.den, env, vInt, vBool, vStr, exI, SW.den, SV.den, Cell.den, densP, Piece.den, denV, denT]
      have h5 : ¬ (480 : Int) < p := by simpa [BTm.den, Tm.i, Tm.s, Tm.den, env, vInt, vBool, vStr, exI] using h5
      rw [decide_eq_true (p := p ≤ 480) (by omega)] at hv
      refine ev_zc [.int .i64 (q : Nat)] (pure_gives (hbb)) ?_
      refine ev_nil ⟨fun h6 => tree_leaf (ev_nil fun β => ?_), fun h6 => tree_leaf (ev_nil fun β => ?_)⟩
      · have h6 : (480 : Int) < q := by simpa [BTm.den, Tm.i, Tm.s, Tm.den, env, vInt, vBool, vStr, exI] using h6
        rw [decide_eq_false (p := q ≤ 480) (by omega), if_neg (by simp)] at hv
        rw [hv, ← zero_rat]; simp [BTm.den, Tm.i, Tm.s, Tm.den, env, vInt, vBool, vStr, exI, SW.den, SV.den, Cell.den, densP, Piece.den, denV, denT]
      · have h6 : ¬ (480 : Int) < q := by simpa [BTm.den, Tm.i, Tm.s, Tm.den, env, vInt, vBool, vStr, exI] using h6
        rw [decide_eq_true (p := q ≤ 480) (by omega), if_pos (by simp)] at hv
        rw [hv]; simp [BTm.den, Tm.i, Tm.s, Tm.den, env, vInt, vBool, vStr, exI, SW.den, SV.den, Cell.den, densP, Piece.den, denV, rowCells_mgk, iv_list, rv_list, ivZ, rvZ, mgl_agg]
    · have h2 : ¬ k2 < 0 := by simpa [BTm.den, Tm.i, Tm.s, Tm.den, env, vInt, vBool, vStr, exI] using h2
      have h3 : ¬ y < 0 := fun h => h2 (hsl.2 (hneg.2 h))
      rw [if_neg h3, if_neg h3] at hv
      have hba := rbits_Z a hxl
      have hbb := rbits_Z b hyl
      unfold mkF at hv
      obtain ⟨p, hp⟩ : ∃ p, p = bl a.natAbs := ⟨_, rfl⟩
      obtain ⟨q, hq⟩ : ∃ p, p = bl b.natAbs := ⟨_, rfl⟩
      rw [← hp] at hba hv
      rw [← hq] at hbb hv
      refine ev_zc [.int .i64 (p : Nat)] (pure_gives (hba)) ?_
      refine ev_nil ⟨fun h5 => tree_leaf (ev_nil fun β => ?_), fun h5 => tree_ite ?_⟩
      · have h5 : (480 : Int) < p := by simpa [BTm.den, Tm.i, Tm.s, Tm.den, env, vInt, vBool, vStr, exI] using h5
        rw [decide_eq_false (p := p ≤ 480) (by omega), if_neg (by simp)] at hv
        rw [hv, ← zero_rat]; simp [BTm.den, Tm.i, Tm.s, Tm.den, env, vInt, vBool, vStr, exI, SW.den, SV.den, Cell.den, densP, Piece.den, denV, denT]
      have h5 : ¬ (480 : Int) < p := by simpa [BTm.den, Tm.i, Tm.s, Tm.den, env, vInt, vBool, vStr, exI] using h5
      rw [decide_eq_true (p := p ≤ 480) (by omega)] at hv
      refine ev_zc [.int .i64 (q : Nat)] (pure_gives (hbb)) ?_
      refine ev_nil ⟨fun h6 => tree_leaf (ev_nil fun β => ?_), fun h6 => tree_leaf (ev_nil fun β => ?_)⟩
      · have h6 : (480 : Int) < q := by simpa [BTm.den, Tm.i, Tm.s, Tm.den, env, vInt, vBool, vStr, exI] using h6
        rw [decide_eq_false (p := q ≤ 480) (by omega), if_neg (by simp)] at hv
        rw [hv, ← zero_rat]; simp [BTm.den, Tm.i, Tm.s, Tm.den, env, vInt, vBool, vStr, exI, SW.den, SV.den, Cell.den, densP, Piece.den, denV, denT]
      · have h6 : ¬ (480 : Int) < q := by simpa [BTm.den, Tm.i, Tm.s, Tm.den, env, vInt, vBool, vStr, exI] using h6
        rw [decide_eq_true (p := q ≤ 480) (by omega), if_pos (by simp)] at hv
        rw [hv]; simp [BTm.den, Tm.i, Tm.s, Tm.den, env, vInt, vBool, vStr, exI, SW.den, SV.den, Cell.den, densP, Piece.den, denV, rowCells_mgk, iv_list, rv_list, ivZ, rvZ, mgl_agg]
  have h := pure_of plain [.bool s, .agg (mgk 32 n), .bool t, .agg (mgk 32 m)] tdMake_ok (by kernel_rfl) _ (hmain _ rfl)
  refine gives_pure ?_
  simpa [intB, BTm.den, Tm.i, Tm.s, Tm.den, env, vInt, vBool, vStr, exI, SW.den, SV.den, Cell.den, densP, Piece.den, denV, denT, rowCells_mgk, iv_list] using h
end Go.Proofs.YtkiefjbfepjcbaaGreatDoor
end
section
namespace Go.Proofs.YtkiefjbfepjcbaaGreatDoor
open Go.RowKit Go.Proofs.YtkiefjbfepjcbaaGreatDoor.Sx
set_option linter.unusedSimpArgs false
set_option linter.unusedVariables false

def mkZ (x y : Int) : Value := mkv x y (Nat.gcd x.natAbs y.natAbs)
theorem make_Z (x y : Int) (hx : x.natAbs < pw 32) (hy : y.natAbs < pw 32) : Gives Tryz.prog 62 #[.agg (ivZ x), .agg (ivZ y)] (mkZ x y) ∧ Gives Tryz.prog 65 #[.agg (ivZ x), .agg (ivZ y)] (mkZ x y) := by
  have h1 := pMake (decide (x < 0)) (decide (y < 0)) x.natAbs y.natAbs hx hy
  have h2 := dMake (decide (x < 0)) (decide (y < 0)) x.natAbs y.natAbs hx hy
  rw [vz_self, vz_self] at h1 h2
  exact ⟨h1, h2⟩
theorem pw_room : ∃ L : Nat, L * L * 4 ≤ pw 32 ∧ ∀ n, bl n ≤ 480 → n < L := by
  obtain ⟨k, hk⟩ : ∃ k : Nat, k = 480 := ⟨_, rfl⟩
  refine ⟨2 ^ k, ?_, fun n h => Nat.lt_of_lt_of_le (bl_lt n) (Nat.pow_le_pow_right (by omega) (by omega))⟩
  obtain ⟨K, hK, e⟩ := pw32_bits
  rw [e, ← Nat.pow_add, show (4 : Nat) = 2 ^ 2 by rfl, ← Nat.pow_add]
  exact Nat.pow_le_pow_right (by omega) (by omega)
theorem mul_room {L a b : Nat} (ha : a < L) (hb : b < L) : a * b < L * L := Nat.mul_lt_mul'' ha hb
theorem vz_mul_abs (s t : Bool) (n m : Nat) : (vz s n * vz t m).natAbs = n * m := by rw [Int.natAbs_mul, vz_abs, vz_abs]
theorem short_times {L : Nat} (hL : L * L * 4 ≤ pw 32) (s t : Bool) (n m : Nat) (hn : n < L) (hm : m < L) (hn' : n < pw 32) (hm' : m < pw 32) :
    (Gives Tryz.prog 133 #[.agg (iv s n), .agg (iv t m)] (.agg (ivZ (vz s n * vz t m))) ∧ Gives Tryz.prog 73 #[.agg (iv s n), .agg (iv t m)] (.agg (ivZ (vz s n * vz t m)))) ∧ (vz s n * vz t m).natAbs < L * L ∧ (vz s n * vz t m).natAbs < pw 32 := by
  have h := mul_room hn hm
  have h2 : (vz s n * vz t m).natAbs < L * L := by rw [vz_mul_abs]; exact h
  have h3 : (vz s n * vz t m).natAbs < pw 32 := by omega
  exact ⟨times_rat s t n m hn' hm' _ 0 (resZ_fits h3), h2, h3⟩
theorem vld_parts {s t : Bool} {n m : Nat} (h : vld s n t m = true) : (s && isz n) = false ∧ t = false ∧ m ≠ 0 ∧ bl n ≤ 480 ∧ bl m ≤ 480 ∧ Nat.gcd n m = 1 := by
  unfold vld at h
  simp only [Bool.and_eq_true, decide_eq_true_eq] at h
  obtain ⟨⟨⟨⟨⟨h1, h2⟩, h3⟩, h4⟩, h5⟩, h6⟩ := h
  refine ⟨by rwa [Bool.not_eq_true'] at h1, by simpa using h2, ?_, h4, h5, h6⟩
  intro h0; subst h0; simp [isz] at h3
def errV (e : Int) : Value := .tuple #[.agg (rvZ 0 0), .int .i64 e]
theorem mkZ_form (x y : Int) : ∃ a b e : Int, mkZ x y = .tuple #[.agg (rvZ a b), .int .i64 e] := by
  unfold mkZ mkv; split
  · exact ⟨_, _, _, rfl⟩
  · split
    · exact ⟨_, _, _, rfl⟩
    · exact ⟨_, _, _, rfl⟩
end Go.Proofs.YtkiefjbfepjcbaaGreatDoor
end
section
namespace Go.Proofs.YtkiefjbfepjcbaaGreatDoor
open Go.RowKit Go.Proofs.YtkiefjbfepjcbaaGreatDoor.Sx
set_option linter.unusedSimpArgs false
set_option linter.unusedVariables false

def quoR (s : Bool) (n : Nat) (t : Bool) (m : Nat) (s' : Bool) (n' : Nat) (t' : Bool) (m' : Nat) : Value :=
  if (vld s n t m && vld s' n' t' m') = true then mkZ (vz s n * vz t' m') (vz t m * vz s' n') else errV 20
set_option maxHeartbeats 2000000 in
theorem quo_rat (s t s' t' : Bool) (n m n' m' : Nat) (hn : n < pw 32) (hm : m < pw 32) (hn' : n' < pw 32) (hm' : m' < pw 32) :
    Gives Tryz.prog 87 #[.agg (rv s n t m), .agg (rv s' n' t' m')] (quoR s n t m s' n' t' m') ∧ Gives Tryz.prog 27 #[.agg (rv s n t m), .agg (rv s' n' t' m')] (quoR s n t m s' n' t' m') := by
  have p1 := pValid s t n m hn hm
  have p2 := pValid s' t' n' m' hn' hm'
  have d1 := dValid s t n m hn hm
  have d2 := dValid s' t' n' m' hn' hm'
  have hval : vld s n t m = true → vld s' n' t' m' = true → ∃ x y a b e : Int, quoR s n t m s' n' t' m' = .tuple #[.agg (rvZ a b), .int .i64 e] ∧
      Gives Tryz.prog 133 #[.agg (iv s n), .agg (iv t' m')] (.agg (ivZ x)) ∧ Gives Tryz.prog 73 #[.agg (iv s n), .agg (iv t' m')] (.agg (ivZ x)) ∧
      Gives Tryz.prog 133 #[.agg (iv t m), .agg (iv s' n')] (.agg (ivZ y)) ∧ Gives Tryz.prog 73 #[.agg (iv t m), .agg (iv s' n')] (.agg (ivZ y)) ∧
      Gives Tryz.prog 62 #[.agg (ivZ x), .agg (ivZ y)] (.tuple #[.agg (rvZ a b), .int .i64 e]) ∧ Gives Tryz.prog 65 #[.agg (ivZ x), .agg (ivZ y)] (.tuple #[.agg (rvZ a b), .int .i64 e]) := by
    intro h1 h2
    obtain ⟨L, hL, hb⟩ := pw_room
    obtain ⟨-, -, -, u1, u2, -⟩ := vld_parts h1
    obtain ⟨-, -, -, u3, u4, -⟩ := vld_parts h2
    obtain ⟨⟨a1, a2⟩, -, a3⟩ := short_times hL s t' n m' (hb _ u1) (hb _ u4) hn hm'
    obtain ⟨⟨b1, b2⟩, -, b3⟩ := short_times hL t s' m n' (hb _ u2) (hb _ u3) hm hn'
    obtain ⟨a, b, e, h⟩ := mkZ_form (vz s n * vz t' m') (vz t m * vz s' n')
    obtain ⟨c1, c2⟩ := make_Z _ _ a3 b3
    rw [h] at c1 c2
    refine ⟨_, _, a, b, e, ?_, a1, a2, b1, b2, c1, c2⟩
    unfold quoR
    rw [h1, h2, if_pos (by rfl), h]
  obtain ⟨v1, hv1⟩ : ∃ b, b = vld s n t m := ⟨_, rfl⟩
  obtain ⟨v2, hv2⟩ : ∃ b, b = vld s' n' t' m' := ⟨_, rfl⟩
  have hno : v1 = false ∨ v2 = false → quoR s n t m s' n' t' m' = errV 20 := fun h => by
    unfold quoR; rw [← hv1, ← hv2, if_neg]
    rcases h with rfl | rfl <;> simp
  rw [← hv1] at p1 d1 hval
  rw [← hv2] at p2 d2 hval
  obtain ⟨V, hV⟩ : ∃ V, V = quoR s n t m s' n' t' m' := ⟨_, rfl⟩
  rw [← hV] at hval hno ⊢
  have main1 : tpQuo.den Tryz.prog (fun ρ' ret => ∀ β, ret.val.den (env ρ') β = V) [.bool s, .agg (mgk 32 n), .bool t, .agg (mgk 32 m), .bool s', .agg (mgk 32 n'), .bool t', .agg (mgk 32 m')] := by
    refine tree_ite ?_
    refine ev_zc [.bool v1] (pure_gives (p1)) ?_
    refine ev_nil ⟨fun h => tree_ite ?_, fun h => tree_leaf (ev_nil fun β => ?_)⟩
    · have h1 : v1 = true := by simpa [BTm.den, Tm.i, Tm.s, Tm.den, env, vInt, vBool, vStr, exI] using h
      refine ev_zc [.bool v2] (pure_gives (p2)) ?_
      refine ev_nil ⟨fun h => tree_leaf ?_, fun h => tree_leaf (ev_nil fun β => ?_)⟩
      · have h2 : v2 = true := by simpa [BTm.den, Tm.i, Tm.s, Tm.den, env, vInt, vBool, vStr, exI] using h
        obtain ⟨x, y, a, b, e, hr, a1, -, b1, -, c1, -⟩ := hval h1 h2
        refine ev_zc [.bool (decide (x < 0)), .agg (mgk 32 (x : Int).natAbs)] (pure_gives (a1)) ?_
        refine ev_zc [.bool (decide (y < 0)), .agg (mgk 32 (y : Int).natAbs)] (pure_gives (b1)) ?_
        refine ev_zc [.bool (decide (a < 0)), .agg (mgk 32 (a : Int).natAbs), .bool (decide (b < 0)), .agg (mgk 32 (b : Int).natAbs), .int .i64 e] (pure_gives (c1)) ?_
        refine ev_nil fun β => ?_
        rw [hr]; simp [BTm.den, Tm.i, Tm.s, Tm.den, env, vInt, vBool, vStr, exI, SW.den, SV.den, Cell.den, densP, Piece.den, denV, rowCells_mgk, iv_list, rv_list, ivZ, rvZ, mgl_agg]
      · have h2 : v2 = false := by simpa [BTm.den, Tm.i, Tm.s, Tm.den, env, vInt, vBool, vStr, exI] using h
        rw [hno (.inr h2), errV, ← zero_rat]; simp [BTm.den, Tm.i, Tm.s, Tm.den, env, vInt, vBool, vStr, exI, SW.den, SV.den, Cell.den, densP, Piece.den, denV, denT]
    · have h1 : v1 = false := by simpa [BTm.den, Tm.i, Tm.s, Tm.den, env, vInt, vBool, vStr, exI] using h
      rw [hno (.inl h1), errV, ← zero_rat]; simp [BTm.den, Tm.i, Tm.s, Tm.den, env, vInt, vBool, vStr, exI, SW.den, SV.den, Cell.den, densP, Piece.den, denV, denT]
  have main2 : tdQuo.den Tryz.prog (fun ρ' ret => ∀ β, ret.val.den (env ρ') β = V) [.bool s, .agg (mgk 32 n), .bool t, .agg (mgk 32 m), .bool s', .agg (mgk 32 n'), .bool t', .agg (mgk 32 m')] := by
    refine tree_ite ?_
    refine ev_zc [.bool v1] (pure_gives (d1)) ?_
    refine ev_nil ⟨fun h => tree_ite ?_, fun h => tree_leaf (ev_nil fun β => ?_)⟩
    · have h1 : v1 = true := by simpa [BTm.den, Tm.i, Tm.s, Tm.den, env, vInt, vBool, vStr, exI] using h
      refine ev_zc [.bool v2] (pure_gives (d2)) ?_
      refine ev_nil ⟨fun h => tree_leaf ?_, fun h => tree_leaf (ev_nil fun β => ?_)⟩
      · have h2 : v2 = true := by simpa [BTm.den, Tm.i, Tm.s, Tm.den, env, vInt, vBool, vStr, exI] using h
        obtain ⟨x, y, a, b, e, hr, -, a1, -, b1, -, c1⟩ := hval h1 h2
        refine ev_zc [.bool (decide (x < 0)), .agg (mgk 32 (x : Int).natAbs)] (pure_gives (a1)) ?_
        refine ev_zc [.bool (decide (y < 0)), .agg (mgk 32 (y : Int).natAbs)] (pure_gives (b1)) ?_
        refine ev_zc [.bool (decide (a < 0)), .agg (mgk 32 (a : Int).natAbs), .bool (decide (b < 0)), .agg (mgk 32 (b : Int).natAbs), .int .i64 e] (pure_gives (c1)) ?_
        refine ev_nil fun β => ?_
        rw [hr]; simp [BTm.den, Tm.i, Tm.s, Tm.den, env, vInt, vBool, vStr, exI, SW.den, SV.den, Cell.den, densP, Piece.den, denV, rowCells_mgk, iv_list, rv_list, ivZ, rvZ, mgl_agg]
      · have h2 : v2 = false := by simpa [BTm.den, Tm.i, Tm.s, Tm.den, env, vInt, vBool, vStr, exI] using h
        rw [hno (.inr h2), errV, ← zero_rat]; simp [BTm.den, Tm.i, Tm.s, Tm.den, env, vInt, vBool, vStr, exI, SW.den, SV.den, Cell.den, densP, Piece.den, denV, denT]
    · have h1 : v1 = false := by simpa [BTm.den, Tm.i, Tm.s, Tm.den, env, vInt, vBool, vStr, exI] using h
      rw [hno (.inl h1), errV, ← zero_rat]; simp [BTm.den, Tm.i, Tm.s, Tm.den, env, vInt, vBool, vStr, exI, SW.den, SV.den, Cell.den, densP, Piece.den, denV, denT]
  have h1 := pure_of plain [.bool s, .agg (mgk 32 n), .bool t, .agg (mgk 32 m), .bool s', .agg (mgk 32 n'), .bool t', .agg (mgk 32 m')] tpQuo_ok (by kernel_rfl) _ main1
  have h2 := pure_of plain [.bool s, .agg (mgk 32 n), .bool t, .agg (mgk 32 m), .bool s', .agg (mgk 32 n'), .bool t', .agg (mgk 32 m')] tdQuo_ok (by kernel_rfl) _ main2
  refine ⟨gives_pure ?_, gives_pure ?_⟩
  · simpa [ratR, BTm.den, Tm.i, Tm.s, Tm.den, env, vInt, vBool, vStr, exI, SW.den, SV.den, Cell.den, densP, Piece.den, denV, denT, rowCells_mgk, rv_list] using h1
  · simpa [ratR, BTm.den, Tm.i, Tm.s, Tm.den, env, vInt, vBool, vStr, exI, SW.den, SV.den, Cell.den, densP, Piece.den, denV, denT, rowCells_mgk, rv_list] using h2
end Go.Proofs.YtkiefjbfepjcbaaGreatDoor
end
section
namespace Go.Proofs.YtkiefjbfepjcbaaGreatDoor
open Go.RowKit Go.Proofs.YtkiefjbfepjcbaaGreatDoor.Sx
set_option linter.unusedSimpArgs false
set_option linter.unusedVariables false

theorem zero_num : (Value.bool false :: List.replicate 32 (.int .u32 0)).toArray = ivZ 0 := by
  rw [← mgl_zero, iv_list]; rfl
theorem small_lt (x : Int) (h : -9223372036854775808 ≤ x ∧ x ≤ 9223372036854775807) : x.natAbs < pw 32 := by
  have := pw_le (show 2 ≤ 32 by omega)
  rw [show pw 2 = 18446744073709551616 by decide] at this
  omega
theorem whole_p (z : Int) (h : -9223372036854775808 ≤ z ∧ z ≤ 9223372036854775807) : Gives Tryz.prog 88 #[.int .i64 z] (.agg (rvZ z 1)) := by
  have g1 := fromInt_any z h
  have o1 := fromInt_any 1 (by omega)
  have main1 : tpWhole.den Tryz.prog (fun ρ' ret => ∀ β, ret.val.den (env ρ') β = .agg (rvZ z 1)) [.int .i64 z] := by
    refine tree_leaf ?_
    refine ev_zc [.bool (decide (z < 0)), .agg (mgk 32 (z : Int).natAbs)] (pure_gives (g1)) ?_
    refine ev_call [.bool (decide (1 < 0)), .agg (mgk 32 (1 : Int).natAbs)] rfl rfl (pure_gives o1) (fun β => by simp [BTm.den, Tm.i, Tm.s, Tm.den, env, vInt, vBool, vStr, exI, SW.den, SV.den, Cell.den, densP, Piece.den, denV, denT]) (fun β => by simp [BTm.den, Tm.i, Tm.s, Tm.den, env, vInt, vBool, vStr, exI, SW.den, SV.den, Cell.den, densP, Piece.den, denV, denT, rowCells_mgk, iv_list, ivZ]) ?_
    refine ev_nil fun β => ?_
    simp [BTm.den, Tm.i, Tm.s, Tm.den, env, vInt, vBool, vStr, exI, SW.den, SV.den, Cell.den, densP, Piece.den, denV, rowCells_mgk, iv_list, rv_list, ivZ, rvZ, mgl_agg]
  have h1 := pure_of plain [.int .i64 z] tpWhole_ok (by kernel_rfl) _ main1
  refine gives_pure ?_
  simpa [intW, BTm.den, Tm.i, Tm.s, Tm.den, env, vInt, vBool, vStr, exI, SW.den, SV.den, Cell.den, densP, Piece.den, denV, denT] using h1
theorem whole_d (z : Int) (h : -9223372036854775808 ≤ z ∧ z ≤ 9223372036854775807) : Gives Tryz.prog 28 #[.int .i64 z] (.agg (rvZ z 1)) := by
  have g1 := rfromInt_any z h
  have o1 := rfromInt_any 1 (by omega)
  have main1 : tdWhole.den Tryz.prog (fun ρ' ret => ∀ β, ret.val.den (env ρ') β = .agg (rvZ z 1)) [.int .i64 z] := by
    refine tree_leaf ?_
    refine ev_zc [.bool (decide (z < 0)), .agg (mgk 32 (z : Int).natAbs)] (pure_gives (g1)) ?_
    refine ev_call [.bool (decide (1 < 0)), .agg (mgk 32 (1 : Int).natAbs)] rfl rfl (pure_gives o1) (fun β => by simp [BTm.den, Tm.i, Tm.s, Tm.den, env, vInt, vBool, vStr, exI, SW.den, SV.den, Cell.den, densP, Piece.den, denV, denT]) (fun β => by simp [BTm.den, Tm.i, Tm.s, Tm.den, env, vInt, vBool, vStr, exI, SW.den, SV.den, Cell.den, densP, Piece.den, denV, denT, rowCells_mgk, iv_list, ivZ]) ?_
    refine ev_nil fun β => ?_
    simp [BTm.den, Tm.i, Tm.s, Tm.den, env, vInt, vBool, vStr, exI, SW.den, SV.den, Cell.den, densP, Piece.den, denV, rowCells_mgk, iv_list, rv_list, ivZ, rvZ, mgl_agg]
  have h1 := pure_of plain [.int .i64 z] tdWhole_ok (by kernel_rfl) _ main1
  refine gives_pure ?_
  simpa [intW, BTm.den, Tm.i, Tm.s, Tm.den, env, vInt, vBool, vStr, exI, SW.den, SV.den, Cell.den, densP, Piece.den, denV, denT] using h1
theorem of_rat (n d : Int) (hn : -9223372036854775808 ≤ n ∧ n ≤ 9223372036854775807) (hd : -9223372036854775808 ≤ d ∧ d ≤ 9223372036854775807) :
    Gives Tryz.prog 68 #[.int .i64 n, .int .i64 d] (mkZ n d) ∧ Gives Tryz.prog 72 #[.int .i64 n, .int .i64 d] (mkZ n d) := by
  have n1 := fromInt_any n hn
  have n2 := rfromInt_any n hn
  have d1 := fromInt_any d hd
  have d2 := rfromInt_any d hd
  obtain ⟨m1, m2⟩ := make_Z n d (small_lt n hn) (small_lt d hd)
  obtain ⟨V, hV⟩ : ∃ V, V = mkZ n d := ⟨_, rfl⟩
  obtain ⟨a, b, e, h⟩ := mkZ_form n d
  rw [← hV] at m1 m2 h ⊢
  rw [h] at m1 m2
  have main1 : tpOf.den Tryz.prog (fun ρ' ret => ∀ β, ret.val.den (env ρ') β = V) [.int .i64 n, .int .i64 d] := by
    refine tree_leaf ?_
    refine ev_zc [.bool (decide (n < 0)), .agg (mgk 32 (n : Int).natAbs)] (pure_gives (n1)) ?_
    refine ev_zc [.bool (decide (d < 0)), .agg (mgk 32 (d : Int).natAbs)] (pure_gives (d1)) ?_
    refine ev_zc [.bool (decide (a < 0)), .agg (mgk 32 (a : Int).natAbs), .bool (decide (b < 0)), .agg (mgk 32 (b : Int).natAbs), .int .i64 e] (pure_gives (m1)) ?_
    refine ev_nil fun β => ?_
    rw [h]; simp [BTm.den, Tm.i, Tm.s, Tm.den, env, vInt, vBool, vStr, exI, SW.den, SV.den, Cell.den, densP, Piece.den, denV, rowCells_mgk, iv_list, rv_list, ivZ, rvZ, mgl_agg]
  have main2 : tdOf.den Tryz.prog (fun ρ' ret => ∀ β, ret.val.den (env ρ') β = V) [.int .i64 n, .int .i64 d] := by
    refine tree_leaf ?_
    refine ev_zc [.bool (decide (n < 0)), .agg (mgk 32 (n : Int).natAbs)] (pure_gives (n2)) ?_
    refine ev_zc [.bool (decide (d < 0)), .agg (mgk 32 (d : Int).natAbs)] (pure_gives (d2)) ?_
    refine ev_zc [.bool (decide (a < 0)), .agg (mgk 32 (a : Int).natAbs), .bool (decide (b < 0)), .agg (mgk 32 (b : Int).natAbs), .int .i64 e] (pure_gives (m2)) ?_
    refine ev_nil fun β => ?_
    rw [h]; simp [BTm.den, Tm.i, Tm.s, Tm.den, env, vInt, vBool, vStr, exI, SW.den, SV.den, Cell.den, densP, Piece.den, denV, rowCells_mgk, iv_list, rv_list, ivZ, rvZ, mgl_agg]
  have h1 := pure_of plain [.int .i64 n, .int .i64 d] tpOf_ok (by kernel_rfl) _ main1
  have h2 := pure_of plain [.int .i64 n, .int .i64 d] tdOf_ok (by kernel_rfl) _ main2
  refine ⟨gives_pure ?_, gives_pure ?_⟩
  · simpa [intW, BTm.den, Tm.i, Tm.s, Tm.den, env, vInt, vBool, vStr, exI, SW.den, SV.den, Cell.den, densP, Piece.den, denV, denT] using h1
  · simpa [intW, BTm.den, Tm.i, Tm.s, Tm.den, env, vInt, vBool, vStr, exI, SW.den, SV.den, Cell.den, densP, Piece.den, denV, denT] using h2
end Go.Proofs.YtkiefjbfepjcbaaGreatDoor
end
