/- The walk of make.Int: a canonical number of at most so many bits. -/
import Derived.Test.YthgfgihgpdamnaaTi
namespace Go.Proofs.Ythgfgihgpdamnaa
open Go.RowKit
set_option linter.unusedVariables false
theorem zero3 : ((Try.prog.info? 3).bind (·.zero)).isSome = true := by kernel_rfl
set_option maxRecDepth 100000 in
set_option maxHeartbeats 2000000 in
theorem make_int (b : Nat) (bits : Nat) (hbits : 1 ≤ bits ∧ bits ≤ 1024) : Draws Try.prog 42 #[.pointer (some ⟨b, 0, none⟩), .int .i64 ((bits : Nat) : Int)] b 67 [] (fun z : Int => .agg (ivZ z)) (fun z => z.natAbs < 2 ^ bits) := by
  refine Draws.of fun w r Lv k0 hS _ hs hk => ?_
  obtain ⟨B, hB⟩ : ∃ B : Int, ((bits : Nat) : Int) = B := ⟨_, rfl⟩
  have rB : 1 ≤ B ∧ B ≤ 1024 := by omega
  rw [hB]
  have hn1 : 1 ≤ B + 1 ∧ B + 1 ≤ 4611686018427387904 := by omega
  have hk1 : k0 + 1 ≤ 1152921504606846976 := by omega
  go_enter Try.func42, Try.ntmps42
  go_wp2_with (first | (refine L_alloc_agg (o := ⟨some 4, _, _, _, _, _⟩) hS rfl rfl ?_; refine ⟨_, zero25, ?_⟩; clear hS; intro b4 _ hS) | (refine L_alloc_agg (o := ⟨some 5, _, _, _, _, _⟩) hS rfl rfl ?_; refine ⟨_, zero25, ?_⟩; clear hS; intro b5 _ hS) | (go_at_call 41; (with_reducible refine Draws.use (next_any b _ hn1) hS (no_ro) (hs) (hk1) (fun _ => (.tail (.tail .head))) ?_); clear hS; intro x1 k1 _ hx1 ha1 hb1 hS) | (refine L_ints (t := 44) hS rfl rfl Try.underlying44 size3 zero3 (by decide) (by decide) ?_; refine ⟨[0, 1, 5, 20, 31, 32, 33, 64, 65, 100, 200, 400, B, B, x1], rfl, rfl, ?_⟩; clear hS; intro g _ hS) | (go_at_call 40; (with_reducible refine Draws.use (pick_any b g 15 3 [0, 1, 5, 20, 31, 32, 33, 64, 65, 100, 200, 400, B, B, x1] 15 rfl (by decide)) hS (ro_head hS 2 rfl) (hs) (by omega) (fun _ => (.tail (.tail (.tail .head)))) ?_); clear hS; intro x2 k2 _ hx2 ha2 hb2 hS) | (refine L_min3 (o := ⟨some 21, _, _, _, _, _⟩) rfl rfl ?_; obtain ⟨N, hN⟩ : ∃ N : Nat, min (min x2 B) 1024 = ((N : Nat) : Int) := ⟨(min (min x2 B) 1024).toNat, by (have hx2' : 0 ≤ x2 := by (simp at hx2; omega)); omega⟩; refine ⟨_, _, _, _, rfl, rfl, rfl, hN, ?_⟩))
  have hNb : N ≤ bits := by omega
  have hN1 : N ≤ 1024 := by omega
  clear hN hx2
  go_loopw [7] (fun i wr => ∃ k m kk : Nat, k ≤ 32 ∧ i = .int .i64 k ∧ Hid (m < 2 ^ (min (32 * k) N)) ∧ k0 ≤ kk ∧ kk ≤ k0 + 2 + 2 * k ∧ St (some b) w wr r [(g, .cells (ints [0, 1, 5, 20, 31, 32, 33, 64, 65, 100, 200, 400, B, B, x1]) 3), (b5, .cells (iv false m) 25), (b4, .cells (iv false 0) 25), (b, .cells (Tk Lv kk) 47)]) (fun i _ => 32 - (intOf i).toNat)
  case atStart => exact ⟨0, 0, k2, by omega, by go_num, Nat.pow_pos (by omega), by omega, by omega, hS⟩
  case round =>
    clear hS
    obtain ⟨k, m, kk, hk32, rfl, HM, hkk, hkk2, hS⟩ := hrel
    by_cases hlt : 32 * k < N
    · have hlt' : 32 * ((k : Nat) : Int) < ((N : Nat) : Int) := by omega
      go_wp2_with (first | (go_at_call 41; (with_reducible refine Draws.use (next_any b 4294967296 (by decide)) hS (no_ro) (hs) (by omega) (fun _ => (.tail (.tail (.tail .head)))) ?_); clear hS; intro x3 k3 _ hx3 ha3 hb3 hS))
      (with_reducible refine Draws.use (next_any b 9 (by decide)) hS no_ro hs (by omega) (fun _ => .tail (.tail (.tail .head))) ?_); clear hS; intro x4 k4 _ hx4 ha4 hb4 hS
      have hk' : k < 32 := by omega
      have HMk : Hid (m < 2 ^ (32 * k)) := by have := HM.out; rwa [show min (32 * k) N = 32 * k by omega] at this
      have HMp : Hid (m < pw k) := by show m < pw k; rw [pw_bits]; exact HMk.out
      clear HM
      by_cases hq0 : x4 = 0
      · have e0 : (x4 == 0) = true := by rw [hq0]; rfl
        clear hq0
        by_cases hle : N - 32 * k < 32
        · have hle' : ((N : Nat) : Int) - 32 * ((k : Nat) : Int) < 32 := by omega
          have HV : Hid (m + 0 % 2 ^ (N - 32 * k) * pw k < 2 ^ (min (32 * (k + 1)) N)) := fill_bits hlt HMk.out (by have := Nat.mod_le (0) (2 ^ (N - 32 * k)); omega) (fun _ => Nat.mod_lt _ (Nat.pow_pos (by omega)))
          go_wp2_with (first | (refine L_store (t := 22) hS rfl rfl ?_; refine ⟨_, _, iv false (m + 0 % 2 ^ (N - 32 * k) * pw k), _, _, (.tail .head), run_store_cell hS _ _ _ rfl _ _ rfl _ rfl _ _ _ (.tail .head) size22 rfl rfl ?_ ?_, ?_⟩; (focus (rw [iv_size]; omega)); (focus (exact iv_put' false (mask_and rfl (by omega) hle) hk' HMp.out (by have := Nat.mod_le (0) (2 ^ (N - 32 * k)); omega))); clear hS; intro _ hS))
          go_roundw
          case rel => exact ⟨k + 1, _, k4, by omega, by go_num, HV, by omega, by omega, hS⟩
          case measure => simp [intOf]; omega
        · have hle' : ¬ ((N : Nat) : Int) - 32 * ((k : Nat) : Int) < 32 := by omega
          have HV : Hid (m + 0 * pw k < 2 ^ (min (32 * (k + 1)) N)) := fill_bits hlt HMk.out (by omega) (fun h => absurd h hle)
          go_wp2_with (first | (refine L_store (t := 22) hS rfl rfl ?_; refine ⟨_, _, iv false (m + 0 * pw k), _, _, (.tail .head), run_store_cell hS _ _ _ rfl _ _ rfl _ rfl _ _ _ (.tail .head) size22 rfl rfl ?_ ?_, ?_⟩; (focus (rw [iv_size]; omega)); (focus (exact iv_put' false rfl hk' HMp.out (by omega))); clear hS; intro _ hS))
          go_roundw
          case rel => exact ⟨k + 1, _, k4, by omega, by go_num, HV, by omega, by omega, hS⟩
          case measure => simp [intOf]; omega
      · have e0 : (x4 == 0) = false := by simp; omega
        clear hq0
        by_cases hq1 : x4 = 1
        · have e1 : (x4 == 1) = true := by rw [hq1]; rfl
          clear hq1
          by_cases hle : N - 32 * k < 32
          · have hle' : ((N : Nat) : Int) - 32 * ((k : Nat) : Int) < 32 := by omega
            have HV : Hid (m + 4294967295 % 2 ^ (N - 32 * k) * pw k < 2 ^ (min (32 * (k + 1)) N)) := fill_bits hlt HMk.out (by have := Nat.mod_le (4294967295) (2 ^ (N - 32 * k)); omega) (fun _ => Nat.mod_lt _ (Nat.pow_pos (by omega)))
            go_wp2_with (first | (refine L_store (t := 22) hS rfl rfl ?_; refine ⟨_, _, iv false (m + 4294967295 % 2 ^ (N - 32 * k) * pw k), _, _, (.tail .head), run_store_cell hS _ _ _ rfl _ _ rfl _ rfl _ _ _ (.tail .head) size22 rfl rfl ?_ ?_, ?_⟩; (focus (rw [iv_size]; omega)); (focus (exact iv_put' false (mask_and rfl (by omega) hle) hk' HMp.out (by have := Nat.mod_le (4294967295) (2 ^ (N - 32 * k)); omega))); clear hS; intro _ hS))
            go_roundw
            case rel => exact ⟨k + 1, _, k4, by omega, by go_num, HV, by omega, by omega, hS⟩
            case measure => simp [intOf]; omega
          · have hle' : ¬ ((N : Nat) : Int) - 32 * ((k : Nat) : Int) < 32 := by omega
            have HV : Hid (m + 4294967295 * pw k < 2 ^ (min (32 * (k + 1)) N)) := fill_bits hlt HMk.out (by omega) (fun h => absurd h hle)
            go_wp2_with (first | (refine L_store (t := 22) hS rfl rfl ?_; refine ⟨_, _, iv false (m + 4294967295 * pw k), _, _, (.tail .head), run_store_cell hS _ _ _ rfl _ _ rfl _ rfl _ _ _ (.tail .head) size22 rfl rfl ?_ ?_, ?_⟩; (focus (rw [iv_size]; omega)); (focus (exact iv_put' false rfl hk' HMp.out (by omega))); clear hS; intro _ hS))
            go_roundw
            case rel => exact ⟨k + 1, _, k4, by omega, by go_num, HV, by omega, by omega, hS⟩
            case measure => simp [intOf]; omega
        · have e1 : (x4 == 1) = false := by simp; omega
          clear hq1
          obtain ⟨v3, rfl⟩ : ∃ v3 : Nat, x3 = ((v3 : Nat) : Int) := ⟨x3.toNat, by omega⟩
          by_cases hle : N - 32 * k < 32
          · have hle' : ((N : Nat) : Int) - 32 * ((k : Nat) : Int) < 32 := by omega
            have HV : Hid (m + v3 % 2 ^ (N - 32 * k) * pw k < 2 ^ (min (32 * (k + 1)) N)) := fill_bits hlt HMk.out (by have := Nat.mod_le (v3) (2 ^ (N - 32 * k)); omega) (fun _ => Nat.mod_lt _ (Nat.pow_pos (by omega)))
            go_wp2_with (first | (refine L_store (t := 22) hS rfl rfl ?_; refine ⟨_, _, iv false (m + v3 % 2 ^ (N - 32 * k) * pw k), _, _, (.tail .head), run_store_cell hS _ _ _ rfl _ _ rfl _ rfl _ _ _ (.tail .head) size22 rfl rfl ?_ ?_, ?_⟩; (focus (rw [iv_size]; omega)); (focus (exact iv_put' false (mask_and rfl (by omega) hle) hk' HMp.out (by have := Nat.mod_le (v3) (2 ^ (N - 32 * k)); omega))); clear hS; intro _ hS))
            go_roundw
            case rel => exact ⟨k + 1, _, k4, by omega, by go_num, HV, by omega, by omega, hS⟩
            case measure => simp [intOf]; omega
          · have hle' : ¬ ((N : Nat) : Int) - 32 * ((k : Nat) : Int) < 32 := by omega
            have HV : Hid (m + v3 * pw k < 2 ^ (min (32 * (k + 1)) N)) := fill_bits hlt HMk.out (by omega) (fun h => absurd h hle)
            go_wp2_with (first | (refine L_store (t := 22) hS rfl rfl ?_; refine ⟨_, _, iv false (m + v3 * pw k), _, _, (.tail .head), run_store_cell hS _ _ _ rfl _ _ rfl _ rfl _ _ _ (.tail .head) size22 rfl rfl ?_ ?_, ?_⟩; (focus (rw [iv_size]; omega)); (focus (exact iv_put' false rfl hk' HMp.out (by omega))); clear hS; intro _ hS))
            go_roundw
            case rel => exact ⟨k + 1, _, k4, by omega, by go_num, HV, by omega, by omega, hS⟩
            case measure => simp [intOf]; omega
    · have hlt' : ¬ 32 * ((k : Nat) : Int) < ((N : Nat) : Int) := by omega
      have HB : Hid (m < 2 ^ bits) := by
        have h1 := HM.out
        have h2 : 2 ^ (min (32 * k) N) ≤ 2 ^ bits := Nat.pow_le_pow_right (by omega) (by omega)
        show m < 2 ^ bits
        omega
      have HMp : Hid (m < pw 32) := by
        have h1 := HM.out
        have h2 : 2 ^ (min (32 * k) N) ≤ 2 ^ (32 * k) := Nat.pow_le_pow_right (by omega) (by omega)
        rw [← pw_bits] at h2
        exact Nat.lt_of_lt_of_le h1 (Nat.le_trans h2 (pw_le hk32))
      clear HM
      go_wp2_with (first | (go_at_call 43; fail))
      (with_reducible refine Draws.use (chance_any b 1 3 (by decide)) hS no_ro hs (by omega) (fun _ => .tail (.tail (.tail .head))) ?_); clear hS; intro x5 k5 _ hx5 ha5 hb5 hS
      cases x5
      · go_wp2_with (first | (refine L_store (t := 4) hS rfl rfl ?_; refine ⟨_, _, iv false (m), _, _, (.tail .head), run_store_cell hS _ _ _ rfl _ _ rfl _ rfl _ _ _ (.tail .head) size4 rfl rfl ?_ ?_, ?_⟩; (focus (rw [iv_size]; omega)); (focus (exact iv_neg_put _ _ _)); clear hS; intro _ hS) | (refine L_load (t := 25) (o := ⟨some 61, _, _, _, _, _⟩) rfl rfl ?_; refine ⟨_, run_load_row hS _ _ rfl _ rfl _ _ (.inl (.tail _ (.head _))) _ Try.underlying25 rfl (size25_iv _ _), ?_⟩) | (refine L_store (t := 25) hS rfl rfl ?_; refine ⟨_, _, _, _, _, (.tail (.tail .head)), run_store_row hS _ _ _ rfl _ rfl _ _ rfl _ (.tail (.tail .head)) (size25_iv _ _) (iv_sizes _ _ _ _) (oneCells_iv _ _), ?_⟩; clear hS; intro _ hS))
        (try simp only [Exit.inBlock, Exit.then])
        refine bodyPost_ret (res_cell rfl hS _ _ _ _ (.inl (.tail _ (.tail _ (.head _)))) rfl _ Try.underlying25 rfl (size25_iv _ _)) rfl ?_
        exact ⟨vz false m, k5, _, by rw [ivZ_vz, Bool.false_and], by rw [vz_abs]; exact HB.out, by omega, by omega, hS, .tail _ (.tail _ (.tail _ (.head _)))⟩
      · have GS := rsign_any false m HMp.out
        by_cases hm0 : m = 0
        · have hg0 : (sgn (vz false m) != 0) = false := by rw [hm0]; rfl
          clear hm0
          go_wp2_with (first | (refine L_load (t := 25) (o := ⟨some 56, _, _, _, _, _⟩) rfl rfl ?_; refine ⟨_, run_load_row hS _ _ rfl _ rfl _ _ (.inl (.tail _ (.head _))) _ Try.underlying25 rfl (size25_iv _ _), ?_⟩) | (go_at_call 32; (with_reducible refine Gives.use (GS) hS ?_); clear hS; intro _ hS) | (refine L_store (t := 4) hS rfl rfl ?_; refine ⟨_, _, iv false (m), _, _, (.tail .head), run_store_cell hS _ _ _ rfl _ _ rfl _ rfl _ _ _ (.tail .head) size4 rfl rfl ?_ ?_, ?_⟩; (focus (rw [iv_size]; omega)); (focus (exact iv_neg_put _ _ _)); clear hS; intro _ hS) | (refine L_load (t := 25) (o := ⟨some 61, _, _, _, _, _⟩) rfl rfl ?_; refine ⟨_, run_load_row hS _ _ rfl _ rfl _ _ (.inl (.tail _ (.head _))) _ Try.underlying25 rfl (size25_iv _ _), ?_⟩) | (refine L_store (t := 25) hS rfl rfl ?_; refine ⟨_, _, _, _, _, (.tail (.tail .head)), run_store_row hS _ _ _ rfl _ rfl _ _ rfl _ (.tail (.tail .head)) (size25_iv _ _) (iv_sizes _ _ _ _) (oneCells_iv _ _), ?_⟩; clear hS; intro _ hS))
          (try simp only [Exit.inBlock, Exit.then])
          refine bodyPost_ret (res_cell rfl hS _ _ _ _ (.inl (.tail _ (.tail _ (.head _)))) rfl _ Try.underlying25 rfl (size25_iv _ _)) rfl ?_
          exact ⟨vz false m, k5, _, by rw [ivZ_vz, Bool.false_and], by rw [vz_abs]; exact HB.out, by omega, by omega, hS, .tail _ (.tail _ (.tail _ (.head _)))⟩
        · have hg0 : (sgn (vz false m) != 0) = true := by rw [sgn_vz_false hm0]; rfl
          have hz := isz_false hm0
          clear hm0
          go_wp2_with (first | (refine L_load (t := 25) (o := ⟨some 56, _, _, _, _, _⟩) rfl rfl ?_; refine ⟨_, run_load_row hS _ _ rfl _ rfl _ _ (.inl (.tail _ (.head _))) _ Try.underlying25 rfl (size25_iv _ _), ?_⟩) | (go_at_call 32; (with_reducible refine Gives.use (GS) hS ?_); clear hS; intro _ hS) | (refine L_store (t := 4) hS rfl rfl ?_; refine ⟨_, _, iv true (m), _, _, (.tail .head), run_store_cell hS _ _ _ rfl _ _ rfl _ rfl _ _ _ (.tail .head) size4 rfl rfl ?_ ?_, ?_⟩; (focus (rw [iv_size]; omega)); (focus (exact iv_neg_put _ _ _)); clear hS; intro _ hS) | (refine L_load (t := 25) (o := ⟨some 61, _, _, _, _, _⟩) rfl rfl ?_; refine ⟨_, run_load_row hS _ _ rfl _ rfl _ _ (.inl (.tail _ (.head _))) _ Try.underlying25 rfl (size25_iv _ _), ?_⟩) | (refine L_store (t := 25) hS rfl rfl ?_; refine ⟨_, _, _, _, _, (.tail (.tail .head)), run_store_row hS _ _ _ rfl _ rfl _ _ rfl _ (.tail (.tail .head)) (size25_iv _ _) (iv_sizes _ _ _ _) (oneCells_iv _ _), ?_⟩; clear hS; intro _ hS))
          (try simp only [Exit.inBlock, Exit.then])
          refine bodyPost_ret (res_cell rfl hS _ _ _ _ (.inl (.tail _ (.tail _ (.head _)))) rfl _ Try.underlying25 rfl (size25_iv _ _)) rfl ?_
          exact ⟨vz true m, k5, _, by rw [ivZ_vz, hz]; rfl, by rw [vz_abs]; exact HB.out, by omega, by omega, hS, .tail _ (.tail _ (.tail _ (.head _)))⟩
end Go.Proofs.Ythgfgihgpdamnaa
