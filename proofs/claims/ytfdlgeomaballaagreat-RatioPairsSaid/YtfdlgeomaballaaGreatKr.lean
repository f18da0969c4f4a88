/- The walk of shiftRight. -/
import Derived.Test.YtfdlgeomaballaaGreatKs
import Derived.Test.YtfdlgeomaballaaGreatWf
namespace Go.Proofs.YtfdlgeomaballaaGreat
open Go.RowKit
set_option linter.unusedVariables false

theorem shr_limb {N p q k : Nat} (hpq : p * q = 4294967296) (hp : 0 < p) : limb (N / p) k = (limb N (k + 1) * 4294967296 + limb N k) / p % 4294967296 := by
  obtain ⟨M, hM⟩ : ∃ M, N / pw k = M := ⟨_, rfl⟩
  have e1 : limb N k = M % 4294967296 := by unfold limb; rw [hM]
  have e2 : limb N (k + 1) = M / 4294967296 % 4294967296 := by unfold limb; rw [pw_succ, ← Nat.div_div_eq_div_mul, hM]
  have e3 : N / p / pw k = M / p := by rw [Nat.div_div_eq_div_mul, Nat.mul_comm, ← Nat.div_div_eq_div_mul, hM]
  unfold limb at e1 ⊢
  rw [e3]
  obtain ⟨V, hV⟩ : ∃ V, N / pw (k + 1) % 4294967296 * 4294967296 + N / pw k % 4294967296 = V := ⟨_, rfl⟩
  rw [hV]
  have hMV : M = V + p * (q * (4294967296 * (M / 4294967296 / 4294967296))) := by
    unfold limb at e2
    rw [e2, e1] at hV
    have : p * (q * (4294967296 * (M / 4294967296 / 4294967296))) = 4294967296 * (4294967296 * (M / 4294967296 / 4294967296)) := by rw [← Nat.mul_assoc, hpq]
    omega
  have h1 : M / p = V / p + 4294967296 * (q * (M / 4294967296 / 4294967296)) := by
    have : M / p = (V + p * (q * (4294967296 * (M / 4294967296 / 4294967296)))) / p := by rw [← hMV]
    rw [this, Nat.add_mul_div_left _ _ hp]
    congr 1
    ac_rfl
  rw [h1, Nat.add_mul_mod_self_left]

set_option maxRecDepth 10000 in
set_option maxHeartbeats 1000000 in
theorem shiftRight_core (N s p q : Nat) (hN : N / p < pw 32) (hs : s < 32) (hp : 2 ^ s = p) (hpp : 0 < p) (hpq : p * q = 4294967296) : Gives Tryz.prog 104 #[.agg (mgk 33 N), .int .i64 ((s : Nat) : Int)] (.agg (mgk 32 (N / p))) := by
  intro w
  have hS := St.start w
  have HN := Lib.hid hN
  have HP := Lib.hid hpp
  have HQ := Lib.hid hpq
  have hpz : (2 : Int) ^ s = ((p : Nat) : Int) := by rw [← hp]; simp
  clear hN hp hpq hpp
  go_enter Tryz.func104, Tryz.ntmps104
  go_wp2_with (first | (refine L_box_agg (o := ⟨some 2, _, _, _, _, _⟩) hS rfl rfl ?_; refine ⟨_, rfl, ?_⟩; clear hS; intro b2 _ hS) | (refine L_alloc_agg (o := ⟨some 4, _, _, _, _, _⟩) hS rfl rfl ?_; refine ⟨_, zero74, ?_⟩; clear hS; intro b4 _ hS) | (refine L_alloc_agg (o := ⟨some 5, _, _, _, _, _⟩) hS rfl rfl ?_; refine ⟨_, zero74, ?_⟩; clear hS; intro b5 _ hS))
  go_loopw [8] (fun i wr => ∃ k : Nat, k ≤ 32 ∧ i = .int .i64 k ∧ St none w wr [] [(b5, .cells (mgk 32 (N / p % pw k)) 74), (b4, .cells (mgk 32 0) 74), (b2, .cells (mgk 33 N) 105)]) (fun i _ => 32 - (intOf i).toNat)
  case atStart => exact ⟨0, by omega, rfl, by rw [mod_pw_zero]; exact hS⟩
  case round =>
    clear hS
    obtain ⟨k, hk, rfl, hS⟩ := hrel
    by_cases hlt : k < 32
    · have hk1 : ((k : Nat) : Int) + 1 < 33 := by omega
      have hk0 : ((k : Nat) : Int) < 33 := by omega
      have hx := limb_lt N k
      have hy := limb_lt N (k + 1)
      have hor := or_limb _ _ hy hx
      obtain ⟨V, hV⟩ : ∃ V, limb N (k + 1) * 4294967296 + limb N k = V := ⟨_, rfl⟩
      have HL := Lib.hid (shr_limb (N := N) (k := k) HQ.out HP.out)
      rw [hV] at hor HL
      have hVb : V ≤ 18446744073709551615 := by omega
      obtain ⟨R, hR⟩ : ∃ R, V / p = R := ⟨_, rfl⟩
      have hRZ : ((V : Nat) : Int) / ((p : Nat) : Int) = ((R : Nat) : Int) := by rw [← hR]; simp
      have hRb : R ≤ 18446744073709551615 := by have := Nat.div_le_self V p; omega
      rw [hR] at HL
      have HS : Hid (N / p % pw k < pw k) := Nat.mod_lt _ (pw_pos k)
      have HE : Hid (N / p % pw k + R % 4294967296 * pw k = N / p % pw (k + 1)) := by
        show _ = _
        rw [mod_pw, HL.out]
      clear hV hR
      go_wp2_with (fail)
      (try simp only [Act.put]); (try simp only [List.setIfInBounds_toArray, List.set_cons_succ, List.set_cons_zero]); refine wp_region_w0 hS (by kernel_rfl) (by kernel_rfl) ?_
      repeat (first
        | ((with_reducible refine S_slot 14 ?_); (refine S_load (t := 26) rfl rfl rfl rfl ?_; refine ⟨_, fun _ hS' => run_load_cell hS' _ _ rfl _ _ rfl _ _ (.inl (.tail _ (.tail _ (.head _)))) _ Tryz.underlying26 rfl _ (mgk_get' (by omega)), ?_⟩; simp only [Act.put, List.setIfInBounds_toArray, List.set_cons_succ, List.set_cons_zero]))
        | ((with_reducible refine S_slot 19 ?_); (refine S_load (t := 26) rfl rfl rfl rfl ?_; refine ⟨_, fun _ hS' => run_load_cell hS' _ _ rfl _ _ rfl _ _ (.inl (.tail _ (.tail _ (.head _)))) _ Tryz.underlying26 rfl _ (mgk_get' (by omega)), ?_⟩; simp only [Act.put, List.setIfInBounds_toArray, List.set_cons_succ, List.set_cons_zero]))
        | (refine S_run rfl rfl ?_; apply Exists.intro; refine ⟨fun _ => ?_, ?_⟩; (focus (go_simp; (try go_bits); exact rfl)); simp only [Act.put, List.setIfInBounds_toArray, List.set_cons_succ, List.set_cons_zero]))
      refine S_end0 ?_; clear hS; intro _ hS
      go_wp2_with (first | ((with_reducible refine L_storeAt 27 ?_); (refine L_store (t := 26) hS rfl rfl ?_; refine ⟨_, _, mgk 32 (N / p % pw (k + 1)), _, _, (.head), run_store_cell hS _ _ _ rfl _ _ rfl _ rfl _ _ _ (.head) size26 rfl rfl ?_ ?_, ?_⟩; (focus (rw [mgk_size]; omega)); (focus (exact (mgk_fill' _ (R % 4294967296) rfl HS.out (Nat.mod_lt _ (by omega))).trans (congrArg (mgk 32) HE.out))); clear hS; intro _ hS)))
      go_roundw
      case rel => exact ⟨k + 1, by omega, by go_num, hS⟩
      case measure => simp [intOf]; omega
    · have ek : k = 32 := by omega
      subst ek
      go_wp2_with (first | ((with_reducible refine L_slot 29 ?_); (refine L_load (t := 74) rfl rfl ?_; refine ⟨_, run_load_row hS _ _ rfl _ rfl _ _ (.inl (.head _)) _ Tryz.underlying74 rfl (size74_mg _), ?_⟩)) | ((with_reducible refine L_storeAt 4 ?_); (refine L_store (t := 74) hS rfl rfl ?_; refine ⟨_, _, _, _, _, (.tail .head), run_store_row hS _ _ _ rfl _ rfl _ _ rfl _ (.tail .head) (size74_mg _) (mg_sizes _ _ _) (oneCells _ _), ?_⟩; clear hS; intro _ hS)))
      (try simp only [Exit.inBlock, Exit.then]); refine bodyPost_ret (res_cell rfl hS _ _ _ _ (.inl (.tail _ (.head _))) rfl _ Tryz.underlying74 rfl (size74_mg _)) rfl ⟨?_, hS.below⟩
      rw [Nat.mod_eq_of_lt HN.out]
theorem shiftRight_any (N s : Nat) (hN : N / 2 ^ s < pw 32) (hs : s < 32) : Gives Tryz.prog 104 #[.agg (mgk 33 N), .int .i64 ((s : Nat) : Int)] (.agg (mgk 32 (N / 2 ^ s))) :=
  shiftRight_core N s (2 ^ s) (2 ^ (32 - s)) hN hs rfl (Nat.pow_pos (by omega)) (by rw [← Nat.pow_add, show s + (32 - s) = 32 by omega])
end Go.Proofs.YtfdlgeomaballaaGreat
