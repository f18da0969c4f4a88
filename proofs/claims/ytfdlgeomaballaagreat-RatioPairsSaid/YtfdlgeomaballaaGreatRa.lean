/- The walks of the document's own answers: the number of limbs, zero, the sign. -/
import Derived.Test.YtfdlgeomaballaaGreatWd
namespace Go.Proofs.YtfdlgeomaballaaGreat
open Go.RowKit

set_option maxHeartbeats 400000 in
theorem rlimbs_any (n : Nat) : Gives Tryz.prog 73 #[.agg (mgk 32 n)] (.int .i64 ((nl n : Nat) : Int)) := by
  intro w
  have hS := St.start w
  go_enter Tryz.func73, Tryz.ntmps73
  go_wp2_with (first | (refine L_box_agg hS rfl rfl ?_; refine ⟨_, rfl, ?_⟩; clear hS; intro _ _ hS))
  rename_i b1 w1 _ _
  go_loopw [3] (fun i wr => ∃ k : Nat, k ≤ 32 ∧ i = .int .i64 k ∧ Hid (nl n = nlG k n) ∧ St none w wr [] [(b1, .cells (mgk 32 n) 27)]) (fun i _ => (intOf i).toNat)
  case atStart => exact ⟨32, by omega, by go_num, (rfl : nl n = nlG 32 n), hS⟩
  case round =>
    clear hS
    obtain ⟨k, hk, rfl, HE, hS⟩ := hrel
    rcases k with _ | j
    · go_wp2
      go_ret
      exact ⟨by rw [HE.out]; rfl, hS.below⟩
    · have hj : (j : Int) < 32 := by omega
      have ej : (((j + 1 : Nat) : Int) - 1) = (j : Int) := by omega
      have hpos : (0 : Int) < ((j + 1 : Nat) : Int) := by omega
      by_cases he : limb n j = 0
      · have HQ : Hid (nl n = nlG j n) := HE.out.trans (nlG_zero he)
        have hb1 : (((limb n j : Nat) : Int) == 0) = true := by rw [he]; rfl
        clear he
        go_wp2_with (first | (refine L_load (t := 26) rfl rfl ?_; refine ⟨_, run_load_cell hS _ _ rfl _ _ rfl _ _ (.inl (.head _)) _ Tryz.underlying26 rfl _ (mgk_get' (by omega)), ?_⟩))
        go_roundw
        case rel => exact ⟨j, by omega, by go_num, HQ, hS⟩
        case measure => simp [intOf]
      · have HQ : Hid (nl n = j + 1) := HE.out.trans (nlG_not he)
        have hb1 : (((limb n j : Nat) : Int) == 0) = false := by simp; omega
        clear he
        go_wp2_with (first | (refine L_load (t := 26) rfl rfl ?_; refine ⟨_, run_load_cell hS _ _ rfl _ _ rfl _ _ (.inl (.head _)) _ Tryz.underlying26 rfl _ (mgk_get' (by omega)), ?_⟩))
        go_ret
        exact ⟨by rw [HQ.out]; rfl, hS.below⟩

theorem nl_zero_iff {n : Nat} (hn : n < pw 32) : nl n = 0 ↔ n = 0 := by
  constructor
  · intro h
    have := nl_lt hn
    rw [h, pw_zero] at this; omega
  · rintro rfl
    rcases nl_top 0 with h | h
    · exact h
    · exact absurd (limb_zero _) h

set_option maxHeartbeats 400000 in
theorem rzero_any (n : Nat) (hn : n < pw 32) : Gives Tryz.prog 45 #[.agg (mgk 32 n)] (.bool (isz n)) := by
  intro w
  have hS := St.start w
  have h0 : (((nl n : Nat) : Int) == 0) = isz n := by
    by_cases h : n = 0
    · rw [isz_true h, (nl_zero_iff hn).2 h]; rfl
    · have := mt (nl_zero_iff hn).1 h
      rw [isz_false h]; simp; omega
  clear hn
  obtain ⟨b, hb⟩ : ∃ b, isz n = b := ⟨_, rfl⟩
  rw [hb] at h0 ⊢
  go_enter Tryz.func45, Tryz.ntmps45
  go_wp2_with (first | (refine L_box_agg hS rfl rfl ?_; refine ⟨_, rfl, ?_⟩; clear hS; intro _ _ hS) | (refine L_load (t := 27) rfl rfl ?_; refine ⟨_, run_load_row hS _ _ rfl _ rfl _ _ (.inl (.head _)) _ Tryz.underlying27 rfl (size27_mg _), ?_⟩) | (go_at_call 73; (with_reducible refine Gives.use (rlimbs_any _) hS ?_); clear hS; intro _ hS))
  go_ret
  exact ⟨rfl, hS.below⟩

set_option maxHeartbeats 400000 in
theorem rsign_any (s : Bool) (n : Nat) (hn : n < pw 32) : Gives Tryz.prog 15 #[.agg (iv s n)] (.int .i64 (sgn (vz s n))) := by
  intro w
  have hS := St.start w
  have HN := Lib.hid hn
  clear hn
  by_cases h0 : n = 0
  · have hz := isz_true h0
    have HV : Hid (sgn (vz s n) = 0) := by subst h0; exact sgn_vz_zero s
    clear h0
    go_enter Tryz.func15, Tryz.ntmps15
    go_wp2_with (first | (refine L_box_agg hS rfl rfl ?_; refine ⟨_, rfl, ?_⟩; clear hS; intro _ _ hS) | (refine L_load (t := 27) rfl rfl ?_; refine ⟨_, run_load_mid hS _ _ rfl _ _ rfl _ _ (.inl (.head _)) _ Tryz.underlying27 rfl (mgk 32 _) (size27_mg _) (fun k _ => iv_mag _ _ k), ?_⟩) | (go_at_call 45; (with_reducible refine Gives.use (rzero_any _ HN.out) hS ?_); clear hS; intro _ hS))
    go_ret
    exact ⟨by rw [HV.out]; rfl, hS.below⟩
  · have hz := isz_false h0
    cases s
    · have HV := Lib.hid (sgn_vz_false h0)
      clear h0
      go_enter Tryz.func15, Tryz.ntmps15
      go_wp2_with (first | (refine L_box_agg hS rfl rfl ?_; refine ⟨_, rfl, ?_⟩; clear hS; intro _ _ hS) | (refine L_load (t := 27) rfl rfl ?_; refine ⟨_, run_load_mid hS _ _ rfl _ _ rfl _ _ (.inl (.head _)) _ Tryz.underlying27 rfl (mgk 32 _) (size27_mg _) (fun k _ => iv_mag _ _ k), ?_⟩) | (refine L_load (t := 4) rfl rfl ?_; refine ⟨_, run_load_cell hS _ _ rfl _ _ rfl _ _ (.inl (.head _)) _ Tryz.underlying4 rfl _ (iv_neg _ _), ?_⟩) | (go_at_call 45; (with_reducible refine Gives.use (rzero_any _ HN.out) hS ?_); clear hS; intro _ hS))
      go_ret
      exact ⟨by rw [HV.out]; rfl, hS.below⟩
    · have HV := Lib.hid (sgn_vz_true h0)
      clear h0
      go_enter Tryz.func15, Tryz.ntmps15
      go_wp2_with (first | (refine L_box_agg hS rfl rfl ?_; refine ⟨_, rfl, ?_⟩; clear hS; intro _ _ hS) | (refine L_load (t := 27) rfl rfl ?_; refine ⟨_, run_load_mid hS _ _ rfl _ _ rfl _ _ (.inl (.head _)) _ Tryz.underlying27 rfl (mgk 32 _) (size27_mg _) (fun k _ => iv_mag _ _ k), ?_⟩) | (refine L_load (t := 4) rfl rfl ?_; refine ⟨_, run_load_cell hS _ _ rfl _ _ rfl _ _ (.inl (.head _)) _ Tryz.underlying4 rfl _ (iv_neg _ _), ?_⟩) | (go_at_call 45; (with_reducible refine Gives.use (rzero_any _ HN.out) hS ?_); clear hS; intro _ hS))
      go_ret
      exact ⟨by rw [HV.out]; rfl, hS.below⟩
end Go.Proofs.YtfdlgeomaballaaGreat
