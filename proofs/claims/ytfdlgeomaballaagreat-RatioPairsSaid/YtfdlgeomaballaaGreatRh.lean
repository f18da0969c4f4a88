/- The walk of the document's own Bits. -/
import Derived.Test.YtfdlgeomaballaaGreatRg
import Derived.Test.YtfdlgeomaballaaGreatWi
import Derived.Test.YtfdlgeomaballaaGreatIx
namespace Go.Proofs.YtfdlgeomaballaaGreat
open Go.RowKit
set_option linter.unusedVariables false

theorem bl_half {v : Nat} (h : v ≠ 0) : bl v = bl (v / 2) + 1 := by
  by_cases h2 : v / 2 = 0
  · have : v = 1 := by omega
    subst this
    rw [h2, bl_zero]
    exact bl_is (k := 0) (by omega) (by omega)
  · have := bl_shift (n := v) (k := 1) (by simpa using h2)
    rw [show v / 2 ^ 1 = v / 2 by simp] at this
    omega
set_option maxRecDepth 10000 in
set_option maxHeartbeats 1000000 in
theorem rbits_loop (s : Bool) (n kk j v0 Bn : Nat) (HI : Hid ((iv s n)[1 + j]? = some (.int .u32 ((v0 : Nat) : Int)))) (hvb : v0 < 4294967296) (HB : Hid (Bn = j * 32 + bl v0)) (htop : Bn ≤ 1024) (hj : j ≤ 31) (hk0 : (((kk : Nat) : Int) == 0) = false) (hk1 : ((kk : Nat) : Int) - 1 = ((j : Nat) : Int))
    (GL : Gives Tryz.prog 73 #[.agg (mgk 32 n)] (.int .i64 ((kk : Nat) : Int))) : Gives Tryz.prog 52 #[.agg (iv s n)] (.int .i64 ((Bn : Nat) : Int)) := by
  intro w
  have hS := St.start w
  go_enter Tryz.func52, Tryz.ntmps52
  go_wp2_with (first | ((with_reducible refine L_slot 1 ?_); (refine L_box_agg (o := ⟨some 1, _, _, _, _, _⟩) hS rfl rfl ?_; refine ⟨_, rfl, ?_⟩; clear hS; intro b1 _ hS)) | ((with_reducible refine L_slot 7 ?_); (refine L_load (t := 27) rfl rfl ?_; refine ⟨_, run_load_mid hS _ _ rfl _ _ rfl _ _ (.inl (.head _)) _ Tryz.underlying27 rfl (mgk 32 _) (size27_mg _) (fun k _ => iv_mag _ _ k), ?_⟩)) | (go_at_call 73; (with_reducible refine Gives.use (GL) hS ?_); clear hS; intro _ hS) | ((with_reducible refine L_slot 18 ?_); (refine L_load (t := 26) rfl rfl ?_; refine ⟨_, run_load_cell hS _ _ rfl _ _ rfl _ _ (.inl (.head _)) _ Tryz.underlying26 rfl _ (HI.out), ?_⟩)))
  go_loopw [4, 5] (fun kv vv wr => ∃ k v : Nat, kv = .int .i64 ((k : Nat) : Int) ∧ vv = .int .u32 ((v : Nat) : Int) ∧ v < 4294967296 ∧ k ≤ 1024 ∧ Hid (k + bl v = Bn) ∧ St none w wr [] [(b1, .cells (iv s n) 29)]) (fun _ vv _ => (intOf vv).toNat)
  case atStart => exact ⟨j * 32, v0, congrArg (Value.int .i64) (by omega), rfl, hvb, by omega, HB.out.symm, hS⟩
  case round =>
    clear hS
    obtain ⟨k, v, rfl, rfl, hv, hk, HK, hS⟩ := hrel
    by_cases h0 : v = 0
    · subst h0
      have HE : Hid (k = Bn) := by have := HK.out; rw [bl_zero] at this; exact this
      go_wp2_with (fail)
      go_ret
      exact ⟨by rw [← HE.out]; rfl, hS.below⟩
    · have hp : (0 : Int) < ((v : Nat) : Int) := by omega
      have hp2 : 0 < v := by omega
      have hp3 : decide (0 < v) = true := decide_eq_true hp2
      have hp4 : decide ((0 : Int) < ((v : Nat) : Int)) = true := decide_eq_true hp
      have hh := bl_half h0
      have HN : Hid (k + 1 + bl (v / 2) = Bn) := by have := HK.out; show _ = _; omega
      have hk' : k + 1 ≤ 1024 := by have := HK.out; omega
      clear hh h0
      go_wp2_with (fail)
      go_roundw
      case rel => exact ⟨k + 1, v / 2, congrArg (Value.int .i64) (by omega), congrArg (Value.int .u32) (by omega), by omega, hk', HN, hS⟩
      case measure => simp [intOf]; omega
set_option maxRecDepth 10000 in
set_option maxHeartbeats 1000000 in
theorem rbits_any (s : Bool) (n : Nat) (hn : n < pw 32) : Gives Tryz.prog 52 #[.agg (iv s n)] (.int .i64 ((bl n : Nat) : Int)) := by
  have GL := rlimbs_any n
  obtain ⟨k, hk⟩ : ∃ k, nl n = k := ⟨_, rfl⟩
  rw [hk] at GL
  have hkb : k ≤ 32 := by rw [← hk]; exact nl_le n
  rcases k with _ | j
  · have h0 : n = 0 := (nl_zero_iff hn).1 hk
    subst h0
    intro w
    have hS := St.start w
    have e : ((bl 0 : Nat) : Int) = 0 := rfl
    rw [e]
    clear hk hn e
    go_enter Tryz.func52, Tryz.ntmps52
    go_wp2_with (first | ((with_reducible refine L_box? ?_); (refine L_box_agg hS rfl rfl ?_; refine ⟨_, rfl, ?_⟩; clear hS; intro _ _ hS)) | ((with_reducible refine L_slot 7 ?_); (refine L_load (t := 27) rfl rfl ?_; refine ⟨_, run_load_mid hS _ _ rfl _ _ rfl _ _ (.inl (.head _)) _ Tryz.underlying27 rfl (mgk 32 _) (size27_mg _) (fun k _ => iv_mag _ _ k), ?_⟩)) | (go_at_call 73; (with_reducible refine Gives.use (GL) hS ?_); clear hS; intro _ hS))
    go_ret
    exact ⟨rfl, hS.below⟩
  · have ht0 : limb n j ≠ 0 := by
      rcases nl_top n with h | h
      · omega
      · rw [hk] at h; exact h
    have hb := bl_limb (n := n) (j := j) (by have := nl_lt hn; rwa [hk] at this) ht0
    exact rbits_loop s n (j + 1) j (limb n j) (bl n) (iv_limb (s := s) (n := n) (k := j) (by omega)) (limb_lt n j) hb (bl_top hn) (by omega) (by simp; omega) (by omega) GL
end Go.Proofs.YtfdlgeomaballaaGreat
