/- The walk of takeOff. -/
import Derived.Test.YtfdlgeomaballaaKe
namespace Go.Proofs.Ytfdlgeomaballaa
open Go.RowKit
set_option linter.unusedVariables false

theorem win_get {i x r k H h : Nat} (hx : x < pw i) (hr : r < pw k) (hi : i + k < 33) (hh : H % 4294967296 = h) : (mgk 33 (win i x r k H))[i + k]? = some (.int .u32 ((h : Nat) : Int)) := by
  rw [mgk_get' hi, win_limb H hx hr, hh]
theorem win_set {i x r k H H' v : Nat} {z : Int} (hz : z = ((v : Nat) : Int)) (hx : x < pw i) (hr : r < pw k) (hv : v < 4294967296) (hH : H / 4294967296 = H') : (mgk 33 (win i x r k H)).setIfInBounds (i + k) (.int .u32 z) = mgk 33 (win i x (r + v * pw k) (k + 1) H') := by
  rw [mgk_put' _ v hz hv, win_put H v hx hr, hH]

set_option maxRecDepth 100000 in
set_option maxHeartbeats 4000000 in
theorem takeOff_core (bl bs i n nw capw caps x W S g : Nat) (hne : bs ≠ bl) (hnw : n + 1 = nw) (hin : i + n + 1 ≤ 33) (hnn : n ≤ 32) (hx : x < pw i) (hW : W < pw (n + 1)) (hS0 : S < pw n) (hg : g < 4294967296)
    (w : World) (hbl : w.heap[bl]? = some (.cells (mgk 33 (x + W * pw i)) 127)) (hbs : w.heap[bs]? = some (.cells (mgk 33 S) 127)) :
    Calls Try.prog 132 #[.slice (some ⟨bl, i, none⟩) nw capw, .slice (some ⟨bs, 0, none⟩) n caps, .int .u32 ((g : Nat) : Int)] w fun e w' => ∃ b r, e = .returned (.bool b) ∧ r < pw (n + 1) ∧ W + (if b then 1 else 0) * pw (n + 1) = r + g * S ∧
      ∃ l, St (some bl) w w' [(bs, .cells (mgk 33 S) 127)] l ∧ (bl, Obj.cells (mgk 33 (x + r * pw i)) 127) ∈ l := by
  have hS := St.start_may w bl _ hbl [(bs, .cells (mgk 33 S) 127)] (by
    intro y hy
    obtain rfl := List.mem_singleton.1 hy
    exact ⟨hbs, hne⟩)
  rw [← win_start i x W] at hS
  clear hbl hbs hne
  have HX := Lib.hid hx
  have HW := Lib.hid hW
  have HS := Lib.hid hS0
  have b5 : ((n : Nat) : Int) < ((nw : Nat) : Int) := by omega
  clear hx hW hS0
  go_enter Try.func132, Try.ntmps132
  go_wp2
  go_loopw [7, 8, 14] (fun cy bw ix wr => ∃ k c br r H : Nat, k ≤ n ∧ ix = .int .i64 k ∧ cy = .int .u64 ((c : Nat) : Int) ∧ bw = .int .u32 ((br : Nat) : Int) ∧ c ≤ 4294967295 ∧ br ≤ 1 ∧ Hid (r < pw k) ∧ Hid (W / pw k = H) ∧ Hid (W % pw k + br * pw k + c * pw k = r + g * (S % pw k)) ∧ St (some bl) w wr [(bs, .cells (mgk 33 S) 127)] [(bl, .cells (mgk 33 (win i x r k H)) 127)]) (fun _ _ ix _ => n - (intOf ix).toNat)
  case atStart => exact ⟨0, 0, 0, 0, W, by omega, rfl, rfl, rfl, by omega, by omega, pw_pos 0, div_pw_zero W, (show W % pw 0 + 0 * pw 0 + 0 * pw 0 = 0 + g * (S % pw 0) by rw [mod_pw_zero, mod_pw_zero]; simp), hS⟩
  case round =>
    clear hS
    obtain ⟨k, c, br, r, H, hk, rfl, rfl, rfl, hc, hbr, HR, HH, HI, hS⟩ := hrel
    by_cases hlt : k < n
    · have hlt' : ((k : Nat) : Int) < ((n : Nat) : Int) := by omega
      have b6 : ((k : Nat) : Int) < ((nw : Nat) : Int) := by omega
      have hd := limb_lt S k
      have hwk := limb_lt W k
      have HO := Lib.hid ((off_next (W := W) (D := S) (g := g) HI.out).resolve_right (by omega))
      have HWk : Hid (H % 4294967296 = limb W k) := by show _ = _; rw [← HH.out]; rfl
      have HHn : Hid (H / 4294967296 = W / pw (k + 1)) := by show _ = _; rw [← HH.out]; exact top_next W k
      have hoc := off_carry (c := c) (d := limb S k) (g := g) (by omega) hd hg
      have HD : Hid ((mgk 33 S)[k]? = some (.int .u32 ((limb S k : Nat) : Int))) := mgk_get' (by omega)
      generalize limb S k = d at *
      generalize limb W k = wk at *
      obtain ⟨H1, hH1⟩ : ∃ H1, W / pw (k + 1) = H1 := ⟨_, rfl⟩
      have HH1 := Lib.hid hH1
      rw [hH1] at HHn
      clear hH1
      obtain ⟨M, hM⟩ : ∃ M, d * g = M := ⟨_, rfl⟩
      have hMZ : ((d : Nat) : Int) * ((g : Nat) : Int) = ((M : Nat) : Int) := by rw [← hM]; simp
      rw [hM] at HO hoc
      clear hM
      obtain ⟨t, ht⟩ : ∃ t, c + M = t := ⟨_, rfl⟩
      have htZ : ((c : Nat) : Int) + ((M : Nat) : Int) = ((t : Nat) : Int) := by omega
      rw [ht] at HO hoc
      have hMb : M ≤ 18446744073709551615 := by omega
      clear ht
      obtain ⟨y, hy⟩ : ∃ y, t % 4294967296 = y := ⟨_, rfl⟩
      obtain ⟨c2, hc2⟩ : ∃ c2, t / 4294967296 = c2 := ⟨_, rfl⟩
      have hyZ : IntKind.u32.wrap ((t : Nat) : Int) = ((y : Nat) : Int) := by rw [IntKind.wrap_u32]; omega
      have hcZ : ((t : Nat) : Int) / 4294967296 = ((c2 : Nat) : Int) := by omega
      have htb : t ≤ 18446744073709551615 := by omega
      have hyb : y < 4294967296 := by omega
      have hcb : c2 ≤ 4294967295 := by omega
      rw [hy, hc2] at HO
      clear hy hc2 hoc
      have GS := sub32 wk y br hwk hyb hbr
      have hb2 := brw_le wk y br
      have HV := Lib.hid (subD_lt wk y br)
      generalize subD wk y br = sd at *
      generalize brw wk y br = b2 at *
      have HR2 : Hid (r + sd * pw k < pw (k + 1)) := lim_add HR.out HV.out
      go_wp2_with (first | ((with_reducible refine L_slot 18 ?_); (refine L_load (t := 22) rfl rfl ?_; refine ⟨_, run_load_cell hS _ _ rfl _ _ rfl _ _ (.inr (.head _)) _ Try.underlying22 rfl _ (HD.out), ?_⟩)) | ((with_reducible refine L_slot 32 ?_); (refine L_load (t := 22) rfl rfl ?_; refine ⟨_, run_load_cell hS _ _ rfl _ _ rfl _ _ (.inl (.head _)) _ Try.underlying22 rfl _ (win_get HX.out HR.out (by omega) HWk.out), ?_⟩)) | (go_at_call 117; (with_reducible refine Gives.use (GS) hS ?_); clear hS; intro _ hS) | ((with_reducible refine L_storeAt 39 ?_); (refine L_store (t := 22) hS rfl rfl ?_; refine ⟨_, _, mgk 33 (win i x (r + sd * pw k) (k + 1) H1), _, _, (.head), run_store_cell hS _ _ _ rfl _ _ rfl _ rfl _ _ _ (.head) size22 rfl rfl ?_ ?_, ?_⟩; (focus (rw [mgk_size]; omega)); (focus (exact win_set rfl HX.out HR.out HV.out HHn.out)); clear hS; intro _ hS)))
      go_roundw
      case rel => exact ⟨k + 1, c2, b2, r + sd * pw k, H1, by omega, by go_num, rfl, rfl, hcb, hb2, HR2, HH1, HO, hS⟩
      case measure => simp [intOf]; omega
    · have ek : k = n := by omega
      subst ek
      have hlt' : ¬ ((k : Nat) : Int) < ((k : Nat) : Int) := by omega
      have HHb : Hid (H < 4294967296) := by
        show H < 4294967296
        rw [← HH.out, Nat.div_lt_iff_lt_mul (pw_pos k), Nat.mul_comm, ← pw_succ]; exact HW.out
      have HHm : Hid (H % 4294967296 = H) := Nat.mod_eq_of_lt HHb.out
      have HHz : Hid (H / 4294967296 = 0) := Nat.div_eq_of_lt HHb.out
      have hcZ : IntKind.u32.wrap ((c : Nat) : Int) = ((c : Nat) : Int) := by rw [IntKind.wrap_u32]; omega
      have GS := sub32 H c br HHb.out (by omega) hbr
      have hb2 := brw_le H c br
      have HV := Lib.hid (subD_lt H c br)
      have HF : Hid (W + brw H c br * pw (k + 1) = (r + subD H c br * pw k) + g * S) := by
        have h1 := HI.out
        rw [Nat.mod_eq_of_lt HS.out] at h1
        have h2 := Nat.div_add_mod W (pw k)
        rw [HH.out] at h2
        have key : H + brw H c br * 4294967296 = subD H c br + c + br := by
          have := HHb.out
          unfold brw subD
          split <;> omega
        have k1 : (H + brw H c br * 4294967296) * pw k = (subD H c br + c + br) * pw k := by rw [key]
        simp only [Nat.add_mul] at k1
        have m1 : brw H c br * 4294967296 * pw k = brw H c br * pw (k + 1) := by rw [pw_succ, Nat.mul_assoc, Nat.mul_comm (pw k)]
        rw [Nat.mul_comm (pw k)] at h2
        show _ = _
        omega
      generalize subD H c br = sd at *
      generalize brw H c br = b2 at *
      have HR2 : Hid (r + sd * pw k < pw (k + 1)) := lim_add HR.out HV.out
      have HE : Hid (win i x (r + sd * pw k) (k + 1) 0 = x + (r + sd * pw k) * pw i) := win_end _ _ _ _
      obtain ⟨bb, hbb⟩ : ∃ bb : Bool, (((b2 : Nat) : Int) != 0) = bb := ⟨_, rfl⟩
      have hb3 : (if bb then 1 else 0) = b2 := by
        rcases Nat.lt_or_ge b2 1 with h | h
        · have : b2 = 0 := by omega
          subst this; rw [← hbb]; rfl
        · have : b2 = 1 := by omega
          subst this; rw [← hbb]; rfl
      go_wp2_with (first | ((with_reducible refine L_slot 51 ?_); (refine L_load (t := 22) rfl rfl ?_; refine ⟨_, run_load_cell hS _ _ rfl _ _ rfl _ _ (.inl (.head _)) _ Try.underlying22 rfl _ (win_get HX.out HR.out (by omega) HHm.out), ?_⟩)) | (go_at_call 117; (with_reducible refine Gives.use (GS) hS ?_); clear hS; intro _ hS) | ((with_reducible refine L_storeAt 58 ?_); (refine L_store (t := 22) hS rfl rfl ?_; refine ⟨_, _, mgk 33 (win i x (r + sd * pw k) (k + 1) 0), _, _, (.head), run_store_cell hS _ _ _ rfl _ _ rfl _ rfl _ _ _ (.head) size22 rfl rfl ?_ ?_, ?_⟩; (focus (rw [mgk_size]; omega)); (focus (exact win_set rfl HX.out HR.out HV.out HHz.out)); clear hS; intro _ hS)))
      go_ret
      exact ⟨bb, r + sd * pw k, rfl, HR2.out, by rw [hb3]; exact HF.out, _, hS, by rw [HE.out]; exact .head _⟩
end Go.Proofs.Ytfdlgeomaballaa
