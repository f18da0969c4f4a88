/- The walk of putBack. -/
import Derived.Test.YtfdlgeomaballaaKo
namespace Go.Proofs.Ytfdlgeomaballaa
open Go.RowKit
set_option linter.unusedVariables false

theorem body_end0 {P : Program} {fn : Func} {R : Ending → World → Prop} {a : Act} {w : World} (hr : fn.results = #[]) (hd : a.defers = []) (hR : R (.returned (.tuple #[])) w) : bodyPost P fn R .normal a w := by
  exact bodyPost_end (results_none hr _ _ _) hd hR
set_option maxRecDepth 100000 in
set_option maxHeartbeats 4000000 in
theorem putBack_core (bl bs i n nw capw caps x W S : Nat) (hne : bs ≠ bl) (hnw : n + 1 = nw) (hin : i + n + 1 ≤ 33) (hnn : n ≤ 32) (hx : x < pw i) (hW : W < pw (n + 1)) (hS0 : S < pw n)
    (w : World) (hbl : w.heap[bl]? = some (.cells (mgk 33 (x + W * pw i)) 127)) (hbs : w.heap[bs]? = some (.cells (mgk 33 S) 127)) :
    Calls Try.prog 133 #[.slice (some ⟨bl, i, none⟩) nw capw, .slice (some ⟨bs, 0, none⟩) n caps] w fun e w' => e = .returned (.tuple #[]) ∧
      ∃ l, St (some bl) w w' [(bs, .cells (mgk 33 S) 127)] l ∧ (bl, Obj.cells (mgk 33 (x + (W + S) % pw (n + 1) * pw i)) 127) ∈ l := by
  have hS := St.start_may w bl _ hbl [(bs, .cells (mgk 33 S) 127)] (by
    intro y hy
    obtain rfl := List.mem_singleton.1 hy
    exact ⟨hbs, hne⟩)
  rw [← win_start i x W] at hS
  clear hbl hbs hne
  have HX := Lib.hid hx
  have HW := Lib.hid hW
  have HS := Lib.hid hS0
  have b5 : ((n : Nat) : Int) < ((nw : Nat) : Int) := by omega
  clear hx hW hS0
  go_enter Try.func133, Try.ntmps133
  go_wp2
  go_loopw [4, 9] (fun cy ix wr => ∃ k c r H : Nat, k ≤ n ∧ ix = .int .i64 k ∧ cy = .int .u32 ((c : Nat) : Int) ∧ c ≤ 1 ∧ Hid (r < pw k) ∧ Hid (W / pw k = H) ∧ Hid (W % pw k + S % pw k = r + c * pw k) ∧ St (some bl) w wr [(bs, .cells (mgk 33 S) 127)] [(bl, .cells (mgk 33 (win i x r k H)) 127)]) (fun _ ix _ => n - (intOf ix).toNat)
  case atStart => exact ⟨0, 0, 0, W, by omega, rfl, rfl, by omega, pw_pos 0, div_pw_zero W, (show W % pw 0 + S % pw 0 = 0 + 0 * pw 0 by rw [mod_pw_zero, mod_pw_zero]; simp), hS⟩
  case round =>
    clear hS
    obtain ⟨k, c, r, H, hk, rfl, rfl, hc, HR, HH, HI, hS⟩ := hrel
    by_cases hlt : k < n
    · have hlt' : ((k : Nat) : Int) < ((n : Nat) : Int) := by omega
      have b6 : ((k : Nat) : Int) < ((nw : Nat) : Int) := by omega
      have hd := limb_lt S k
      have hwk := limb_lt W k
      have HO := Lib.hid (back_next HI.out)
      have HWk : Hid (H % 4294967296 = limb W k) := by show _ = _; rw [← HH.out]; rfl
      have HHn : Hid (H / 4294967296 = W / pw (k + 1)) := by show _ = _; rw [← HH.out]; exact top_next W k
      have HD : Hid ((mgk 33 S)[k]? = some (.int .u32 ((limb S k : Nat) : Int))) := mgk_get' (by omega)
      have GS := add32 (limb W k) (limb S k) c hwk hd hc
      have hc2 : addC (limb W k) (limb S k) c ≤ 1 := by unfold addC; omega
      have HV := Lib.hid (addS_lt (limb W k) (limb S k) c)
      have HO2 : Hid (W % pw (k + 1) + S % pw (k + 1) = (r + addS (limb W k) (limb S k) c * pw k) + addC (limb W k) (limb S k) c * pw (k + 1)) := HO.out
      clear HO
      generalize addS (limb W k) (limb S k) c = sd at *
      generalize addC (limb W k) (limb S k) c = c2 at *
      generalize limb S k = d at *
      generalize limb W k = wk at *
      obtain ⟨H1, hH1⟩ : ∃ H1, W / pw (k + 1) = H1 := ⟨_, rfl⟩
      have HH1 := Lib.hid hH1
      rw [hH1] at HHn
      clear hH1
      have HR2 : Hid (r + sd * pw k < pw (k + 1)) := lim_add HR.out HV.out
      go_wp2_with (first | ((with_reducible refine L_slot 13 ?_); (refine L_load (t := 22) rfl rfl ?_; refine ⟨_, run_load_cell hS _ _ rfl _ _ rfl _ _ (.inr (.head _)) _ Try.underlying22 rfl _ (HD.out), ?_⟩)) | ((with_reducible refine L_slot 20 ?_); (refine L_load (t := 22) rfl rfl ?_; refine ⟨_, run_load_cell hS _ _ rfl _ _ rfl _ _ (.inl (.head _)) _ Try.underlying22 rfl _ (win_get HX.out HR.out (by omega) HWk.out), ?_⟩)) | (go_at_call 115; (with_reducible refine Gives.use (GS) hS ?_); clear hS; intro _ hS) | ((with_reducible refine L_storeAt 26 ?_); (refine L_store (t := 22) hS rfl rfl ?_; refine ⟨_, _, mgk 33 (win i x (r + sd * pw k) (k + 1) H1), _, _, (.head), run_store_cell hS _ _ _ rfl _ _ rfl _ rfl _ _ _ (.head) size22 rfl rfl ?_ ?_, ?_⟩; (focus (rw [mgk_size]; omega)); (focus (exact win_set rfl HX.out HR.out HV.out HHn.out)); clear hS; intro _ hS)))
      go_roundw
      case rel => exact ⟨k + 1, c2, r + sd * pw k, H1, by omega, by go_num, rfl, hc2, HR2, HH1, HO2, hS⟩
      case measure => simp [intOf]; omega
    · have ek : k = n := by omega
      subst ek
      have hlt' : ¬ ((k : Nat) : Int) < ((k : Nat) : Int) := by omega
      have HHb : Hid (H < 4294967296) := by
        show H < 4294967296
        rw [← HH.out, Nat.div_lt_iff_lt_mul (pw_pos k), Nat.mul_comm, ← pw_succ]; exact HW.out
      have HHm : Hid (H % 4294967296 = H) := Nat.mod_eq_of_lt HHb.out
      have HHz : Hid (H / 4294967296 = 0) := Nat.div_eq_of_lt HHb.out
      obtain ⟨v, hv⟩ : ∃ v, (H + c) % 4294967296 = v := ⟨_, rfl⟩
      have hvZ : IntKind.u32.wrap (((H : Nat) : Int) + ((c : Nat) : Int)) = ((v : Nat) : Int) := by rw [IntKind.wrap_u32]; omega
      have HV : Hid (v < 4294967296) := by show v < _; omega
      have HF : Hid (r + v * pw k = (W + S) % pw (k + 1)) := by
        have h1 := HI.out
        rw [Nat.mod_eq_of_lt HS.out] at h1
        have h2 := Nat.div_add_mod W (pw k)
        rw [HH.out, Nat.mul_comm] at h2
        have h3 : W + S = (H + c) * pw k + r := by rw [Nat.add_mul]; omega
        have := (split_next h3 HR.out).1
        rw [hv] at this
        exact this.symm
      clear hv
      have HE : Hid (win i x (r + v * pw k) (k + 1) 0 = x + (r + v * pw k) * pw i) := win_end _ _ _ _
      go_wp2_with (first | ((with_reducible refine L_slot 32 ?_); (refine L_load (t := 22) rfl rfl ?_; refine ⟨_, run_load_cell hS _ _ rfl _ _ rfl _ _ (.inl (.head _)) _ Try.underlying22 rfl _ (win_get HX.out HR.out (by omega) HHm.out), ?_⟩)) | ((with_reducible refine L_storeAt 35 ?_); (refine L_store (t := 22) hS rfl rfl ?_; refine ⟨_, _, mgk 33 (win i x (r + v * pw k) (k + 1) 0), _, _, (.head), run_store_cell hS _ _ _ rfl _ _ rfl _ rfl _ _ _ (.head) size22 rfl rfl ?_ ?_, ?_⟩; (focus (rw [mgk_size]; omega)); (focus (exact win_set rfl HX.out HR.out HV.out HHz.out)); clear hS; intro _ hS)))
      refine body_end0 rfl rfl ⟨rfl, _, hS, ?_⟩
      rw [← hnw, ← HF.out, HE.out]
      exact .head _
end Go.Proofs.Ytfdlgeomaballaa
