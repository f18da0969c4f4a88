/- Merged: Ke, Ko, Kp, Kd, Kl, Km, Dz, Gf. -/
import Derived.Test.YtfdlgeomaballaaGreatKr
import Derived.Test.YtfdlgeomaballaaGreatNd
import Derived.Test.YtfdlgeomaballaaGreatTb
import Derived.Test.YtfdlgeomaballaaGreatZz
section
/- The walk of estimate. -/
namespace Go.Proofs.YtfdlgeomaballaaGreat
open Go.RowKit
set_option linter.unusedVariables false

theorem est_fin {W D p g : Nat} (hp : 0 < p) (hD : 0 < D) (h : g * (D / p) ≤ W / p) (hg : g ≤ D / p + 1) : g ≤ W / D + 1 := by
  rcases g with _ | g
  · exact Nat.zero_le _
  · have h1 : g ≤ W / D := by
      rw [Nat.le_div_iff_mul_le hD]
      obtain ⟨E, hE⟩ : ∃ E, D / p = E := ⟨_, rfl⟩
      obtain ⟨V, hV⟩ : ∃ V, W / p = V := ⟨_, rfl⟩
      rw [hE, hV] at h
      rw [hE] at hg
      have hDE : D ≤ (E + 1) * p := by
        have := Nat.div_add_mod D p
        have h3 := Nat.mod_lt D hp
        rw [hE] at this
        rw [Nat.add_mul, Nat.mul_comm E]; omega
      have hWV : V * p ≤ W := by rw [← hV]; exact Nat.div_mul_le_self W p
      have h4 : g * D ≤ g * ((E + 1) * p) := Nat.mul_le_mul_left _ hDE
      have h5 : g * (E + 1) ≤ V := by
        rw [Nat.add_mul] at h
        rw [Nat.mul_add]
        omega
      have h6 : g * (E + 1) * p ≤ V * p := Nat.mul_le_mul_right _ h5
      rw [Nat.mul_assoc] at h6
      omega
    exact Nat.succ_le_succ h1
theorem est_q {W D p : Nat} (hp : 0 < p) : W / D * (D / p) ≤ W / p := by
  rw [Nat.le_div_iff_mul_le hp, Nat.mul_assoc]
  exact Nat.le_trans (Nat.mul_le_mul_left _ (Nat.div_mul_le_self D p)) (Nat.div_mul_le_self W D)
theorem u64_eq {a : Int} {b : Nat} (h : a = b) : Value.int .u64 a = .int .u64 ((b : Nat) : Int) := by rw [h]

set_option maxRecDepth 100000 in
set_option maxHeartbeats 4000000 in
theorem estimate_core (bl bs i n n1 n2 nw capw caps L S f s wn w1 w2 q h : Nat) (hn1 : ((n : Nat) : Int) - 1 = ((n1 : Nat) : Int)) (hn2 : ((n : Nat) : Int) - 2 = ((n2 : Nat) : Int)) (hnw : n + 1 = nw) (hin : i + n + 1 ≤ 33) (hnn : 2 ≤ n ∧ n ≤ 32)
    (hf : limb S n1 = f) (hs : limb S n2 = s) (hwn : limb L (i + n) = wn) (hw1 : limb L (i + n1) = w1) (hw2 : limb L (i + n2) = w2) (rf : 2147483648 ≤ f ∧ f ≤ 4294967295) (rs : s ≤ 4294967295) (rwn : wn ≤ 4294967295) (rw1 : w1 ≤ 4294967295) (rw2 : w2 ≤ 4294967295)
    (hh : wn * 4294967296 + w1 = h) (HQ : Hid (q * (f * 4294967296 + s) ≤ h * 4294967296 + w2)) (HT : Hid (h < f * 4294967296 + 4294967296)) (hq : q ≤ 4294967295)
    (w : World) (hbl : w.heap[bl]? = some (.cells (mgk 33 L) 105)) (hbs : w.heap[bs]? = some (.cells (mgk 33 S) 105)) :
    Calls Tryz.prog 101 #[.slice (some ⟨bl, i, none⟩) nw capw, .slice (some ⟨bs, 0, none⟩) n caps] w fun e w' => (∃ g : Nat, e = .returned (.int .u32 ((g : Nat) : Int)) ∧ q ≤ g ∧ g ≤ 4294967295 ∧ g * (f * 4294967296 + s) ≤ h * 4294967296 + w2) ∧ Below w.heap.size w w' := by
  have hS := St.start_ro w [(bl, .cells (mgk 33 L) 105), (bs, .cells (mgk 33 S) 105)] (by
    intro x hx
    rcases List.mem_cons.1 hx with rfl | hx
    · exact hbl
    · obtain rfl := List.mem_singleton.1 hx
      exact hbs)
  clear hbl hbs
  have b1 : ((n1 : Nat) : Int) < ((n : Nat) : Int) := by omega
  have b2 : ((n2 : Nat) : Int) < ((n : Nat) : Int) := by omega
  have b3 : ((n1 : Nat) : Int) < ((nw : Nat) : Int) := by omega
  have b4 : ((n2 : Nat) : Int) < ((nw : Nat) : Int) := by omega
  have b5 : ((n : Nat) : Int) < ((nw : Nat) : Int) := by omega
  have hnI : (2 : Int) ≤ ((n : Nat) : Int) ∧ ((n : Nat) : Int) ≤ 32 := by omega
  clear hnw
  have hor : bits BinOp.or IntKind.u64 ((wn : Int) * 4294967296) (w1 : Int) = ((h : Nat) : Int) := by rw [← hh]; exact or_limb wn w1 (by omega) (by omega)
  have hhb : h ≤ 18446744073709551615 := by omega
  obtain ⟨g0, hg0⟩ : ∃ g0, h / f = g0 := ⟨_, rfl⟩
  obtain ⟨t0, ht0⟩ : ∃ t0, h % f = t0 := ⟨_, rfl⟩
  have HI0 : Hid (g0 * f + t0 = h) := by show _ = _; rw [← hg0, ← ht0, Nat.mul_comm]; exact Nat.div_add_mod h f
  have HQ0 : Hid (q ≤ g0) := by show q ≤ g0; rw [← hg0]; exact est_low HQ.out (by omega) (by omega)
  have rt0 : t0 ≤ 4294967295 := by rw [← ht0]; have := Nat.mod_lt h (show 0 < f by omega); omega
  have rg0 : g0 ≤ 4294967297 := by
    have h1 := HI0.out
    have h2 := HT.out
    refine Classical.byContradiction fun hc => ?_
    have : 4294967298 * f ≤ g0 * f := Nat.mul_le_mul_right _ (by omega)
    omega
  have hqz : ((h : Nat) : Int) / ((f : Nat) : Int) = ((g0 : Nat) : Int) := by rw [← hg0, Int.natCast_ediv]
  have hrz : ((h : Nat) : Int) % ((f : Nat) : Int) = ((t0 : Nat) : Int) := by rw [← ht0, Int.natCast_emod]
  have hne : ¬ ((f : Int) = 0) := by omega
  have hdn : ¬ (f = 0) := by omega
  have hnb : ((f : Int) == 0) = false := by simp; omega
  have hnb2 : ((f : Int) != 0) = true := by simp; omega
  have hf1 : (1 : Int) ≤ (f : Int) := by omega
  clear hg0 ht0 hh
  go_enter Tryz.func101, Tryz.ntmps101
  go_wp2_with (fail)
  (try simp only [Act.put]); (try simp only [List.setIfInBounds_toArray, List.set_cons_succ, List.set_cons_zero]); refine wp_region_w0 hS (by kernel_rfl) (by kernel_rfl) ?_
  repeat (first
    | ((with_reducible refine S_slot 17 ?_); (refine S_load (t := 26) rfl rfl rfl rfl ?_; refine ⟨_, fun _ hS' => run_load_cell hS' _ _ rfl _ _ rfl _ _ (.inr (.tail _ (.head _))) _ Tryz.underlying26 rfl _ (mgk_get' (by omega)), ?_⟩; simp only [Act.put, List.setIfInBounds_toArray, List.set_cons_succ, List.set_cons_zero]))
    | ((with_reducible refine S_slot 23 ?_); (refine S_load (t := 26) rfl rfl rfl rfl ?_; refine ⟨_, fun _ hS' => run_load_cell hS' _ _ rfl _ _ rfl _ _ (.inr (.tail _ (.head _))) _ Tryz.underlying26 rfl _ (mgk_get' (by omega)), ?_⟩; simp only [Act.put, List.setIfInBounds_toArray, List.set_cons_succ, List.set_cons_zero]))
    | (refine S_run rfl rfl ?_; apply Exists.intro; refine ⟨fun _ => ?_, ?_⟩; (focus (go_simp; (try go_bits); exact rfl)); simp only [Act.put, List.setIfInBounds_toArray, List.set_cons_succ, List.set_cons_zero]))
  refine S_end0 ?_; clear hS; intro _ hS
  go_wp2_with (fail)
  (try simp only [Act.put]); (try simp only [List.setIfInBounds_toArray, List.set_cons_succ, List.set_cons_zero]); refine wp_region_w0 hS (by kernel_rfl) (by kernel_rfl) ?_
  repeat (first
    | ((with_reducible refine S_slot 28 ?_); (refine S_load (t := 26) rfl rfl rfl rfl ?_; refine ⟨_, fun _ hS' => run_load_cell hS' _ _ rfl _ _ rfl _ _ (.inr (.head _)) _ Tryz.underlying26 rfl _ (mgk_get' (by omega)), ?_⟩; simp only [Act.put, List.setIfInBounds_toArray, List.set_cons_succ, List.set_cons_zero]))
    | ((with_reducible refine S_slot 35 ?_); (refine S_load (t := 26) rfl rfl rfl rfl ?_; refine ⟨_, fun _ hS' => run_load_cell hS' _ _ rfl _ _ rfl _ _ (.inr (.head _)) _ Tryz.underlying26 rfl _ (mgk_get' (by omega)), ?_⟩; simp only [Act.put, List.setIfInBounds_toArray, List.set_cons_succ, List.set_cons_zero]))
    | (refine S_run rfl rfl ?_; apply Exists.intro; refine ⟨fun _ => ?_, ?_⟩; (focus (go_simp; (try go_bits); exact rfl)); simp only [Act.put, List.setIfInBounds_toArray, List.set_cons_succ, List.set_cons_zero]))
  refine S_end0 ?_; clear hS; intro _ hS
  go_wp2_with (fail)
  (try simp only [Act.put]); (try simp only [List.setIfInBounds_toArray, List.set_cons_succ, List.set_cons_zero]); refine wp_region_w0 hS (by kernel_rfl) (by kernel_rfl) ?_
  repeat (first | (refine S_run rfl rfl ?_; apply Exists.intro; refine ⟨fun _ => ?_, ?_⟩; (focus (go_simp; (try go_bits); exact rfl)); simp only [Act.put, List.setIfInBounds_toArray, List.set_cons_succ, List.set_cons_zero]))
  refine S_end0 ?_; clear hS; intro _ hS
  go_wp2_with (fail)
  go_loopw [9, 10] (fun gv tv wr => ∃ g t : Nat, gv = .int .u64 ((g : Nat) : Int) ∧ tv = .int .u64 ((t : Nat) : Int) ∧ Hid (g * f + t = h) ∧ Hid (q ≤ g) ∧ g ≤ 4294967297 ∧ t ≤ 8589934591 ∧ St none w wr [(bl, .cells (mgk 33 L) 105), (bs, .cells (mgk 33 S) 105)] []) (fun _ tv _ => 8589934592 - (intOf tv).toNat)
  case atStart => exact ⟨g0, t0, rfl, rfl, HI0, HQ0, rg0, by omega, hS⟩
  case round =>
    clear hS
    obtain ⟨g, t, rfl, rfl, HI, HG, rg, rt, hS⟩ := hrel
    have fin : 4294967296 ≤ t ∨ g * s ≤ t * 4294967296 + w2 → g ≤ 4294967295 → g * (f * 4294967296 + s) ≤ h * 4294967296 + w2 := fun hc hg => est_high HI.out (by omega) (by omega) hc
    by_cases c1 : t ≤ 4294967295
    · have c1' : ((t : Nat) : Int) ≤ 4294967295 := by omega
      have hor2 : bits BinOp.or IntKind.u64 ((t : Int) * 4294967296) (w2 : Int) = ((t * 4294967296 + w2 : Nat) : Int) := or_limb t w2 (by omega) (by omega)
      have next : q < g → ∃ g1, g = g1 + 1 ∧ Hid (g1 * f + (t + f) = h) ∧ Hid (q ≤ g1) := fun hlt => by
        refine ⟨g - 1, by omega, ?_, ?_⟩
        · have h1 := HI.out
          have h2 : g * f = (g - 1) * f + f := by
            have : g = (g - 1) + 1 := by omega
            rw [this, Nat.add_mul, Nat.one_mul]; simp
          show _ = _
          omega
        · show q ≤ g - 1; omega
      by_cases c2 : g ≤ 4294967295
      · have c2' : ¬ (4294967295 : Int) < ((g : Nat) : Int) := by omega
        obtain ⟨M, hM⟩ : ∃ M, g * s = M := ⟨_, rfl⟩
        have hMZ : ((g : Nat) : Int) * ((s : Nat) : Int) = ((M : Nat) : Int) := by rw [← hM]; simp
        have hMb : M ≤ 18446744073709551615 := by
          have : g * s ≤ 4294967295 * 4294967295 := Nat.mul_le_mul c2 rs
          omega
        obtain ⟨U, hU⟩ : ∃ U, t * 4294967296 + w2 = U := ⟨_, rfl⟩
        rw [hU] at hor2
        by_cases c3 : U < M
        · have c3' : ((U : Nat) : Int) < ((M : Nat) : Int) := by omega
          obtain ⟨g1, hg1, HI1, HQ1⟩ := next (est_down HQ.out HI.out (by rw [hU, hM]; exact c3))
          have hg1Z : ((g : Nat) : Int) - 1 = ((g1 : Nat) : Int) := by omega
          have hg1b : (1 : Int) ≤ ((g : Nat) : Int) := by omega
          clear next fin hM hU hg1
          go_wp2_with (first | ((with_reducible refine L_slot 59 ?_); (refine L_load (t := 26) rfl rfl ?_; refine ⟨_, run_load_cell hS _ _ rfl _ _ rfl _ _ (.inr (.head _)) _ Tryz.underlying26 rfl _ (mgk_get' (by omega)), ?_⟩)))
          go_roundw
          case rel => exact ⟨g1, rfl, t + f, by omega, HI1, HQ1, by omega, by omega⟩
          case measure => simp [intOf]; omega
        · have c3' : ¬ ((U : Nat) : Int) < ((M : Nat) : Int) := by omega
          have hfin := Lib.hid (fin (.inr (by omega)) c2)
          clear next fin hM hU
          go_wp2_with (first | ((with_reducible refine L_slot 59 ?_); (refine L_load (t := 26) rfl rfl ?_; refine ⟨_, run_load_cell hS _ _ rfl _ _ rfl _ _ (.inr (.head _)) _ Tryz.underlying26 rfl _ (mgk_get' (by omega)), ?_⟩)))
          go_ret
          exact ⟨⟨g, rfl, HG.out, c2, hfin.out⟩, hS.below⟩
      · have c2' : (4294967295 : Int) < ((g : Nat) : Int) := by omega
        obtain ⟨g1, hg1, HI1, HQ1⟩ := next (by omega)
        have hg1Z : ((g : Nat) : Int) - 1 = ((g1 : Nat) : Int) := by omega
        have hg1b : (1 : Int) ≤ ((g : Nat) : Int) := by omega
        clear next fin hg1
        go_wp2_with (first | ((with_reducible refine L_slot 59 ?_); (refine L_load (t := 26) rfl rfl ?_; refine ⟨_, run_load_cell hS _ _ rfl _ _ rfl _ _ (.inr (.head _)) _ Tryz.underlying26 rfl _ (mgk_get' (by omega)), ?_⟩)))
        go_roundw
        case rel => exact ⟨g1, t + f, rfl, u64_eq (by omega), HI1, HQ1, by omega, by omega, hS⟩
        case measure => simp [intOf]; omega
    · have c1' : ¬ ((t : Nat) : Int) ≤ 4294967295 := by omega
      have rg2 : g ≤ 4294967295 := by have := est_top HI.out HT.out (by omega); omega
      have hfin := Lib.hid (fin (.inl (by omega)) rg2)
      clear fin
      go_wp2_with (fail)
      go_ret
      exact ⟨⟨g, rfl, HG.out, rg2, hfin.out⟩, hS.below⟩
end Go.Proofs.YtfdlgeomaballaaGreat
end
section
/- The walk of takeOff. -/
namespace Go.Proofs.YtfdlgeomaballaaGreat
open Go.RowKit
set_option linter.unusedVariables false

theorem win_get {i x r k H h : Nat} (hx : x < pw i) (hr : r < pw k) (hi : i + k < 33) (hh : H % 4294967296 = h) : (mgk 33 (win i x r k H))[i + k]? = some (.int .u32 ((h : Nat) : Int)) := by
  rw [mgk_get' hi, win_limb H hx hr, hh]
theorem win_set {i x r k H H' v : Nat} {z : Int} (hz : z = ((v : Nat) : Int)) (hx : x < pw i) (hr : r < pw k) (hv : v < 4294967296) (hH : H / 4294967296 = H') : (mgk 33 (win i x r k H)).setIfInBounds (i + k) (.int .u32 z) = mgk 33 (win i x (r + v * pw k) (k + 1) H') := by
  rw [mgk_put' _ v hz hv, win_put H v hx hr, hH]

set_option maxRecDepth 100000 in
set_option maxHeartbeats 4000000 in
theorem takeOff_core (bl bs i n nw capw caps x W S g : Nat) (hne : bs ≠ bl) (hnw : n + 1 = nw) (hin : i + n + 1 ≤ 33) (hnn : n ≤ 32) (hx : x < pw i) (hW : W < pw (n + 1)) (hS0 : S < pw n) (hg : g < 4294967296)
    (w : World) (hbl : w.heap[bl]? = some (.cells (mgk 33 (x + W * pw i)) 105)) (hbs : w.heap[bs]? = some (.cells (mgk 33 S) 105)) :
    Calls Tryz.prog 102 #[.slice (some ⟨bl, i, none⟩) nw capw, .slice (some ⟨bs, 0, none⟩) n caps, .int .u32 ((g : Nat) : Int)] w fun e w' => ∃ b r, e = .returned (.bool b) ∧ r < pw (n + 1) ∧ W + (if b then 1 else 0) * pw (n + 1) = r + g * S ∧
      ∃ l, St (some bl) w w' [(bs, .cells (mgk 33 S) 105)] l ∧ (bl, Obj.cells (mgk 33 (x + r * pw i)) 105) ∈ l := by
  have hS := St.start_may w bl _ hbl [(bs, .cells (mgk 33 S) 105)] (by
    intro y hy
    obtain rfl := List.mem_singleton.1 hy
    exact ⟨hbs, hne⟩)
  rw [← win_start i x W] at hS
  clear hbl hbs hne
  have HX := Lib.hid hx
  have HW := Lib.hid hW
  have HS := Lib.hid hS0
  have b5 : ((n : Nat) : Int) < ((nw : Nat) : Int) := by omega
  clear hx hW hS0
  go_enter Tryz.func102, Tryz.ntmps102
  go_wp2
  go_loopw [7, 8, 14] (fun cy bw ix wr => ∃ k c br r H : Nat, k ≤ n ∧ ix = .int .i64 k ∧ cy = .int .u64 ((c : Nat) : Int) ∧ bw = .int .u32 ((br : Nat) : Int) ∧ c ≤ 4294967295 ∧ br ≤ 1 ∧ Hid (r < pw k) ∧ Hid (W / pw k = H) ∧ Hid (W % pw k + br * pw k + c * pw k = r + g * (S % pw k)) ∧ St (some bl) w wr [(bs, .cells (mgk 33 S) 105)] [(bl, .cells (mgk 33 (win i x r k H)) 105)]) (fun _ _ ix _ => n - (intOf ix).toNat)
  case atStart => exact ⟨0, 0, 0, 0, W, by omega, rfl, rfl, rfl, by omega, by omega, pw_pos 0, div_pw_zero W, (show W % pw 0 + 0 * pw 0 + 0 * pw 0 = 0 + g * (S % pw 0) by rw [mod_pw_zero, mod_pw_zero]; simp), hS⟩
  case round =>
    clear hS
    obtain ⟨k, c, br, r, H, hk, rfl, rfl, rfl, hc, hbr, HR, HH, HI, hS⟩ := hrel
    by_cases hlt : k < n
    · have hlt' : ((k : Nat) : Int) < ((n : Nat) : Int) := by omega
      have b6 : ((k : Nat) : Int) < ((nw : Nat) : Int) := by omega
      have hd := limb_lt S k
      have hwk := limb_lt W k
      have HO := Lib.hid ((off_next (W := W) (D := S) (g := g) HI.out).resolve_right (by omega))
      have HWk : Hid (H % 4294967296 = limb W k) := by show _ = _; rw [← HH.out]; rfl
      have HHn : Hid (H / 4294967296 = W / pw (k + 1)) := by show _ = _; rw [← HH.out]; exact top_next W k
      have hoc := off_carry (c := c) (d := limb S k) (g := g) (by omega) hd hg
      have HD : Hid ((mgk 33 S)[k]? = some (.int .u32 ((limb S k : Nat) : Int))) := mgk_get' (by omega)
      generalize limb S k = d at *
      generalize limb W k = wk at *
      obtain ⟨H1, hH1⟩ : ∃ H1, W / pw (k + 1) = H1 := ⟨_, rfl⟩
      have HH1 := Lib.hid hH1
      rw [hH1] at HHn
      clear hH1
      obtain ⟨M, hM⟩ : ∃ M, d * g = M := ⟨_, rfl⟩
      have hMZ : ((d : Nat) : Int) * ((g : Nat) : Int) = ((M : Nat) : Int) := by rw [← hM]; simp
      rw [hM] at HO hoc
      clear hM
      obtain ⟨t, ht⟩ : ∃ t, c + M = t := ⟨_, rfl⟩
      have htZ : ((c : Nat) : Int) + ((M : Nat) : Int) = ((t : Nat) : Int) := by omega
      rw [ht] at HO hoc
      have hMb : M ≤ 18446744073709551615 := by omega
      clear ht
      obtain ⟨y, hy⟩ : ∃ y, t % 4294967296 = y := ⟨_, rfl⟩
      obtain ⟨c2, hc2⟩ : ∃ c2, t / 4294967296 = c2 := ⟨_, rfl⟩
      have hyZ : IntKind.u32.wrap ((t : Nat) : Int) = ((y : Nat) : Int) := by rw [IntKind.wrap_u32]; omega
      have hcZ : ((t : Nat) : Int) / 4294967296 = ((c2 : Nat) : Int) := by omega
      have htb : t ≤ 18446744073709551615 := by omega
      have hyb : y < 4294967296 := by omega
      have hcb : c2 ≤ 4294967295 := by omega
      rw [hy, hc2] at HO
      clear hy hc2 hoc
      have GS := sub32 wk y br hwk hyb hbr
      have hb2 := brw_le wk y br
      have HV := Lib.hid (subD_lt wk y br)
      generalize subD wk y br = sd at *
      generalize brw wk y br = b2 at *
      have HR2 : Hid (r + sd * pw k < pw (k + 1)) := lim_add HR.out HV.out
      go_wp2_with (first | ((with_reducible refine L_slot 18 ?_); (refine L_load (t := 26) rfl rfl ?_; refine ⟨_, run_load_cell hS _ _ rfl _ _ rfl _ _ (.inr (.head _)) _ Tryz.underlying26 rfl _ (HD.out), ?_⟩)) | ((with_reducible refine L_slot 32 ?_); (refine L_load (t := 26) rfl rfl ?_; refine ⟨_, run_load_cell hS _ _ rfl _ _ rfl _ _ (.inl (.head _)) _ Tryz.underlying26 rfl _ (win_get HX.out HR.out (by omega) HWk.out), ?_⟩)) | (go_at_call 106; (with_reducible refine Gives.use (GS) hS ?_); clear hS; intro _ hS) | ((with_reducible refine L_storeAt 39 ?_); (refine L_store (t := 26) hS rfl rfl ?_; refine ⟨_, _, mgk 33 (win i x (r + sd * pw k) (k + 1) H1), _, _, (.head), run_store_cell hS _ _ _ rfl _ _ rfl _ rfl _ _ _ (.head) size26 rfl rfl ?_ ?_, ?_⟩; (focus (rw [mgk_size]; omega)); (focus (exact win_set rfl HX.out HR.out HV.out HHn.out)); clear hS; intro _ hS)))
      go_roundw
      case rel => exact ⟨k + 1, c2, b2, r + sd * pw k, H1, by omega, by go_num, rfl, rfl, hcb, hb2, HR2, HH1, HO, hS⟩
      case measure => simp [intOf]; omega
    · have ek : k = n := by omega
      subst ek
      have hlt' : ¬ ((k : Nat) : Int) < ((k : Nat) : Int) := by omega
      have HHb : Hid (H < 4294967296) := by
        show H < 4294967296
        rw [← HH.out, Nat.div_lt_iff_lt_mul (pw_pos k), Nat.mul_comm, ← pw_succ]; exact HW.out
      have HHm : Hid (H % 4294967296 = H) := Nat.mod_eq_of_lt HHb.out
      have HHz : Hid (H / 4294967296 = 0) := Nat.div_eq_of_lt HHb.out
      have hcZ : IntKind.u32.wrap ((c : Nat) : Int) = ((c : Nat) : Int) := by rw [IntKind.wrap_u32]; omega
      have GS := sub32 H c br HHb.out (by omega) hbr
      have hb2 := brw_le H c br
      have HV := Lib.hid (subD_lt H c br)
      have HF : Hid (W + brw H c br * pw (k + 1) = (r + subD H c br * pw k) + g * S) := by
        have h1 := HI.out
        rw [Nat.mod_eq_of_lt HS.out] at h1
        have h2 := Nat.div_add_mod W (pw k)
        rw [HH.out] at h2
        have key : H + brw H c br * 4294967296 = subD H c br + c + br := by
          have := HHb.out
          unfold brw subD
          split <;> omega
        have k1 : (H + brw H c br * 4294967296) * pw k = (subD H c br + c + br) * pw k := by rw [key]
        simp only [Nat.add_mul] at k1
        have m1 : brw H c br * 4294967296 * pw k = brw H c br * pw (k + 1) := by rw [pw_succ, Nat.mul_assoc, Nat.mul_comm (pw k)]
        rw [Nat.mul_comm (pw k)] at h2
        show _ = _
        omega
      generalize subD H c br = sd at *
      generalize brw H c br = b2 at *
      have HR2 : Hid (r + sd * pw k < pw (k + 1)) := lim_add HR.out HV.out
      have HE : Hid (win i x (r + sd * pw k) (k + 1) 0 = x + (r + sd * pw k) * pw i) := win_end _ _ _ _
      obtain ⟨bb, hbb⟩ : ∃ bb : Bool, (((b2 : Nat) : Int) != 0) = bb := ⟨_, rfl⟩
      have hb3 : (if bb then 1 else 0) = b2 := by
        rcases Nat.lt_or_ge b2 1 with h | h
        · have : b2 = 0 := by omega
          subst this; rw [← hbb]; rfl
        · have : b2 = 1 := by omega
          subst this; rw [← hbb]; rfl
      go_wp2_with (first | ((with_reducible refine L_slot 51 ?_); (refine L_load (t := 26) rfl rfl ?_; refine ⟨_, run_load_cell hS _ _ rfl _ _ rfl _ _ (.inl (.head _)) _ Tryz.underlying26 rfl _ (win_get HX.out HR.out (by omega) HHm.out), ?_⟩)) | (go_at_call 106; (with_reducible refine Gives.use (GS) hS ?_); clear hS; intro _ hS) | ((with_reducible refine L_storeAt 58 ?_); (refine L_store (t := 26) hS rfl rfl ?_; refine ⟨_, _, mgk 33 (win i x (r + sd * pw k) (k + 1) 0), _, _, (.head), run_store_cell hS _ _ _ rfl _ _ rfl _ rfl _ _ _ (.head) size26 rfl rfl ?_ ?_, ?_⟩; (focus (rw [mgk_size]; omega)); (focus (exact win_set rfl HX.out HR.out HV.out HHz.out)); clear hS; intro _ hS)))
      go_ret
      exact ⟨bb, r + sd * pw k, rfl, HR2.out, by rw [hb3]; exact HF.out, _, hS, by rw [HE.out]; exact .head _⟩
end Go.Proofs.YtfdlgeomaballaaGreat
end
section
/- The walk of putBack. -/
namespace Go.Proofs.YtfdlgeomaballaaGreat
open Go.RowKit
set_option linter.unusedVariables false

theorem body_end0 {P : Program} {fn : Func} {R : Ending → World → Prop} {a : Act} {w : World} (hr : fn.results = #[]) (hd : a.defers = []) (hR : R (.returned (.tuple #[])) w) : bodyPost P fn R .normal a w := by
  exact bodyPost_end (results_none hr _ _ _) hd hR
set_option maxRecDepth 100000 in
set_option maxHeartbeats 4000000 in
theorem putBack_core (bl bs i n nw capw caps x W S : Nat) (hne : bs ≠ bl) (hnw : n + 1 = nw) (hin : i + n + 1 ≤ 33) (hnn : n ≤ 32) (hx : x < pw i) (hW : W < pw (n + 1)) (hS0 : S < pw n)
    (w : World) (hbl : w.heap[bl]? = some (.cells (mgk 33 (x + W * pw i)) 105)) (hbs : w.heap[bs]? = some (.cells (mgk 33 S) 105)) :
    Calls Tryz.prog 103 #[.slice (some ⟨bl, i, none⟩) nw capw, .slice (some ⟨bs, 0, none⟩) n caps] w fun e w' => e = .returned (.tuple #[]) ∧
      ∃ l, St (some bl) w w' [(bs, .cells (mgk 33 S) 105)] l ∧ (bl, Obj.cells (mgk 33 (x + (W + S) % pw (n + 1) * pw i)) 105) ∈ l := by
  have hS := St.start_may w bl _ hbl [(bs, .cells (mgk 33 S) 105)] (by
    intro y hy
    obtain rfl := List.mem_singleton.1 hy
    exact ⟨hbs, hne⟩)
  rw [← win_start i x W] at hS
  clear hbl hbs hne
  have HX := Lib.hid hx
  have HW := Lib.hid hW
  have HS := Lib.hid hS0
  have b5 : ((n : Nat) : Int) < ((nw : Nat) : Int) := by omega
  clear hx hW hS0
  go_enter Tryz.func103, Tryz.ntmps103
  go_wp2
  go_loopw [4, 9] (fun cy ix wr => ∃ k c r H : Nat, k ≤ n ∧ ix = .int .i64 k ∧ cy = .int .u32 ((c : Nat) : Int) ∧ c ≤ 1 ∧ Hid (r < pw k) ∧ Hid (W / pw k = H) ∧ Hid (W % pw k + S % pw k = r + c * pw k) ∧ St (some bl) w wr [(bs, .cells (mgk 33 S) 105)] [(bl, .cells (mgk 33 (win i x r k H)) 105)]) (fun _ ix _ => n - (intOf ix).toNat)
  case atStart => exact ⟨0, 0, 0, W, by omega, rfl, rfl, by omega, pw_pos 0, div_pw_zero W, (show W % pw 0 + S % pw 0 = 0 + 0 * pw 0 by rw [mod_pw_zero, mod_pw_zero]; simp), hS⟩
  case round =>
    clear hS
    obtain ⟨k, c, r, H, hk, rfl, rfl, hc, HR, HH, HI, hS⟩ := hrel
    by_cases hlt : k < n
    · have hlt' : ((k : Nat) : Int) < ((n : Nat) : Int) := by omega
      have b6 : ((k : Nat) : Int) < ((nw : Nat) : Int) := by omega
      have hd := limb_lt S k
      have hwk := limb_lt W k
      have HO := Lib.hid (back_next HI.out)
      have HWk : Hid (H % 4294967296 = limb W k) := by show _ = _; rw [← HH.out]; rfl
      have HHn : Hid (H / 4294967296 = W / pw (k + 1)) := by show _ = _; rw [← HH.out]; exact top_next W k
      have HD : Hid ((mgk 33 S)[k]? = some (.int .u32 ((limb S k : Nat) : Int))) := mgk_get' (by omega)
      have GS := add32 (limb W k) (limb S k) c hwk hd hc
      have hc2 : addC (limb W k) (limb S k) c ≤ 1 := by unfold addC; omega
      have HV := Lib.hid (addS_lt (limb W k) (limb S k) c)
      have HO2 : Hid (W % pw (k + 1) + S % pw (k + 1) = (r + addS (limb W k) (limb S k) c * pw k) + addC (limb W k) (limb S k) c * pw (k + 1)) := HO.out
      clear HO
      generalize addS (limb W k) (limb S k) c = sd at *
      generalize addC (limb W k) (limb S k) c = c2 at *
      generalize limb S k = d at *
      generalize limb W k = wk at *
      obtain ⟨H1, hH1⟩ : ∃ H1, W / pw (k + 1) = H1 := ⟨_, rfl⟩
      have HH1 := Lib.hid hH1
      rw [hH1] at HHn
      clear hH1
      have HR2 : Hid (r + sd * pw k < pw (k + 1)) := lim_add HR.out HV.out
      go_wp2_with (first | ((with_reducible refine L_slot 13 ?_); (refine L_load (t := 26) rfl rfl ?_; refine ⟨_, run_load_cell hS _ _ rfl _ _ rfl _ _ (.inr (.head _)) _ Tryz.underlying26 rfl _ (HD.out), ?_⟩)) | ((with_reducible refine L_slot 20 ?_); (refine L_load (t := 26) rfl rfl ?_; refine ⟨_, run_load_cell hS _ _ rfl _ _ rfl _ _ (.inl (.head _)) _ Tryz.underlying26 rfl _ (win_get HX.out HR.out (by omega) HWk.out), ?_⟩)) | (go_at_call 105; (with_reducible refine Gives.use (GS) hS ?_); clear hS; intro _ hS) | ((with_reducible refine L_storeAt 26 ?_); (refine L_store (t := 26) hS rfl rfl ?_; refine ⟨_, _, mgk 33 (win i x (r + sd * pw k) (k + 1) H1), _, _, (.head), run_store_cell hS _ _ _ rfl _ _ rfl _ rfl _ _ _ (.head) size26 rfl rfl ?_ ?_, ?_⟩; (focus (rw [mgk_size]; omega)); (focus (exact win_set rfl HX.out HR.out HV.out HHn.out)); clear hS; intro _ hS)))
      go_roundw
      case rel => exact ⟨k + 1, c2, r + sd * pw k, H1, by omega, by go_num, rfl, hc2, HR2, HH1, HO2, hS⟩
      case measure => simp [intOf]; omega
    · have ek : k = n := by omega
      subst ek
      have hlt' : ¬ ((k : Nat) : Int) < ((k : Nat) : Int) := by omega
      have HHb : Hid (H < 4294967296) := by
        show H < 4294967296
        rw [← HH.out, Nat.div_lt_iff_lt_mul (pw_pos k), Nat.mul_comm, ← pw_succ]; exact HW.out
      have HHm : Hid (H % 4294967296 = H) := Nat.mod_eq_of_lt HHb.out
      have HHz : Hid (H / 4294967296 = 0) := Nat.div_eq_of_lt HHb.out
      obtain ⟨v, hv⟩ : ∃ v, (H + c) % 4294967296 = v := ⟨_, rfl⟩
      have hvZ : IntKind.u32.wrap (((H : Nat) : Int) + ((c : Nat) : Int)) = ((v : Nat) : Int) := by rw [IntKind.wrap_u32]; omega
      have HV : Hid (v < 4294967296) := by show v < _; omega
      have HF : Hid (r + v * pw k = (W + S) % pw (k + 1)) := by
        have h1 := HI.out
        rw [Nat.mod_eq_of_lt HS.out] at h1
        have h2 := Nat.div_add_mod W (pw k)
        rw [HH.out, Nat.mul_comm] at h2
        have h3 : W + S = (H + c) * pw k + r := by rw [Nat.add_mul]; omega
        have := (split_next h3 HR.out).1
        rw [hv] at this
        exact this.symm
      clear hv
      have HE : Hid (win i x (r + v * pw k) (k + 1) 0 = x + (r + v * pw k) * pw i) := win_end _ _ _ _
      go_wp2_with (first | ((with_reducible refine L_slot 32 ?_); (refine L_load (t := 26) rfl rfl ?_; refine ⟨_, run_load_cell hS _ _ rfl _ _ rfl _ _ (.inl (.head _)) _ Tryz.underlying26 rfl _ (win_get HX.out HR.out (by omega) HHm.out), ?_⟩)) | ((with_reducible refine L_storeAt 35 ?_); (refine L_store (t := 26) hS rfl rfl ?_; refine ⟨_, _, mgk 33 (win i x (r + v * pw k) (k + 1) 0), _, _, (.head), run_store_cell hS _ _ _ rfl _ _ rfl _ rfl _ _ _ (.head) size26 rfl rfl ?_ ?_, ?_⟩; (focus (rw [mgk_size]; omega)); (focus (exact win_set rfl HX.out HR.out HV.out HHz.out)); clear hS; intro _ hS)))
      refine body_end0 rfl rfl ⟨rfl, _, hS, ?_⟩
      rw [← hnw, ← HF.out, HE.out]
      exact .head _
end Go.Proofs.YtfdlgeomaballaaGreat
end
section
/- Long division: one limb of the quotient. -/
namespace Go.Proofs.YtfdlgeomaballaaGreat
open Go.RowKit
set_option linter.unusedVariables false

theorem limb_shift (L j t : Nat) : limb L (j + t) = limb (L / pw j) t := by
  unfold limb; rw [pw_add, ← Nat.div_div_eq_div_mul]
theorem est_facts {n n1 n2 j D L W q : Nat} (hn1 : n1 + 1 = n) (hn2 : n2 + 1 = n1) (hD : D < pw n) (hf : 2147483648 ≤ D / pw n1) (hL : L < D * pw (j + 1)) (hW : L / pw j = W) (hq : W / D = q) :
    W < pw (n + 1) ∧ q ≤ 4294967295 ∧ limb D n1 = D / pw n1 ∧ q * (limb D n1 * 4294967296 + limb D n2) ≤ (limb L (j + n) * 4294967296 + limb L (j + n1)) * 4294967296 + limb L (j + n2) ∧
    limb L (j + n) * 4294967296 + limb L (j + n1) < limb D n1 * 4294967296 + 4294967296 ∧
    (∀ g, g ≤ 4294967295 → g * (limb D n1 * 4294967296 + limb D n2) ≤ (limb L (j + n) * 4294967296 + limb L (j + n1)) * 4294967296 + limb L (j + n2) → g ≤ q + 1) := by
  subst hn2 hn1
  have hD0 : 0 < D := by
    refine Nat.pos_of_ne_zero fun e => ?_
    rw [e, Nat.zero_div] at hf; omega
  have hWD : W < D * 4294967296 := by
    have e : D * pw (j + 1) = D * 4294967296 * pw j := by rw [pw_succ j, Nat.mul_comm (pw j), Nat.mul_assoc]
    rw [e] at hL
    have := (Nat.div_lt_iff_lt_mul (pw_pos j)).2 hL
    rwa [hW] at this
  have hW1 : W < pw (n2 + 1 + 1 + 1) := by
    rw [pw_succ (n2 + 1 + 1)]
    exact Nat.lt_of_lt_of_le hWD (Nat.mul_le_mul_right _ (Nat.le_of_lt hD))
  have hq1 : q ≤ 4294967295 := by
    have : W / D < 4294967296 := by rw [Nat.div_lt_iff_lt_mul hD0, Nat.mul_comm]; exact hWD
    omega
  have hfl : D / pw (n2 + 1) < 4294967296 := by rw [Nat.div_lt_iff_lt_mul (pw_pos _), Nat.mul_comm, ← pw_succ]; exact hD
  have hlf : limb D (n2 + 1) = D / pw (n2 + 1) := by unfold limb; exact Nat.mod_eq_of_lt hfl
  have hD2 : D / pw n2 = limb D (n2 + 1) * 4294967296 + limb D n2 := by rw [hlf]; exact div_pw D n2
  have hwl : W / pw (n2 + 1 + 1) < 4294967296 := by rw [Nat.div_lt_iff_lt_mul (pw_pos _), Nat.mul_comm, ← pw_succ]; exact hW1
  have hwn : limb L (j + (n2 + 1 + 1)) = W / pw (n2 + 1 + 1) := by rw [limb_shift, hW]; unfold limb; exact Nat.mod_eq_of_lt hwl
  have hh : limb L (j + (n2 + 1 + 1)) * 4294967296 + limb L (j + (n2 + 1)) = W / pw (n2 + 1) := by rw [hwn, limb_shift, hW]; exact (div_pw W (n2 + 1)).symm
  have hW3 : (limb L (j + (n2 + 1 + 1)) * 4294967296 + limb L (j + (n2 + 1))) * 4294967296 + limb L (j + n2) = W / pw n2 := by rw [hh, limb_shift, hW]; exact (div_pw W n2).symm
  refine ⟨hW1, hq1, hlf, ?_, ?_, ?_⟩
  · rw [← hD2, hW3, ← hq]; exact est_q (pw_pos n2)
  · rw [hh, Nat.div_lt_iff_lt_mul (pw_pos _), hlf]
    have h1 := Nat.div_add_mod D (pw (n2 + 1))
    have h2 := Nat.mod_lt D (pw_pos (n2 + 1))
    obtain ⟨f, hf'⟩ : ∃ f, D / pw (n2 + 1) = f := ⟨_, rfl⟩
    rw [hf'] at h1 ⊢
    have h3 : D ≤ f * pw (n2 + 1) + pw (n2 + 1) := by rw [Nat.mul_comm] at h1; omega
    have h4 : D * 4294967296 ≤ (f * pw (n2 + 1) + pw (n2 + 1)) * 4294967296 := Nat.mul_le_mul_right _ h3
    have h5 : (f * pw (n2 + 1) + pw (n2 + 1)) * 4294967296 = (f * 4294967296 + 4294967296) * pw (n2 + 1) := by
      rw [Nat.add_mul, Nat.add_mul, Nat.mul_assoc f (pw (n2 + 1)) 4294967296, Nat.mul_assoc f 4294967296 (pw (n2 + 1)), Nat.mul_comm 4294967296 (pw (n2 + 1))]
    exact Nat.lt_of_lt_of_le hWD (Nat.le_trans h4 (Nat.le_of_eq h5))
  · intro g hg h
    rw [← hD2, hW3] at h
    rw [← hq]
    refine est_fin (pw_pos n2) hD0 h ?_
    rw [hD2, hlf]; omega

/-- The digit and the rest, out of what was taken off. -/
theorem step_digit {n D W q g r : Nat} {b : Bool} (hD0 : 0 < D) (hD : D < pw n) (hW : W < pw (n + 1)) (hq : W / D = q) (h1 : q ≤ g) (h2 : g ≤ q + 1) (hr : r < pw (n + 1)) (h : W + (if b then 1 else 0) * pw (n + 1) = r + g * D) :
    (b = false ∧ g = q ∧ r = W % D) ∨ (b = true ∧ g = q + 1 ∧ (r + D) % pw (n + 1) = W % D) := by
  have hdm := Nat.div_add_mod W D
  have hml := Nat.mod_lt W hD0
  rw [hq, Nat.mul_comm] at hdm
  have hpn : pw n ≤ pw (n + 1) := pw_le (by omega)
  rcases Nat.lt_or_ge q g with hlt | hge
  · have hg : g = q + 1 := by omega
    subst hg
    rw [Nat.add_mul, Nat.one_mul] at h
    cases b
    · simp at h; omega
    · simp at h
      refine .inr ⟨rfl, rfl, ?_⟩
      have : r + D = W % D + pw (n + 1) := by omega
      rw [this, Nat.add_mod_right, Nat.mod_eq_of_lt (by omega)]
  · have hg : g = q := by omega
    subst hg
    cases b
    · simp at h
      exact .inl ⟨rfl, rfl, by omega⟩
    · simp at h; omega

/-- What is left of the dividend, and the quotient so far. -/
theorem step_next {A D Q L W q j x : Nat} (hA : A = Q * D + L) (hx : L % pw j = x) (hW : L / pw j = W) (hq : W / D = q) (hD0 : 0 < D) : A = (Q + q * pw j) * D + (x + W % D * pw j) ∧ x + W % D * pw j < D * pw j := by
  have h1 := Nat.div_add_mod L (pw j)
  have h2 := Nat.div_add_mod W D
  rw [hx, hW] at h1
  rw [hq] at h2
  refine ⟨?_, ?_⟩
  · have e : pw j * W = pw j * (D * q) + W % D * pw j := by
      have : pw j * W = pw j * (D * q + W % D) := by rw [h2]
      rw [this, Nat.mul_add, Nat.mul_comm (pw j) (W % D)]
    have e2 : (Q + q * pw j) * D = Q * D + pw j * (D * q) := by rw [Nat.add_mul]; congr 1; ac_rfl
    omega
  · have hx' : x < pw j := by rw [← hx]; exact Nat.mod_lt _ (pw_pos j)
    have h3 : (W % D + 1) * pw j ≤ D * pw j := Nat.mul_le_mul_right _ (Nat.mod_lt W hD0)
    rw [Nat.add_mul, Nat.one_mul] at h3
    omega
theorem put_zero {Q j q : Nat} (h : Q % pw (j + 1) = 0) : put Q j q = Q + q * pw j ∧ (Q + q * pw j) % pw j = 0 := by
  have hl : limb Q j = 0 := by
    rw [mod_pw] at h
    have hp := pw_pos j
    refine Classical.byContradiction fun hn => ?_
    have : 1 * pw j ≤ limb Q j * pw j := Nat.mul_le_mul_right _ (by omega)
    omega
  refine ⟨by unfold put; rw [hl]; omega, ?_⟩
  rw [Nat.add_mul_mod_self_right]
  rw [mod_pw] at h
  omega
end Go.Proofs.YtfdlgeomaballaaGreat
end
section
/- The walk of divideByLimbs. -/
namespace Go.Proofs.YtfdlgeomaballaaGreat
open Go.RowKit
set_option linter.unusedVariables false

set_option maxHeartbeats 400000 in
theorem leading_any (x s : Nat) (hx : x < 4294967296) (hs : s + bl x = 32) : Gives Tryz.prog 99 #[.int .u32 ((x : Nat) : Int)] (.int .i64 ((s : Nat) : Int)) := by
  intro w
  have hS := St.start w
  have G := len32_any x hx
  have e : (32 : Int) - ((bl x : Nat) : Int) = ((s : Nat) : Int) := by omega
  have hb : bl x ≤ 32 := by omega
  generalize bl x = y at *
  go_enter Tryz.func99, Tryz.ntmps99
  go_wp2_with (first | (go_at_call 97; (with_reducible refine Gives.use (G) hS ?_); clear hS; intro _ hS))
  go_ret
  exact ⟨rfl, hS.below⟩

theorem estimate_any (bl bs j n n1 n2 nw capw caps L D W q : Nat) (hn1 : n1 + 1 = n) (hn2 : n2 + 1 = n1) (hnw : n + 1 = nw) (hin : j + n + 1 ≤ 33) (hnb : n ≤ 32) (hD : D < pw n) (hf : 2147483648 ≤ D / pw n1) (hL : L < D * pw (j + 1)) (hW : L / pw j = W) (hq : W / D = q)
    (w : World) (hbl : w.heap[bl]? = some (.cells (mgk 33 L) 105)) (hbs : w.heap[bs]? = some (.cells (mgk 33 D) 105)) :
    Calls Tryz.prog 101 #[.slice (some ⟨bl, j, none⟩) nw capw, .slice (some ⟨bs, 0, none⟩) n caps] w fun e w' => (∃ g : Nat, e = .returned (.int .u32 ((g : Nat) : Int)) ∧ q ≤ g ∧ g ≤ q + 1 ∧ g ≤ 4294967295) ∧ Below w.heap.size w w' := by
  obtain ⟨h1, h2, h3, h4, h5, h6⟩ := est_facts hn1 hn2 hD hf hL hW hq
  have k1 := limb_lt D n1
  have k2 := limb_lt D n2
  have k3 := limb_lt L (j + n)
  have k4 := limb_lt L (j + n1)
  have k5 := limb_lt L (j + n2)
  rw [← h3] at hf
  refine (estimate_core bl bs j n n1 n2 nw capw caps L D _ _ _ _ _ q _ (by omega) (by omega) hnw hin (by omega) rfl rfl rfl rfl rfl (by omega) (by omega) (by omega) (by omega) (by omega) rfl h4 h5 h2 w hbl hbs).mono ?_
  intro e w' ⟨⟨g, he, g1, g2, g3⟩, hb⟩
  exact ⟨⟨g, he, g1, h6 g g2 g3, g2⟩, hb⟩

set_option maxRecDepth 100000 in
set_option maxHeartbeats 8000000 in
theorem limbs_core (A0 B0 n n1 n2 s p A D la top : Nat) (hn1 : n1 + 1 = n) (hn2 : n2 + 1 = n1) (hnb : n ≤ 32) (hA0 : A0 < pw 32) (hB0 : B0 < pw 32) (hs : s < 32) (hA : A0 * 2 ^ s = A) (hD : B0 * 2 ^ s = D)
    (htop : limb B0 n1 = top) (hlz : s + bl top = 32) (hla : nl A0 = la) (hnla : n ≤ la) (hla2 : la ≤ 32) (hDn : D < pw n) (hDf : 2147483648 ≤ D / pw n1) (hAD : A < D * pw (la - n + 1)) :
    Gives Tryz.prog 86 #[.agg (mgk 32 A0), .agg (mgk 32 B0), .int .i64 ((n : Nat) : Int)] (.tuple #[.agg (mgk 32 (A0 / B0)), .agg (mgk 32 (A0 % B0))]) := by
  intro w
  have hS := St.start w
  have GA := shiftLeft_any A0 s hA0 hs
  have GB := shiftLeft_any B0 s hB0 hs
  rw [hA] at GA
  rw [hD] at GB
  have htopb : top < 4294967296 := by rw [← htop]; exact limb_lt _ _
  have GL := leading_any top s htopb hlz
  have GC := limbCount_any A0
  rw [hla] at GC
  have HTOP : Hid ((mgk 32 B0)[n1]? = some (.int .u32 ((top : Nat) : Int))) := by show _ = _; rw [mgk_get' (by omega), htop]
  have HDn := Lib.hid hDn
  have HDf := Lib.hid hDf
  have HAD := Lib.hid hAD
  have HD0 : Hid (0 < D) := by
    refine Nat.pos_of_ne_zero fun e => ?_
    rw [e, Nat.zero_div] at hDf; omega
  have HFIN : Hid (∀ Q L, A = Q * D + L → L < D → Q = A0 / B0 ∧ L / 2 ^ s = A0 % B0 ∧ L / 2 ^ s < pw 32) := by
    intro Q L h1 h2
    have hp : 0 < 2 ^ s := Nat.pow_pos (by omega)
    have hB : 0 < B0 := by
      refine Nat.pos_of_ne_zero fun e => ?_
      rw [← hD, e, Nat.zero_mul] at h2; omega
    have e1 : Q = A / D := by
      rw [h1, Nat.mul_comm, Nat.mul_add_div (by omega), Nat.div_eq_of_lt h2]; omega
    have e2 : L = A % D := by
      rw [h1, Nat.mul_comm, Nat.mul_add_mod, Nat.mod_eq_of_lt h2]
    have e3 : A / D = A0 / B0 := by rw [← hA, ← hD, Nat.mul_div_mul_right _ _ hp]
    have e4 : A % D = A0 % B0 * 2 ^ s := by rw [← hA, ← hD, Nat.mul_mod_mul_right]
    have e5 : L / 2 ^ s = A0 % B0 := by rw [e2, e4, Nat.mul_div_cancel _ hp]
    refine ⟨by rw [e1, e3], e5, ?_⟩
    rw [e5]
    exact Nat.lt_of_le_of_lt (Nat.mod_le _ _) hA0
  have c1 : ((n : Nat) : Int) - 1 = ((n1 : Nat) : Int) := by omega
  have c2 : ((n1 : Nat) : Int) < 32 := by omega
  have c3 : ((n : Nat) : Int) ≤ 33 := by omega
  have c4 : (0 : Int) ≤ ((n : Nat) : Int) := by omega
  clear hA hD hDn hDf hAD hA0 hB0 hlz hla htop
  go_enter Tryz.func86, Tryz.ntmps86
  go_wp2_with (first | (refine L_box_agg (o := ⟨some 3, _, _, _, _, _⟩) hS rfl rfl ?_; refine ⟨_, rfl, ?_⟩; clear hS; intro b3 _ hS) | (refine L_box_agg (o := ⟨some 4, _, _, _, _, _⟩) hS rfl rfl ?_; refine ⟨_, rfl, ?_⟩; clear hS; intro b4 _ hS) | (refine L_alloc_agg (o := ⟨some 6, _, _, _, _, _⟩) hS rfl rfl ?_; refine ⟨_, zero74, ?_⟩; clear hS; intro b6 _ hS) | (refine L_alloc_agg (o := ⟨some 7, _, _, _, _, _⟩) hS rfl rfl ?_; refine ⟨_, zero74, ?_⟩; clear hS; intro b7 _ hS) | ((with_reducible refine L_slot 18 ?_); (refine L_load (t := 26) rfl rfl ?_; refine ⟨_, run_load_cell hS _ _ rfl _ _ rfl _ _ (.inl (.tail _ (.tail _ (.head _)))) _ Tryz.underlying26 rfl _ (HTOP.out), ?_⟩)) | (go_at_call 99; (with_reducible refine Gives.use (GL) hS ?_); clear hS; intro _ hS))
  (try simp only [Act.put]); (try simp only [List.setIfInBounds_toArray, List.set_cons_succ, List.set_cons_zero]); refine wp_region_2newa (hd := [_, _, _, _, _, _]) 105 105 (mgk 33 0) (mgk 33 0) (mgk 33 A) (mgk 33 D) hS (by kernel_rfl) (by kernel_rfl) (by kernel_rfl) ⟨_, _, _, rfl⟩ ⟨_, _, _, rfl⟩ ?_
  (refine wpHa_cons ?_; apply Exists.intro; apply And.intro; (focus (apply Ha_run; exact rfl; intro _ hS'; exact run_load_row hS' 74 _ rfl _ rfl _ _ (.inl (.tail _ (.tail _ (.tail _ (.head _))))) _ Tryz.underlying74 rfl (size74_mg _))); simp only [Act.put, List.setIfInBounds_toArray, List.set_cons_succ, List.set_cons_zero])
  (refine wpHa_cons ?_; apply Exists.intro; apply And.intro; (focus (apply Ha_run; exact rfl; intro _ _; go_simp; (try go_bits); exact rfl)); simp only [Act.put, List.setIfInBounds_toArray, List.set_cons_succ, List.set_cons_zero])
  (refine wpHa_cons ?_; apply Exists.intro; apply And.intro; (focus (refine Ha_call 100 _ rfl (fun _ => ?_) (GA); go_simp; done)); simp only [Act.put, List.setIfInBounds_toArray, List.set_cons_succ, List.set_cons_zero])
  (refine wpHa_cons ?_; apply Exists.intro; apply And.intro; (focus (apply Ha_run; exact rfl; intro _ hS'; exact run_load_row hS' 74 _ rfl _ rfl _ _ (.inl (.tail _ (.tail _ (.head _)))) _ Tryz.underlying74 rfl (size74_mg _))); simp only [Act.put, List.setIfInBounds_toArray, List.set_cons_succ, List.set_cons_zero])
  (refine wpHa_cons ?_; apply Exists.intro; apply And.intro; (focus (apply Ha_run; exact rfl; intro _ _; go_simp; (try go_bits); exact rfl)); simp only [Act.put, List.setIfInBounds_toArray, List.set_cons_succ, List.set_cons_zero])
  (refine wpHa_cons ?_; apply Exists.intro; apply And.intro; (focus (refine Ha_call 100 _ rfl (fun _ => ?_) (GB); go_simp; done)); simp only [Act.put, List.setIfInBounds_toArray, List.set_cons_succ, List.set_cons_zero])
  refine ⟨rfl, rfl, rfl, rfl, rfl, rfl, zero105, zero105, fun _ _ => rfl, fun _ _ _ hS' => run_store_row hS' 105 _ _ rfl _ rfl _ _ rfl _ (.tail .head) (size105_mg _) (mg_sizes _ _ _) (oneCells _ _), fun _ _ _ hS' => run_store_row hS' 105 _ _ rfl _ rfl _ _ rfl _ .head (size105_mg _) (mg_sizes _ _ _) (oneCells _ _), ?_⟩; clear hS
  intro b9 b10 w1 hS
  simp only [Act.put, List.setIfInBounds_toArray, List.set_cons_succ, List.set_cons_zero]
  go_wp2_with (first | ((with_reducible refine L_slot 28 ?_); (refine L_load (t := 74) rfl rfl ?_; refine ⟨_, run_load_row hS _ _ rfl _ rfl _ _ (.inl (.tail _ (.tail _ (.tail _ (.tail _ (.tail _ (.head _))))))) _ Tryz.underlying74 rfl (size74_mg _), ?_⟩)) | (go_at_call 84; (with_reducible refine Gives.use (GC) hS ?_); clear hS; intro _ hS))
  go_loopw [12] (fun iv wr => ∃ k Q L : Nat, k + n ≤ 33 ∧ iv = .int .i64 ((k : Int) - 1) ∧ Hid (A = Q * D + L) ∧ Hid (L < D * pw k) ∧ Hid (Q % pw k = 0 ∧ Q < pw 32) ∧ St none w wr [] [(b10, .cells (mgk 33 D) 105), (b9, .cells (mgk 33 L) 105), (b7, .cells (mgk 32 0) 74), (b6, .cells (mgk 32 Q) 74), (b4, .cells (mgk 32 B0) 74), (b3, .cells (mgk 32 A0) 74)]) (fun iv _ => (intOf iv + 1).toNat)
  case atStart =>
    have e0 : ((la : Nat) : Int) - ((n : Nat) : Int) = ((la - n + 1 : Nat) : Int) - 1 := by omega
    have e1 : Hid (A = 0 * D + A) := by show A = 0 * D + A; rw [Nat.zero_mul, Nat.zero_add]
    have e2 : Hid (0 % pw (la - n + 1) = 0 ∧ 0 < pw 32) := ⟨Nat.zero_mod _, pw_pos 32⟩
    have e3 : la - n + 1 + n ≤ 33 := by omega
    exact ⟨la - n + 1, 0, A, e3, congrArg (Value.int .i64) e0, e1, HAD, e2, hS⟩
  case round =>
    clear hS
    obtain ⟨k, Q, L, hk, rfl, HA, HL, HQ, hS⟩ := hrel
    rcases k with _ | j
    · have HF := HFIN.out Q L HA.out (by have := HL.out; rwa [pw_zero, Nat.mul_one] at this)
      obtain ⟨f1, f2, f3⟩ := HF
      have GR := shiftRight_any L s f3 hs
      rw [f2] at GR
      have HF1 := Lib.hid f1
      clear f1 f2 f3
      go_wp2_with (fail)
      (try simp only [Act.put]); (try simp only [List.setIfInBounds_toArray, List.set_cons_succ, List.set_cons_zero]); refine wp_region_u2 hS 4 5 [] (.tail (.tail (.tail (.head (o' := .cells (mgk 32 Q) 74))))) (.tail (.tail (.head (o' := .cells (mgk 32 (A0 % B0)) 74)))) (by kernel_rfl) (by kernel_rfl) ?_
      (refine S_load (t := 74) rfl rfl rfl rfl ?_; refine ⟨_, fun _ hS' => run_load_row hS' _ _ rfl _ rfl _ _ (.inl (.tail _ (.tail _ (.tail _ (.head _))))) _ Tryz.underlying74 rfl (size74_mg _), ?_⟩; simp only [Act.put, List.setIfInBounds_toArray, List.set_cons_succ, List.set_cons_zero])
      (refine S_load (t := 105) rfl rfl rfl rfl ?_; refine ⟨_, fun _ hS' => run_load_row hS' _ _ rfl _ rfl _ _ (.inl (.tail _ (.head _))) _ Tryz.underlying105 rfl (size105_mg _), ?_⟩; simp only [Act.put, List.setIfInBounds_toArray, List.set_cons_succ, List.set_cons_zero])
      (refine S_run rfl rfl ?_; apply Exists.intro; refine ⟨fun _ => ?_, ?_⟩; (focus (go_simp; (try go_bits); exact rfl)); simp only [Act.put, List.setIfInBounds_toArray, List.set_cons_succ, List.set_cons_zero])
      (refine S_call 104 rfl rfl rfl rfl ?_; apply Exists.intro; refine ⟨fun _ => ?_, ?_⟩; (focus (go_simp; exact rfl)); apply Exists.intro; (with_reducible refine ⟨GR, ?_⟩); simp only [Act.put, List.setIfInBounds_toArray, List.set_cons_succ, List.set_cons_zero])
      (refine S_store (t := 74) rfl rfl rfl ?_; refine ⟨_, _, _, _, (.tail (.tail (.tail .head))), fun _ hS' => run_store_row hS' _ _ _ rfl _ rfl _ _ rfl _ (.tail (.tail (.tail .head))) (size74_mg _) (mg_sizes _ _ _) (oneCells _ _), ?_⟩; simp only [Act.put])
      (refine S_store (t := 74) rfl rfl rfl ?_; refine ⟨_, _, _, _, (.tail (.tail .head)), fun _ hS' => run_store_row hS' _ _ _ rfl _ rfl _ _ rfl _ (.tail (.tail .head)) (size74_mg _) (mg_sizes _ _ _) (oneCells _ _), ?_⟩; simp only [Act.put])
      refine S_end2 ?_; clear hS; intro _ hS
      go_wp2_with (fail)
      (try simp only [Exit.inBlock, Exit.then]); refine bodyPost_ret (res_cell_cell rfl _ _ _ _ _ (run_loadRow hS _ _ _ _ (.inl (.tail _ (.tail _ (.tail _ (.head _))))) _ Tryz.underlying74 rfl (size74_mg _)) (run_loadRow hS _ _ _ _ (.inl (.tail _ (.tail _ (.head _)))) _ Tryz.underlying74 rfl (size74_mg _)) rfl rfl) rfl ⟨?_, hS.below⟩
      rw [← HF1.out]
    · obtain ⟨W, hW⟩ : ∃ W, L / pw j = W := ⟨_, rfl⟩
      obtain ⟨x, hx⟩ : ∃ x, L % pw j = x := ⟨_, rfl⟩
      obtain ⟨q, hq⟩ : ∃ q, W / D = q := ⟨_, rfl⟩
      have HE := Lib.hid (est_facts hn1 hn2 HDn.out HDf.out HL.out hW hq)
      have HN := Lib.hid (step_next HA.out hx hW hq HD0.out)
      have HP := Lib.hid (put_zero (q := q) HQ.out.1)
      have HX : Hid (x < pw j) := by show x < pw j; rw [← hx]; exact Nat.mod_lt _ (pw_pos j)
      have HLx : Hid (L = x + W * pw j) := by
        show L = x + W * pw j
        have := Nat.div_add_mod L (pw j)
        rw [hW, hx, Nat.mul_comm] at this; omega
      have HW := Lib.hid hW
      have Hq := Lib.hid hq
      have hqb : q ≤ 4294967295 := HE.out.2.1
      have HQ2 : Hid ((Q + q * pw j) % pw j = 0 ∧ Q + q * pw j < pw 32) := ⟨HP.out.2, by rw [← HP.out.1]; exact put_lt HQ.out.2 (by omega) (by omega)⟩
      have HQS : Hid ((mgk 32 Q).setIfInBounds j (.int .u32 ((q : Nat) : Int)) = mgk 32 (Q + q * pw j)) := by
        show _ = _
        rw [mgk_put' Q q rfl (by omega), HP.out.1]
      clear hW hx hq
      have ej : ((j + 1 : Nat) : Int) - 1 = (j : Int) := by omega
      rw [ej]
      clear ej
      obtain ⟨mm, hmm⟩ : ∃ mm, j + n + 1 = mm := ⟨_, rfl⟩
      have d1 : ((j : Nat) : Int) + ((n : Nat) : Int) + 1 = ((mm : Nat) : Int) := by omega
      have d2 : ((j : Nat) : Int) ≤ ((mm : Nat) : Int) := by omega
      have d3 : ((mm : Nat) : Int) ≤ 33 := by omega
      obtain ⟨nw, hnw⟩ : ∃ nw, n + 1 = nw := ⟨_, rfl⟩
      have d4 : mm - j = nw := by omega
      have d5 : (((mm : Nat) : Int) - ((j : Nat) : Int)).toNat = nw := by omega
      have dk : j + n + 1 ≤ 33 := by omega
      clear hk hmm
      have dj : j < 32 := by omega
      go_wp2_with (first | (go_at_call 101; fail))
      have hne : b10 ≠ b9 := (List.pairwise_cons.1 hS.apart).1 _ (.head _)
      refine (estimate_any b9 b10 j n n1 n2 nw (33 - j) 33 L D W q hn1 hn2 hnw dk hnb HDn.out HDf.out HL.out HW.out Hq.out _ (hS.get (.inl (.tail _ (.head _)))) (hS.get (.inl (.head _)))).mono ?_
      intro e w2 ⟨⟨g, he, g1, g2, g3⟩, hb⟩
      subst he
      replace hS := hS.later hb
      clear hb
      rw [HLx.out] at hS
      go_wp2_with (first | (go_at_call 102; fail))
      refine (takeOff_core b9 b10 j n nw (33 - j) 33 x W D g hne hnw dk hnb HX.out HE.out.1 HDn.out (by omega) _ (hS.get (.inl (.tail _ (.head _)))) (hS.get (.inl (.head _)))).mono ?_
      intro e w3 ⟨b, rr, he, hr, heq, l2, h2, hm⟩
      subst he
      replace hS := hS.but (.tail .head) h2 hm
      clear h2 hm
      rcases step_digit HD0.out HDn.out HE.out.1 Hq.out g1 g2 hr heq with ⟨rfl, hg, rfl⟩ | ⟨rfl, hg, hrr⟩
      · have hg' := hg.symm
        clear hg
        subst hg'
        clear hr heq g1 g2 g3
        go_wp2_with (first | ((with_reducible refine L_storeAt 56 ?_); refine L_store (t := 26) hS rfl rfl ?_; refine ⟨_, _, mgk 32 (Q + q * pw j), _, _, (.tail (.tail (.tail .head))), run_store_cell hS _ _ _ rfl _ _ rfl _ rfl _ _ _ (.tail (.tail (.tail .head))) size26 rfl rfl ?_ ?_, ?_⟩; (focus (rw [mgk_size]; omega)); (focus (exact HQS.out)); clear hS; intro _ hS))
        go_roundw
        case rel => exact ⟨j, Q + q * pw j, x + W % D * pw j, by omega, rfl, HN.out.1, HN.out.2, HQ2, hS⟩
        case measure => simp [intOf]
      · clear heq g1 g2
        have hgq : ((g : Nat) : Int) - 1 = ((q : Nat) : Int) := by omega
        have hg1 : (1 : Int) ≤ ((g : Nat) : Int) := by omega
        have HR := Lib.hid hr
        have HRR := Lib.hid hrr
        clear hg hr hrr
        go_wp2_with (first | (go_at_call 103; fail))
        refine (putBack_core b9 b10 j n nw (33 - j) 33 x rr D hne hnw dk hnb HX.out HR.out HDn.out _ (hS.get (.inl (.tail _ (.head _)))) (hS.get (.inl (.head _)))).mono ?_
        intro e w4 ⟨he, l2, h2, hm⟩
        subst he
        rw [HRR.out] at hm
        replace hS := hS.but (.tail .head) h2 hm
        clear h2 hm
        go_wp2_with (first | ((with_reducible refine L_storeAt 56 ?_); refine L_store (t := 26) hS rfl rfl ?_; refine ⟨_, _, mgk 32 (Q + q * pw j), _, _, (.tail (.tail (.tail .head))), run_store_cell hS _ _ _ rfl _ _ rfl _ rfl _ _ _ (.tail (.tail (.tail .head))) size26 rfl rfl ?_ ?_, ?_⟩; (focus (rw [mgk_size]; omega)); (focus (exact HQS.out)); clear hS; intro _ hS))
        go_roundw
        case rel => exact ⟨j, Q + q * pw j, x + W % D * pw j, by omega, rfl, HN.out.1, HN.out.2, HQ2, hS⟩
        case measure => simp [intOf]
end Go.Proofs.YtfdlgeomaballaaGreat
end
section
/- Division in general. -/
namespace Go.Proofs.YtfdlgeomaballaaGreat
open Go.RowKit
set_option linter.unusedVariables false

theorem norm_facts {m n1 s top : Nat} (hm : m < pw (n1 + 1)) (ht : limb m n1 = top) (h0 : top ≠ 0) (hs : s + bl top = 32) : s < 32 ∧ m * 2 ^ s < pw (n1 + 1) ∧ 2147483648 ≤ m * 2 ^ s / pw n1 ∧ pw n1 ≤ m := by
  have hb := bl_pos h0
  have hdv : m / pw n1 = top := by
    rw [← ht]; unfold limb
    exact (Nat.mod_eq_of_lt (by rw [Nat.div_lt_iff_lt_mul (pw_pos n1), Nat.mul_comm, ← pw_succ]; exact hm)).symm
  have hdm := Nat.div_add_mod m (pw n1)
  have hml := Nat.mod_lt m (pw_pos n1)
  rw [hdv] at hdm
  have h1 : top + 1 ≤ 2 ^ bl top := bl_lt top
  have h2 : 2 ^ (bl top - 1) ≤ top := bl_ge h0
  have e1 : 2 ^ bl top * 2 ^ s = 4294967296 := by rw [← Nat.pow_add, show bl top + s = 32 by omega]
  have e2 : 2 ^ (bl top - 1) * 2 ^ s = 2147483648 := by rw [← Nat.pow_add, show bl top - 1 + s = 31 by omega]
  have k1 : (top + 1) * 2 ^ s ≤ 4294967296 := by rw [← e1]; exact Nat.mul_le_mul_right _ h1
  have k2 : 2147483648 ≤ top * 2 ^ s := by rw [← e2]; exact Nat.mul_le_mul_right _ h2
  have hp : 0 < 2 ^ s := Nat.pow_pos (by omega)
  refine ⟨by omega, ?_, ?_, ?_⟩
  · have h3 : m < (top + 1) * pw n1 := by rw [Nat.add_mul, Nat.one_mul, Nat.mul_comm top]; omega
    have h4 : m * 2 ^ s < (top + 1) * pw n1 * 2 ^ s := Nat.mul_lt_mul_of_pos_right h3 hp
    have h5 : (top + 1) * pw n1 * 2 ^ s = (top + 1) * 2 ^ s * pw n1 := Nat.mul_right_comm ..
    have h6 : (top + 1) * 2 ^ s * pw n1 ≤ 4294967296 * pw n1 := Nat.mul_le_mul_right _ k1
    rw [pw_succ, Nat.mul_comm (pw n1)]
    rw [h5] at h4
    exact Nat.lt_of_lt_of_le h4 h6
  · rw [Nat.le_div_iff_mul_le (pw_pos n1)]
    have h3 : top * pw n1 ≤ m := by rw [Nat.mul_comm]; omega
    have h4 : top * pw n1 * 2 ^ s ≤ m * 2 ^ s := Nat.mul_le_mul_right _ h3
    have h5 : top * pw n1 * 2 ^ s = top * 2 ^ s * pw n1 := Nat.mul_right_comm ..
    have h6 : 2147483648 * pw n1 ≤ top * 2 ^ s * pw n1 := Nat.mul_le_mul_right _ k2
    rw [h5] at h4
    exact Nat.le_trans h6 h4
  · have h3 : 1 * pw n1 ≤ top * pw n1 := Nat.mul_le_mul_right _ (by omega)
    rw [Nat.mul_comm top] at h3; omega

theorem limbs_any (A0 B0 n : Nat) (hA0 : A0 < pw 32) (hB0 : B0 < pw 32) (hn : nl B0 = n) (h2 : 2 ≤ n) (hle : B0 ≤ A0) :
    Gives Tryz.prog 86 #[.agg (mgk 32 A0), .agg (mgk 32 B0), .int .i64 ((n : Nat) : Int)] (.tuple #[.agg (mgk 32 (A0 / B0)), .agg (mgk 32 (A0 % B0))]) := by
  obtain ⟨n2, rfl⟩ : ∃ n2, n = n2 + 1 + 1 := ⟨n - 2, by omega⟩
  have hnb : n2 + 1 + 1 ≤ 32 := by have := nl_le B0; omega
  have hBn : B0 < pw (n2 + 1 + 1) := by have := nl_lt hB0; rwa [hn] at this
  have htop : limb B0 (n2 + 1) ≠ 0 := by
    rcases nl_top B0 with h | h
    · omega
    · rw [hn] at h; exact h
  have hbl : bl (limb B0 (n2 + 1)) ≤ 32 := by
    refine bl_le ?_
    have := limb_lt B0 (n2 + 1)
    exact this
  obtain ⟨s, hs⟩ : ∃ s, s + bl (limb B0 (n2 + 1)) = 32 := ⟨32 - bl (limb B0 (n2 + 1)), by omega⟩
  obtain ⟨f1, f2, f3, f4⟩ := norm_facts hBn rfl htop hs
  have hla : n2 + 1 + 1 ≤ nl A0 := by
    refine Classical.byContradiction fun hc => ?_
    have h1 := nl_lt hA0
    have h3 : pw (nl A0) ≤ pw (n2 + 1) := pw_le (by omega)
    omega
  have hla2 := nl_le A0
  refine limbs_core A0 B0 (n2 + 1 + 1) (n2 + 1) n2 s 0 _ _ (nl A0) _ rfl rfl hnb hA0 hB0 f1 rfl rfl rfl hs rfl hla hla2 f2 f3 ?_
  have hA : A0 < pw (nl A0) := nl_lt hA0
  have hp : 0 < 2 ^ s := Nat.pow_pos (by omega)
  have hsb : 2 ^ s ≤ 2147483648 := Nat.pow_le_pow_right (by omega) (show s ≤ 31 by omega)
  have g1 : A0 * 2 ^ s < pw (nl A0) * 2 ^ s := Nat.mul_lt_mul_of_pos_right hA hp
  have g2 : pw (nl A0) * 2 ^ s ≤ pw (nl A0) * 2147483648 := Nat.mul_le_mul_left _ hsb
  have g3 : 2147483648 * pw (n2 + 1) ≤ B0 * 2 ^ s := (Nat.le_div_iff_mul_le (pw_pos _)).1 f3
  have g4 : 2147483648 * pw (n2 + 1) * pw (nl A0 - (n2 + 1 + 1) + 1) ≤ B0 * 2 ^ s * pw (nl A0 - (n2 + 1 + 1) + 1) := Nat.mul_le_mul_right _ g3
  have g5 : 2147483648 * pw (n2 + 1) * pw (nl A0 - (n2 + 1 + 1) + 1) = pw (nl A0) * 2147483648 := by
    rw [Nat.mul_assoc, ← pw_add, Nat.mul_comm]
    congr 2; omega
  rw [g5] at g4
  exact Nat.lt_of_lt_of_le g1 (Nat.le_trans g2 g4)

set_option maxRecDepth 10000 in
set_option maxHeartbeats 2000000 in
theorem divide_any (n m : Nat) (hn : n < pw 32) (hm : m < pw 32) (h0 : 0 < m) : DivGives n m := by
  by_cases h1 : m < 4294967296
  · exact divide_one n m hn h0 h1
  have h2 : 2 ≤ nl m := by
    refine Classical.byContradiction fun hc => ?_
    have h3 := nl_lt hm
    have h4 : pw (nl m) ≤ pw 1 := pw_le (by omega)
    rw [pw_one] at h4; omega
  intro w
  have hS := St.start w
  have HN := Lib.hid hn
  have HM := Lib.hid hm
  obtain ⟨k, hk⟩ : ∃ k, nl m = k := ⟨_, rfl⟩
  have G : Gives Tryz.prog 84 #[.agg (mgk 32 m)] (.int .i64 ((k : Nat) : Int)) := by
    have := limbCount_any m; rwa [hk] at this
  have hk1 : (((k : Nat) : Int) == 1) = false := by simp; omega
  by_cases hlt : n < m
  · have GC := compare_any n m hn hm
    rw [cmpv_lt hlt] at GC
    have HR : Hid (n / m = 0 ∧ n % m = n) := ⟨Nat.div_eq_of_lt hlt, Nat.mod_eq_of_lt hlt⟩
    clear hn hm h0 h1 h2 hk hlt
    unfold DivGives at *
    rw [HR.out.1, HR.out.2]
    go_enter Tryz.func67, Tryz.ntmps67
    go_wp2_with (first | ((with_reducible refine L_slot 2 ?_); (refine L_box_agg (o := ⟨some 2, _, _, _, _, _⟩) hS rfl rfl ?_; refine ⟨_, rfl, ?_⟩; clear hS; intro b2 _ hS)) | ((with_reducible refine L_slot 3 ?_); (refine L_box_agg (o := ⟨some 3, _, _, _, _, _⟩) hS rfl rfl ?_; refine ⟨_, rfl, ?_⟩; clear hS; intro b3 _ hS)) | ((with_reducible refine L_slot 4 ?_); (refine L_alloc_agg (o := ⟨some 4, _, _, _, _, _⟩) hS rfl rfl ?_; refine ⟨_, zero74, ?_⟩; clear hS; intro b4 _ hS)) | ((with_reducible refine L_slot 5 ?_); (refine L_alloc_agg (o := ⟨some 5, _, _, _, _, _⟩) hS rfl rfl ?_; refine ⟨_, zero74, ?_⟩; clear hS; intro b5 _ hS)) | ((with_reducible refine L_slot 7 ?_); (refine L_load (t := 74) rfl rfl ?_; refine ⟨_, run_load_row hS _ _ rfl _ rfl _ _ (.inl (.tail _ (.tail _ (.head _)))) _ Tryz.underlying74 rfl (size74_mg _), ?_⟩)) | ((with_reducible refine L_slot 21 ?_); (refine L_load (t := 74) rfl rfl ?_; refine ⟨_, run_load_row hS _ _ rfl _ rfl _ _ (.inl (.tail _ (.tail _ (.tail _ (.head _))))) _ Tryz.underlying74 rfl (size74_mg _), ?_⟩)) | ((with_reducible refine L_slot 22 ?_); (refine L_load (t := 74) rfl rfl ?_; refine ⟨_, run_load_row hS _ _ rfl _ rfl _ _ (.inl (.tail _ (.tail _ (.head _)))) _ Tryz.underlying74 rfl (size74_mg _), ?_⟩)) | ((with_reducible refine L_slot 27 ?_); (refine L_load (t := 74) rfl rfl ?_; refine ⟨_, run_load_row hS _ _ rfl _ rfl _ _ (.inl (.tail _ (.tail _ (.tail _ (.head _))))) _ Tryz.underlying74 rfl (size74_mg _), ?_⟩)) | ((with_reducible refine L_slot 28 ?_); (refine L_load (t := 74) rfl rfl ?_; refine ⟨_, run_load_row hS _ _ rfl _ rfl _ _ (.inl (.tail _ (.tail _ (.head _)))) _ Tryz.underlying74 rfl (size74_mg _), ?_⟩)) | (go_at_call 84; (with_reducible refine Gives.use (G) hS ?_); clear hS; intro _ hS) | (go_at_call 81; (with_reducible refine Gives.use (GC) hS ?_); clear hS; intro _ hS))
    (try simp only [Act.put]); (try simp only [List.setIfInBounds_toArray, List.set_cons_succ, List.set_cons_zero]); refine wp_region_u2 hS 2 3 [1] (.tail (.head (o' := .cells (mgk 32 0) 74))) (.head (o' := .cells (mgk 32 n) 74)) (by kernel_rfl) (by kernel_rfl) ?_
    (refine S_build rfl rfl rfl ?_; refine ⟨_, built74, ?_⟩; simp only [Act.put, List.setIfInBounds_toArray, List.set_cons_succ, List.set_cons_zero])
    (refine S_float (t := 74) rfl rfl rfl ?_ (by decide); refine ⟨.agg (mgk 32 (n)), fun q _ hq _ hS' => run_load_row hS' _ _ rfl _ rfl (mgk 32 (n)) 74 (by rcases q with _ | _ | _ | q; (focus exact .inl (.tail _ (.tail _ (.tail _ (.head _))))); (focus exact .inl (.tail _ (.tail _ (.tail _ (.head _))))); (focus exact .inl (.tail _ (.tail _ (.tail _ (.head _))))); exact absurd hq (by simp)) _ Tryz.underlying74 rfl (size74_mg _), ?_⟩; simp only [Act.put, List.setIfInBounds_toArray, List.set_cons_succ, List.set_cons_zero])
    (refine S_store (t := 74) rfl rfl rfl ?_; refine ⟨_, _, _, _, (.tail .head), fun _ hS' => run_store_row hS' _ _ _ rfl _ rfl _ _ rfl _ (.tail .head) (size74_mg _) (mg_sizes _ _ _) (oneCells _ _), ?_⟩; simp only [Act.put])
    (refine S_store (t := 74) rfl rfl rfl ?_; refine ⟨_, _, _, _, (.head), fun _ hS' => run_store_row hS' _ _ _ rfl _ rfl _ _ rfl _ (.head) (size74_mg _) (mg_sizes _ _ _) (oneCells _ _), ?_⟩; simp only [Act.put])
    refine S_end2 ?_; clear hS; intro _ hS
    go_wp2_with (fail)
    (try simp only [Exit.inBlock, Exit.then])
    (try simp only [Exit.inBlock, Exit.then]); refine bodyPost_ret (res_cell_cell rfl _ _ _ _ _ (run_loadRow hS _ _ _ _ (.inl (.tail _ (.head _))) _ Tryz.underlying74 rfl (size74_mg _)) (run_loadRow hS _ _ _ _ (.inl (.head _)) _ Tryz.underlying74 rfl (size74_mg _)) rfl rfl) rfl ⟨?_, hS.below⟩
    rfl
  · have hc : 0 ≤ cmpv n m := by unfold cmpv; rw [if_neg hlt]; split <;> omega
    have GC := compare_any n m hn hm
    generalize cmpv n m = cc at *
    have GD := limbs_any n m k hn hm hk (by omega) (by omega)
    clear hn hm h0 h1 h2 hk hlt
    unfold DivGives at *
    generalize n / m = q at *
    generalize n % m = r at *
    go_enter Tryz.func67, Tryz.ntmps67
    go_wp2_with (first | ((with_reducible refine L_slot 2 ?_); (refine L_box_agg (o := ⟨some 2, _, _, _, _, _⟩) hS rfl rfl ?_; refine ⟨_, rfl, ?_⟩; clear hS; intro b2 _ hS)) | ((with_reducible refine L_slot 3 ?_); (refine L_box_agg (o := ⟨some 3, _, _, _, _, _⟩) hS rfl rfl ?_; refine ⟨_, rfl, ?_⟩; clear hS; intro b3 _ hS)) | ((with_reducible refine L_slot 4 ?_); (refine L_alloc_agg (o := ⟨some 4, _, _, _, _, _⟩) hS rfl rfl ?_; refine ⟨_, zero74, ?_⟩; clear hS; intro b4 _ hS)) | ((with_reducible refine L_slot 5 ?_); (refine L_alloc_agg (o := ⟨some 5, _, _, _, _, _⟩) hS rfl rfl ?_; refine ⟨_, zero74, ?_⟩; clear hS; intro b5 _ hS)) | ((with_reducible refine L_slot 7 ?_); (refine L_load (t := 74) rfl rfl ?_; refine ⟨_, run_load_row hS _ _ rfl _ rfl _ _ (.inl (.tail _ (.tail _ (.head _)))) _ Tryz.underlying74 rfl (size74_mg _), ?_⟩)) | ((with_reducible refine L_slot 21 ?_); (refine L_load (t := 74) rfl rfl ?_; refine ⟨_, run_load_row hS _ _ rfl _ rfl _ _ (.inl (.tail _ (.tail _ (.tail _ (.head _))))) _ Tryz.underlying74 rfl (size74_mg _), ?_⟩)) | ((with_reducible refine L_slot 22 ?_); (refine L_load (t := 74) rfl rfl ?_; refine ⟨_, run_load_row hS _ _ rfl _ rfl _ _ (.inl (.tail _ (.tail _ (.head _)))) _ Tryz.underlying74 rfl (size74_mg _), ?_⟩)) | ((with_reducible refine L_slot 27 ?_); (refine L_load (t := 74) rfl rfl ?_; refine ⟨_, run_load_row hS _ _ rfl _ rfl _ _ (.inl (.tail _ (.tail _ (.tail _ (.head _))))) _ Tryz.underlying74 rfl (size74_mg _), ?_⟩)) | ((with_reducible refine L_slot 28 ?_); (refine L_load (t := 74) rfl rfl ?_; refine ⟨_, run_load_row hS _ _ rfl _ rfl _ _ (.inl (.tail _ (.tail _ (.head _)))) _ Tryz.underlying74 rfl (size74_mg _), ?_⟩)) | (go_at_call 84; (with_reducible refine Gives.use (G) hS ?_); clear hS; intro _ hS) | (go_at_call 81; (with_reducible refine Gives.use (GC) hS ?_); clear hS; intro _ hS) | (go_at_call 86; (with_reducible refine Gives.use (GD) hS ?_); clear hS; intro _ hS) | ((with_reducible refine L_storeAt 4 ?_); (refine L_store (t := 74) hS rfl rfl ?_; refine ⟨_, _, _, _, _, (.tail .head), run_store_row hS _ _ _ rfl _ rfl _ _ rfl _ (.tail .head) (size74_mg _) (mg_sizes _ _ _) (oneCells _ _), ?_⟩; clear hS; intro _ hS)) | ((with_reducible refine L_storeAt 5 ?_); (refine L_store (t := 74) hS rfl rfl ?_; refine ⟨_, _, _, _, _, (.head), run_store_row hS _ _ _ rfl _ rfl _ _ rfl _ (.head) (size74_mg _) (mg_sizes _ _ _) (oneCells _ _), ?_⟩; clear hS; intro _ hS)))
    (try simp only [Exit.inBlock, Exit.then])
    (try simp only [Exit.inBlock, Exit.then]); refine bodyPost_ret (res_cell_cell rfl _ _ _ _ _ (run_loadRow hS _ _ _ _ (.inl (.tail _ (.head _))) _ Tryz.underlying74 rfl (size74_mg _)) (run_loadRow hS _ _ _ _ (.inl (.head _)) _ Tryz.underlying74 rfl (size74_mg _)) rfl rfl) rfl ⟨?_, hS.below⟩
    rfl
end Go.Proofs.YtfdlgeomaballaaGreat
end
section
/- Division of canonical numbers, by what they denote. -/
namespace Go.Proofs.YtfdlgeomaballaaGreat
open Go.RowKit
set_option linter.unusedVariables false

theorem divMod_Z (x y q r : Int) (hq : x / y = q) (hr : x % y = r) (hx : x.natAbs < pw 32) (hy : y.natAbs < pw 32) (h0 : y ≠ 0) : Gives Tryz.prog 69 #[.agg (ivZ x), .agg (ivZ y)] (.tuple #[.agg (ivZ q), .agg (ivZ r), .int .i64 0]) := by
  have hp : 0 < y.natAbs := by omega
  have := divMod_of (decide (x < 0)) (decide (y < 0)) x.natAbs y.natAbs hx hy hp (divide_any _ _ hx hy hp)
  unfold divR at this
  rw [vz_self, vz_self, hq, hr] at this
  exact this
theorem neg_Z (x : Int) (hx : x.natAbs < pw 32) : Gives Tryz.prog 41 #[.agg (ivZ x)] (.agg (ivZ (-x))) := by
  have := neg_any (decide (x < 0)) x.natAbs hx
  rwa [vz_self] at this
theorem mul_over (x y : Int) (hx : x.natAbs < pw 32) (hy : y.natAbs < pw 32) (h : ¬ (x * y).natAbs < pw 32) : Gives Tryz.prog 77 #[.agg (ivZ x), .agg (ivZ y)] (.tuple #[.agg (ivZ 0), .int .i64 10]) := by
  have := mul_any (decide (x < 0)) (decide (y < 0)) x.natAbs y.natAbs hx hy
  rw [vz_self, vz_self, resZ_not h] at this
  exact this
set_option maxRecDepth 100000 in
set_option maxHeartbeats 1000000 in
theorem divMod_zero (s t : Bool) (n : Nat) (hn : n < pw 32) : Gives Tryz.prog 69 #[.agg (iv s n), .agg (iv t 0)] (.tuple #[.agg (ivZ 0), .agg (ivZ 0), .int .i64 11]) := by
  intro w
  have hS := St.start w
  have GZ := isZero 0 (pw_pos 32)
  rw [isz_true rfl] at GZ
  rw [ivZ_zero]
  go_enter Tryz.func69, Tryz.ntmps69
  go_wp2_with (first | ((with_reducible refine L_box? ?_); (refine L_box_agg hS rfl rfl ?_; refine ⟨_, rfl, ?_⟩; clear hS; intro _ _ hS)) | ((with_reducible refine L_alloc? ?_); (refine L_alloc_agg hS rfl rfl ?_; refine ⟨_, zero29, ?_⟩; clear hS; intro _ _ hS)) | ((with_reducible refine L_load? ?_); (refine L_load (t := 27) rfl rfl ?_; refine ⟨_, run_load_mid hS _ _ rfl _ _ rfl _ _ (.inl (.tail _ (.tail _ (.head _)))) _ Tryz.underlying27 rfl (mgk 32 _) (size27_mg _) (fun k _ => iv_mag _ _ k), ?_⟩)) | (go_at_call 65; (with_reducible refine Gives.use (GZ) hS ?_); clear hS; intro _ hS) | ((with_reducible refine L_build? ?_); (refine L_build rfl rfl ?_; refine ⟨_, built29, ?_⟩)) | ((with_reducible refine L_store? ?_); (refine L_store (t := 29) hS rfl rfl ?_; refine ⟨_, _, _, _, _, (.tail .head), run_store_row hS _ _ _ rfl _ rfl _ _ rfl _ (.tail .head) (size29_iv _ _) (iv_sizes _ _ _ _) (oneCells_iv _ _), ?_⟩; clear hS; intro _ hS)) | ((with_reducible refine L_store? ?_); (refine L_store (t := 29) hS rfl rfl ?_; refine ⟨_, _, _, _, _, (.head), run_store_row hS _ _ _ rfl _ rfl _ _ rfl _ (.head) (size29_iv _ _) (iv_sizes _ _ _ _) (oneCells_iv _ _), ?_⟩; clear hS; intro _ hS)))
  (try simp only [Exit.inBlock, Exit.then]); refine bodyPost_ret (res_cell_cell_tmp rfl _ _ _ _ _ (run_loadRow hS _ _ _ _ (.inl (.tail _ (.head _))) _ Tryz.underlying29 rfl (size29_iv _ _)) (run_loadRow hS _ _ _ _ (.inl (.head _)) _ Tryz.underlying29 rfl (size29_iv _ _)) rfl rfl _ rfl) rfl ⟨?_, hS.below⟩
  rfl
theorem divMod_Z0 (x : Int) (hx : x.natAbs < pw 32) : Gives Tryz.prog 69 #[.agg (ivZ x), .agg (ivZ 0)] (.tuple #[.agg (ivZ 0), .agg (ivZ 0), .int .i64 11]) := by
  have := divMod_zero (decide (x < 0)) false x.natAbs hx
  rwa [← ivZ_zero] at this
end Go.Proofs.YtfdlgeomaballaaGreat
end
section
/- BigintGcd: its facts. -/
namespace Go.Proofs.YtfdlgeomaballaaGreat
open Go.RowKit
set_option linter.unusedVariables false
theorem gcd_Z (a b : Int) (g : Nat) (hg : Nat.gcd a.natAbs b.natAbs = g) (ha : a.natAbs < pw 32) (hb : b.natAbs < pw 32) : Gives Tryz.prog 39 #[.agg (ivZ a), .agg (ivZ b)] (.agg (ivZ ((g : Nat) : Int))) := by
  rw [← hg]
  exact gcd_of (pw 32) (decide (a < 0)) (decide (b < 0)) a.natAbs b.natAbs ha hb hb fun x y hx hy h0 _ => divide_any x y hx hy h0
theorem gcd_mod (a b : Int) : Nat.gcd b.natAbs (a % b).natAbs = Nat.gcd a.natAbs b.natAbs := by
  have h1 : ∀ d : Nat, d ∣ b.natAbs → (d ∣ (a % b).natAbs ↔ d ∣ a.natAbs) := fun d hd => by
    have hdb : (d : Int) ∣ b := Int.ofNat_dvd_left.2 hd
    have e := Int.mul_ediv_add_emod a b
    have hk : (d : Int) ∣ b * (a / b) := Int.dvd_trans hdb (Int.dvd_mul_right _ _)
    constructor
    · intro h
      have h2 : (d : Int) ∣ a % b := Int.ofNat_dvd_left.2 h
      rw [← Int.ofNat_dvd_left, ← e]
      exact Int.dvd_add hk h2
    · intro h
      have h2 : (d : Int) ∣ a := Int.ofNat_dvd_left.2 h
      rw [← Int.ofNat_dvd_left]
      have : a % b = a - b * (a / b) := by omega
      rw [this]
      exact Int.dvd_sub h2 hk
  apply Nat.dvd_antisymm
  · have hb := Nat.gcd_dvd_left b.natAbs (a % b).natAbs
    exact Nat.dvd_gcd ((h1 _ hb).1 (Nat.gcd_dvd_right _ _)) hb
  · have hb := Nat.gcd_dvd_right a.natAbs b.natAbs
    exact Nat.dvd_gcd hb ((h1 _ hb).2 (Nat.gcd_dvd_left _ _))
theorem gcd_facts (P : Nat) (hP : P * P * 8 ≤ pw 32) (a b c : Int) (ha : a.natAbs < P) (hb : b.natAbs < P) (hc : c.natAbs < P) : ∃ g z : Int,
    Gives Tryz.prog 39 #[.agg (ivZ a), .agg (ivZ b)] (.agg (ivZ g)) ∧ Gives Tryz.prog 39 #[.agg (ivZ b), .agg (ivZ a)] (.agg (ivZ g)) ∧ Gives Tryz.prog 41 #[.agg (ivZ a)] (.agg (ivZ (-a))) ∧
    Gives Tryz.prog 39 #[.agg (ivZ (-a)), .agg (ivZ b)] (.agg (ivZ g)) ∧ 0 ≤ g ∧ g.natAbs < pw 32 ∧ (g = 0 → a = 0 ∧ b = 0) ∧
    (g ≠ 0 → ∃ q1 q2, Gives Tryz.prog 69 #[.agg (ivZ a), .agg (ivZ g)] (.tuple #[.agg (ivZ q1), .agg (ivZ 0), .int .i64 0]) ∧ Gives Tryz.prog 69 #[.agg (ivZ b), .agg (ivZ g)] (.tuple #[.agg (ivZ q2), .agg (ivZ 0), .int .i64 0])) ∧
    (b ≠ 0 → ∃ q m, Gives Tryz.prog 69 #[.agg (ivZ a), .agg (ivZ b)] (.tuple #[.agg (ivZ q), .agg (ivZ m), .int .i64 0]) ∧ Gives Tryz.prog 39 #[.agg (ivZ b), .agg (ivZ m)] (.agg (ivZ g))) ∧
    (∃ x y v, Gives Tryz.prog 77 #[.agg (ivZ a), .agg (ivZ c)] (.tuple #[.agg (ivZ x), .int .i64 0]) ∧ Gives Tryz.prog 77 #[.agg (ivZ b), .agg (ivZ c)] (.tuple #[.agg (ivZ y), .int .i64 0]) ∧
      Gives Tryz.prog 77 #[.agg (ivZ g), .agg (ivZ c)] (.tuple #[.agg (ivZ v), .int .i64 0]) ∧ Gives Tryz.prog 39 #[.agg (ivZ x), .agg (ivZ y)] (.agg (ivZ z)) ∧ Gives Tryz.prog 41 #[.agg (ivZ v)] (.agg (ivZ (-v))) ∧ z.natAbs < pw 32 ∧ (0 ≤ c → v = z) ∧ (c < 0 → -v = z)) := by
  obtain ⟨n, hn⟩ : ∃ n, Nat.gcd a.natAbs b.natAbs = n := ⟨_, rfl⟩
  have hP1 : P * 1 ≤ P * P := Nat.mul_le_mul_left _ (by omega)
  have Ba : a.natAbs < pw 32 := by omega
  have Bb : b.natAbs < pw 32 := by omega
  have Bc : c.natAbs < pw 32 := by omega
  have hda : n ∣ a.natAbs := by rw [← hn]; exact Nat.gcd_dvd_left _ _
  have hdb : n ∣ b.natAbs := by rw [← hn]; exact Nat.gcd_dvd_right _ _
  have hnP : n < P := by
    by_cases h0 : a.natAbs = 0
    · have : n = b.natAbs := by rw [← hn, h0, Nat.gcd_zero_left]
      omega
    · have := Nat.le_of_dvd (by omega) hda; omega
  have Bn : n < pw 32 := by omega
  have m2 : ∀ x y : Int, x.natAbs < P → y.natAbs < P → (x * y).natAbs < pw 32 := fun x y hx hy => by
    have : x.natAbs * y.natAbs ≤ P * P := Nat.mul_le_mul (by omega) (by omega)
    rw [Int.natAbs_mul]; omega
  have hz : Nat.gcd (a * c).natAbs (b * c).natAbs = n * c.natAbs := by rw [Int.natAbs_mul, Int.natAbs_mul, Nat.gcd_mul_right, hn]
  have hv : (((n : Nat) : Int) * c).natAbs < pw 32 := m2 _ _ (by omega) hc
  refine ⟨n, ((n * c.natAbs : Nat) : Int), gcd_Z a b n hn Ba Bb, gcd_Z b a n (by rw [Nat.gcd_comm]; exact hn) Bb Ba, neg_Z a Ba, gcd_Z (-a) b n (by rw [Int.natAbs_neg]; exact hn) (by omega) Bb, by omega, by omega, fun h => ?_, fun h => ?_, fun h => ?_, ?_⟩
  · have h0 : n = 0 := by omega
    rw [h0] at hda hdb
    have := Nat.eq_zero_of_zero_dvd hda
    have := Nat.eq_zero_of_zero_dvd hdb
    omega
  · exact ⟨a / n, b / n, divMod_Z a n _ 0 rfl (Int.emod_eq_zero_of_dvd (Int.ofNat_dvd_left.2 hda)) Ba (by omega) h, divMod_Z b n _ 0 rfl (Int.emod_eq_zero_of_dvd (Int.ofNat_dvd_left.2 hdb)) Bb (by omega) h⟩
  · have hm : (a % b).natAbs < pw 32 := by
      have h1 := Int.emod_nonneg a h
      have h2 := Int.emod_lt a h
      omega
    exact ⟨a / b, a % b, divMod_Z a b _ _ rfl rfl Ba Bb h, gcd_Z b (a % b) n (by rw [gcd_mod]; exact hn) Bb hm⟩
  · refine ⟨a * c, b * c, n * c, mul_Z a c _ rfl Ba Bc (m2 a c ha hc), mul_Z b c _ rfl Bb Bc (m2 b c hb hc), mul_Z n c _ rfl (by omega) Bc hv, gcd_Z _ _ _ hz (m2 a c ha hc) (m2 b c hb hc), neg_Z _ hv, ?_, fun h => ?_, fun h => ?_⟩
    · have : (((n : Nat) : Int) * c).natAbs = n * c.natAbs := by rw [Int.natAbs_mul]; rfl
      omega
    · have : ((c.natAbs : Nat) : Int) = c := Int.natAbs_of_nonneg h
      rw [Int.natCast_mul, this]
    · have : ((c.natAbs : Nat) : Int) = -c := by omega
      rw [Int.natCast_mul, this, Int.mul_neg]
end Go.Proofs.YtfdlgeomaballaaGreat
end
