/- The walk of estimate. -/
import Derived.Test.YtfdlgeomaballaaKr
namespace Go.Proofs.Ytfdlgeomaballaa
open Go.RowKit
set_option linter.unusedVariables false

theorem est_fin {W D p g : Nat} (hp : 0 < p) (hD : 0 < D) (h : g * (D / p) ≤ W / p) (hg : g ≤ D / p + 1) : g ≤ W / D + 1 := by
  rcases g with _ | g
  · exact Nat.zero_le _
  · have h1 : g ≤ W / D := by
      rw [Nat.le_div_iff_mul_le hD]
      obtain ⟨E, hE⟩ : ∃ E, D / p = E := ⟨_, rfl⟩
      obtain ⟨V, hV⟩ : ∃ V, W / p = V := ⟨_, rfl⟩
      rw [hE, hV] at h
      rw [hE] at hg
      have hDE : D ≤ (E + 1) * p := by
        have := Nat.div_add_mod D p
        have h3 := Nat.mod_lt D hp
        rw [hE] at this
        rw [Nat.add_mul, Nat.mul_comm E]; omega
      have hWV : V * p ≤ W := by rw [← hV]; exact Nat.div_mul_le_self W p
      have h4 : g * D ≤ g * ((E + 1) * p) := Nat.mul_le_mul_left _ hDE
      have h5 : g * (E + 1) ≤ V := by
        rw [Nat.add_mul] at h
        rw [Nat.mul_add]
        omega
      have h6 : g * (E + 1) * p ≤ V * p := Nat.mul_le_mul_right _ h5
      rw [Nat.mul_assoc] at h6
      omega
    exact Nat.succ_le_succ h1
theorem est_q {W D p : Nat} (hp : 0 < p) : W / D * (D / p) ≤ W / p := by
  rw [Nat.le_div_iff_mul_le hp, Nat.mul_assoc]
  exact Nat.le_trans (Nat.mul_le_mul_left _ (Nat.div_mul_le_self D p)) (Nat.div_mul_le_self W D)
theorem u64_eq {a : Int} {b : Nat} (h : a = b) : Value.int .u64 a = .int .u64 ((b : Nat) : Int) := by rw [h]

set_option maxRecDepth 100000 in
set_option maxHeartbeats 4000000 in
theorem estimate_core (bl bs i n n1 n2 nw capw caps L S f s wn w1 w2 q h : Nat) (hn1 : ((n : Nat) : Int) - 1 = ((n1 : Nat) : Int)) (hn2 : ((n : Nat) : Int) - 2 = ((n2 : Nat) : Int)) (hnw : n + 1 = nw) (hin : i + n + 1 ≤ 33) (hnn : 2 ≤ n ∧ n ≤ 32)
    (hf : limb S n1 = f) (hs : limb S n2 = s) (hwn : limb L (i + n) = wn) (hw1 : limb L (i + n1) = w1) (hw2 : limb L (i + n2) = w2) (rf : 2147483648 ≤ f ∧ f ≤ 4294967295) (rs : s ≤ 4294967295) (rwn : wn ≤ 4294967295) (rw1 : w1 ≤ 4294967295) (rw2 : w2 ≤ 4294967295)
    (hh : wn * 4294967296 + w1 = h) (HQ : Hid (q * (f * 4294967296 + s) ≤ h * 4294967296 + w2)) (HT : Hid (h < f * 4294967296 + 4294967296)) (hq : q ≤ 4294967295)
    (w : World) (hbl : w.heap[bl]? = some (.cells (mgk 33 L) 127)) (hbs : w.heap[bs]? = some (.cells (mgk 33 S) 127)) :
    Calls Try.prog 131 #[.slice (some ⟨bl, i, none⟩) nw capw, .slice (some ⟨bs, 0, none⟩) n caps] w fun e w' => (∃ g : Nat, e = .returned (.int .u32 ((g : Nat) : Int)) ∧ q ≤ g ∧ g ≤ 4294967295 ∧ g * (f * 4294967296 + s) ≤ h * 4294967296 + w2) ∧ Below w.heap.size w w' := by
  have hS := St.start_ro w [(bl, .cells (mgk 33 L) 127), (bs, .cells (mgk 33 S) 127)] (by
    intro x hx
    rcases List.mem_cons.1 hx with rfl | hx
    · exact hbl
    · obtain rfl := List.mem_singleton.1 hx
      exact hbs)
  clear hbl hbs
  have b1 : ((n1 : Nat) : Int) < ((n : Nat) : Int) := by omega
  have b2 : ((n2 : Nat) : Int) < ((n : Nat) : Int) := by omega
  have b3 : ((n1 : Nat) : Int) < ((nw : Nat) : Int) := by omega
  have b4 : ((n2 : Nat) : Int) < ((nw : Nat) : Int) := by omega
  have b5 : ((n : Nat) : Int) < ((nw : Nat) : Int) := by omega
  have hnI : (2 : Int) ≤ ((n : Nat) : Int) ∧ ((n : Nat) : Int) ≤ 32 := by omega
  clear hnw
  have hor : bits BinOp.or IntKind.u64 ((wn : Int) * 4294967296) (w1 : Int) = ((h : Nat) : Int) := by rw [← hh]; exact or_limb wn w1 (by omega) (by omega)
  have hhb : h ≤ 18446744073709551615 := by omega
  obtain ⟨g0, hg0⟩ : ∃ g0, h / f = g0 := ⟨_, rfl⟩
  obtain ⟨t0, ht0⟩ : ∃ t0, h % f = t0 := ⟨_, rfl⟩
  have HI0 : Hid (g0 * f + t0 = h) := by show _ = _; rw [← hg0, ← ht0, Nat.mul_comm]; exact Nat.div_add_mod h f
  have HQ0 : Hid (q ≤ g0) := by show q ≤ g0; rw [← hg0]; exact est_low HQ.out (by omega) (by omega)
  have rt0 : t0 ≤ 4294967295 := by rw [← ht0]; have := Nat.mod_lt h (show 0 < f by omega); omega
  have rg0 : g0 ≤ 4294967297 := by
    have h1 := HI0.out
    have h2 := HT.out
    refine Classical.byContradiction fun hc => ?_
    have : 4294967298 * f ≤ g0 * f := Nat.mul_le_mul_right _ (by omega)
    omega
  have hqz : ((h : Nat) : Int) / ((f : Nat) : Int) = ((g0 : Nat) : Int) := by rw [← hg0, Int.natCast_ediv]
  have hrz : ((h : Nat) : Int) % ((f : Nat) : Int) = ((t0 : Nat) : Int) := by rw [← ht0, Int.natCast_emod]
  have hne : ¬ ((f : Int) = 0) := by omega
  have hdn : ¬ (f = 0) := by omega
  have hnb : ((f : Int) == 0) = false := by simp; omega
  have hnb2 : ((f : Int) != 0) = true := by simp; omega
  have hf1 : (1 : Int) ≤ (f : Int) := by omega
  clear hg0 ht0 hh
  go_enter Try.func131, Try.ntmps131
  go_wp2_with (fail)
  (try simp only [Act.put]); (try simp only [List.setIfInBounds_toArray, List.set_cons_succ, List.set_cons_zero]); refine wp_region_w0 hS (by kernel_rfl) (by kernel_rfl) ?_
  repeat (first
    | ((with_reducible refine S_slot 17 ?_); (refine S_load (t := 22) rfl rfl rfl rfl ?_; refine ⟨_, fun _ hS' => run_load_cell hS' _ _ rfl _ _ rfl _ _ (.inr (.tail _ (.head _))) _ Try.underlying22 rfl _ (mgk_get' (by omega)), ?_⟩; simp only [Act.put, List.setIfInBounds_toArray, List.set_cons_succ, List.set_cons_zero]))
    | ((with_reducible refine S_slot 23 ?_); (refine S_load (t := 22) rfl rfl rfl rfl ?_; refine ⟨_, fun _ hS' => run_load_cell hS' _ _ rfl _ _ rfl _ _ (.inr (.tail _ (.head _))) _ Try.underlying22 rfl _ (mgk_get' (by omega)), ?_⟩; simp only [Act.put, List.setIfInBounds_toArray, List.set_cons_succ, List.set_cons_zero]))
    | (refine S_run rfl rfl ?_; apply Exists.intro; refine ⟨fun _ => ?_, ?_⟩; (focus (go_simp; (try go_bits); exact rfl)); simp only [Act.put, List.setIfInBounds_toArray, List.set_cons_succ, List.set_cons_zero]))
  refine S_end0 ?_; clear hS; intro _ hS
  go_wp2_with (fail)
  (try simp only [Act.put]); (try simp only [List.setIfInBounds_toArray, List.set_cons_succ, List.set_cons_zero]); refine wp_region_w0 hS (by kernel_rfl) (by kernel_rfl) ?_
  repeat (first
    | ((with_reducible refine S_slot 28 ?_); (refine S_load (t := 22) rfl rfl rfl rfl ?_; refine ⟨_, fun _ hS' => run_load_cell hS' _ _ rfl _ _ rfl _ _ (.inr (.head _)) _ Try.underlying22 rfl _ (mgk_get' (by omega)), ?_⟩; simp only [Act.put, List.setIfInBounds_toArray, List.set_cons_succ, List.set_cons_zero]))
    | ((with_reducible refine S_slot 35 ?_); (refine S_load (t := 22) rfl rfl rfl rfl ?_; refine ⟨_, fun _ hS' => run_load_cell hS' _ _ rfl _ _ rfl _ _ (.inr (.head _)) _ Try.underlying22 rfl _ (mgk_get' (by omega)), ?_⟩; simp only [Act.put, List.setIfInBounds_toArray, List.set_cons_succ, List.set_cons_zero]))
    | (refine S_run rfl rfl ?_; apply Exists.intro; refine ⟨fun _ => ?_, ?_⟩; (focus (go_simp; (try go_bits); exact rfl)); simp only [Act.put, List.setIfInBounds_toArray, List.set_cons_succ, List.set_cons_zero]))
  refine S_end0 ?_; clear hS; intro _ hS
  go_wp2_with (fail)
  (try simp only [Act.put]); (try simp only [List.setIfInBounds_toArray, List.set_cons_succ, List.set_cons_zero]); refine wp_region_w0 hS (by kernel_rfl) (by kernel_rfl) ?_
  repeat (first | (refine S_run rfl rfl ?_; apply Exists.intro; refine ⟨fun _ => ?_, ?_⟩; (focus (go_simp; (try go_bits); exact rfl)); simp only [Act.put, List.setIfInBounds_toArray, List.set_cons_succ, List.set_cons_zero]))
  refine S_end0 ?_; clear hS; intro _ hS
  go_wp2_with (fail)
  go_loopw [9, 10] (fun gv tv wr => ∃ g t : Nat, gv = .int .u64 ((g : Nat) : Int) ∧ tv = .int .u64 ((t : Nat) : Int) ∧ Hid (g * f + t = h) ∧ Hid (q ≤ g) ∧ g ≤ 4294967297 ∧ t ≤ 8589934591 ∧ St none w wr [(bl, .cells (mgk 33 L) 127), (bs, .cells (mgk 33 S) 127)] []) (fun _ tv _ => 8589934592 - (intOf tv).toNat)
  case atStart => exact ⟨g0, t0, rfl, rfl, HI0, HQ0, rg0, by omega, hS⟩
  case round =>
    clear hS
    obtain ⟨g, t, rfl, rfl, HI, HG, rg, rt, hS⟩ := hrel
    have fin : 4294967296 ≤ t ∨ g * s ≤ t * 4294967296 + w2 → g ≤ 4294967295 → g * (f * 4294967296 + s) ≤ h * 4294967296 + w2 := fun hc hg => est_high HI.out (by omega) (by omega) hc
    by_cases c1 : t ≤ 4294967295
    · have c1' : ((t : Nat) : Int) ≤ 4294967295 := by omega
      have hor2 : bits BinOp.or IntKind.u64 ((t : Int) * 4294967296) (w2 : Int) = ((t * 4294967296 + w2 : Nat) : Int) := or_limb t w2 (by omega) (by omega)
      have next : q < g → ∃ g1, g = g1 + 1 ∧ Hid (g1 * f + (t + f) = h) ∧ Hid (q ≤ g1) := fun hlt => by
        refine ⟨g - 1, by omega, ?_, ?_⟩
        · have h1 := HI.out
          have h2 : g * f = (g - 1) * f + f := by
            have : g = (g - 1) + 1 := by omega
            rw [this, Nat.add_mul, Nat.one_mul]; simp
          show _ = _
          omega
        · show q ≤ g - 1; omega
      by_cases c2 : g ≤ 4294967295
      · have c2' : ¬ (4294967295 : Int) < ((g : Nat) : Int) := by omega
        obtain ⟨M, hM⟩ : ∃ M, g * s = M := ⟨_, rfl⟩
        have hMZ : ((g : Nat) : Int) * ((s : Nat) : Int) = ((M : Nat) : Int) := by rw [← hM]; simp
        have hMb : M ≤ 18446744073709551615 := by
          have : g * s ≤ 4294967295 * 4294967295 := Nat.mul_le_mul c2 rs
          omega
        obtain ⟨U, hU⟩ : ∃ U, t * 4294967296 + w2 = U := ⟨_, rfl⟩
        rw [hU] at hor2
        by_cases c3 : U < M
        · have c3' : ((U : Nat) : Int) < ((M : Nat) : Int) := by omega
          obtain ⟨g1, hg1, HI1, HQ1⟩ := next (est_down HQ.out HI.out (by rw [hU, hM]; exact c3))
          have hg1Z : ((g : Nat) : Int) - 1 = ((g1 : Nat) : Int) := by omega
          have hg1b : (1 : Int) ≤ ((g : Nat) : Int) := by omega
          clear next fin hM hU hg1
          go_wp2_with (first | ((with_reducible refine L_slot 59 ?_); (refine L_load (t := 22) rfl rfl ?_; refine ⟨_, run_load_cell hS _ _ rfl _ _ rfl _ _ (.inr (.head _)) _ Try.underlying22 rfl _ (mgk_get' (by omega)), ?_⟩)))
          go_roundw
          case rel => exact ⟨g1, rfl, t + f, by omega, HI1, HQ1, by omega, by omega⟩
          case measure => simp [intOf]; omega
        · have c3' : ¬ ((U : Nat) : Int) < ((M : Nat) : Int) := by omega
          have hfin := Lib.hid (fin (.inr (by omega)) c2)
          clear next fin hM hU
          go_wp2_with (first | ((with_reducible refine L_slot 59 ?_); (refine L_load (t := 22) rfl rfl ?_; refine ⟨_, run_load_cell hS _ _ rfl _ _ rfl _ _ (.inr (.head _)) _ Try.underlying22 rfl _ (mgk_get' (by omega)), ?_⟩)))
          go_ret
          exact ⟨⟨g, rfl, HG.out, c2, hfin.out⟩, hS.below⟩
      · have c2' : (4294967295 : Int) < ((g : Nat) : Int) := by omega
        obtain ⟨g1, hg1, HI1, HQ1⟩ := next (by omega)
        have hg1Z : ((g : Nat) : Int) - 1 = ((g1 : Nat) : Int) := by omega
        have hg1b : (1 : Int) ≤ ((g : Nat) : Int) := by omega
        clear next fin hg1
        go_wp2_with (first | ((with_reducible refine L_slot 59 ?_); (refine L_load (t := 22) rfl rfl ?_; refine ⟨_, run_load_cell hS _ _ rfl _ _ rfl _ _ (.inr (.head _)) _ Try.underlying22 rfl _ (mgk_get' (by omega)), ?_⟩)))
        go_roundw
        case rel => exact ⟨g1, t + f, rfl, u64_eq (by omega), HI1, HQ1, by omega, by omega, hS⟩
        case measure => simp [intOf]; omega
    · have c1' : ¬ ((t : Nat) : Int) ≤ 4294967295 := by omega
      have rg2 : g ≤ 4294967295 := by have := est_top HI.out HT.out (by omega); omega
      have hfin := Lib.hid (fin (.inl (by omega)) rg2)
      clear fin
      go_wp2_with (fail)
      go_ret
      exact ⟨⟨g, rfl, HG.out, rg2, hfin.out⟩, hS.below⟩
end Go.Proofs.Ytfdlgeomaballaa
