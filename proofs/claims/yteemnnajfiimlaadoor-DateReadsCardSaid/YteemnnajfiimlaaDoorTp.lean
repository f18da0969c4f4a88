/- The walks of what reads the tape: Fold, Next, Range, Chance. -/
import Derived.Test.YteemnnajfiimlaaDoorTb
namespace Go.Proofs.YteemnnajfiimlaaDoor
open Go.RowKit
set_option linter.unusedVariables false

theorem fold_any (v n : Int) (hv : -9223372036854775808 ≤ v ∧ v ≤ 9223372036854775807) (hn : 1 ≤ n ∧ n ≤ 4611686018427387904) : Gives Tryd.prog 35 #[.int .i64 v, .int .i64 n] (.int .i64 (foldv v n)) := by
  intro w
  have hS := St.start w
  by_cases h1 : n ≤ 1
  · have e : foldv v n = 0 := if_pos h1
    rw [e]
    go_enter Tryd.func35, Tryd.ntmps35
    go_wp2
    go_ret
    exact ⟨rfl, hS.below⟩
  · have e : foldv v n = v % n := if_neg h1
    rw [e]
    have h0 : n ≠ 0 := by omega
    obtain ⟨q, hq⟩ : ∃ q, v.tmod n = q := ⟨_, rfl⟩
    have hem := Int.tmod_def v n
    have hb : -n < q ∧ q < n := by
      have h3 := Int.tmod_lt_of_pos v (show 0 < n by omega)
      have h4 := Int.tmod_lt_of_pos (-v) (show 0 < n by omega)
      rw [Int.neg_tmod] at h4
      omega
    have hr : v % n = if q < 0 then q + n else q := by
      have hd : n * v.tdiv n + q = v := by rw [hq] at hem; omega
      have hm : (n * v.tdiv n + q) % n = q % n := by rw [Int.add_comm, Int.add_mul_emod_self_left]
      rw [hd] at hm
      split
      · rw [hm, ← Int.add_emod_right, Int.emod_eq_of_lt (by omega) (by omega)]
      · rw [hm, Int.emod_eq_of_lt (by omega) (by omega)]
    clear hem
    by_cases h2 : q < 0
    · rw [hr, if_pos h2]
      clear hr
      go_enter Tryd.func35, Tryd.ntmps35
      go_wp2
      go_ret
      exact ⟨rfl, hS.below⟩
    · rw [hr, if_neg h2]
      clear hr
      go_enter Tryd.func35, Tryd.ntmps35
      go_wp2
      go_ret
      exact ⟨rfl, hS.below⟩

set_option maxHeartbeats 1000000 in
theorem next_any (b : Nat) (n : Int) (hn : 1 ≤ n ∧ n ≤ 4611686018427387904) : Draws Tryd.prog 34 #[.pointer (some ⟨b, 0, none⟩), .int .i64 n] b 1 [] (Value.int .i64) (fun z => 0 ≤ z ∧ z < n) := by
  refine Draws.of fun w r Lv k hS _ hs hk => ?_
  obtain ⟨a, len, cap, rfl, hlen, hs⟩ := hs
  have hkk : (0 : Int) ≤ ((k : Nat) : Int) ∧ ((k : Nat) : Int) ≤ 1152921504606846975 := by omega
  by_cases hl : k < len
  · obtain ⟨bl, off, cs, T, fz, z, rfl, hm, hc, hz⟩ := hs k hl
    have hl' : ((k : Nat) : Int) < ((len : Nat) : Int) := by omega
    have hl'' : ¬ ((len : Nat) : Int) ≤ ((k : Nat) : Int) := by omega
    clear hs
    go_enter Tryd.func34, Tryd.ntmps34
    go_wp2_with (first | (refine L_load (t := 3) rfl rfl ?_; refine ⟨_, run_load_cell hS _ _ rfl _ _ rfl _ _ (.inl (.head _)) _ Tryd.underlying3 rfl _ (Tk_at _ _), ?_⟩))
    (try simp only [Act.put]); (try simp only [List.setIfInBounds_toArray, List.set_cons_succ, List.set_cons_zero]); refine wp_region_w0 hS (by kernel_rfl) (by kernel_rfl) ?_
    repeat (first | (refine S_load (t := 3) rfl rfl rfl rfl ?_; refine ⟨_, fun _ hS' => run_load_cell hS' _ _ rfl _ _ rfl _ _ (.inl (.head _)) _ Tryd.underlying3 rfl _ (Tk_at _ _), ?_⟩; simp only [Act.put, List.setIfInBounds_toArray, List.set_cons_succ, List.set_cons_zero]) | (refine S_load (t := 32) rfl rfl rfl rfl ?_; refine ⟨_, fun _ hS' => run_load_cell hS' _ _ rfl _ _ rfl _ _ (.inl (.head _)) _ Tryd.underlying32 rfl _ (Tk_list _ _), ?_⟩; simp only [Act.put, List.setIfInBounds_toArray, List.set_cons_succ, List.set_cons_zero]) | (refine S_run rfl rfl ?_; apply Exists.intro; refine ⟨fun _ => ?_, ?_⟩; (focus (go_simp; (try go_bits); exact rfl)); simp only [Act.put, List.setIfInBounds_toArray, List.set_cons_succ, List.set_cons_zero]))
    refine S_end0 ?_; clear hS; intro _ hS
    go_wp2
    (try simp only [Act.put]); (try simp only [List.setIfInBounds_toArray, List.set_cons_succ, List.set_cons_zero]); refine wp_region_w0 hS (by kernel_rfl) (by kernel_rfl) ?_
    repeat (first
      | (refine S_load (t := 3) (o := ⟨some 31, _, _, _, _, _⟩) rfl rfl rfl rfl ?_; refine ⟨_, fun _ hS' => run_load_ro hS' _ _ rfl _ _ rfl _ _ fz hm _ Tryd.underlying3 rfl _ hc, ?_⟩; simp only [Act.put, List.setIfInBounds_toArray, List.set_cons_succ, List.set_cons_zero])
      | (refine S_load (t := 3) rfl rfl rfl rfl ?_; refine ⟨_, fun _ hS' => run_load_cell hS' _ _ rfl _ _ rfl _ _ (.inl (.head _)) _ Tryd.underlying3 rfl _ (Tk_at _ _), ?_⟩; simp only [Act.put, List.setIfInBounds_toArray, List.set_cons_succ, List.set_cons_zero]) | (refine S_load (t := 32) rfl rfl rfl rfl ?_; refine ⟨_, fun _ hS' => run_load_cell hS' _ _ rfl _ _ rfl _ _ (.inl (.head _)) _ Tryd.underlying32 rfl _ (Tk_list _ _), ?_⟩; simp only [Act.put, List.setIfInBounds_toArray, List.set_cons_succ, List.set_cons_zero]) | (refine S_run rfl rfl ?_; apply Exists.intro; refine ⟨fun _ => ?_, ?_⟩; (focus (go_simp; (try go_bits); exact rfl)); simp only [Act.put, List.setIfInBounds_toArray, List.set_cons_succ, List.set_cons_zero]))
    refine S_end0 ?_; clear hS; intro _ hS
    go_wp2_with (first | (refine L_load (t := 3) rfl rfl ?_; refine ⟨_, run_load_cell hS _ _ rfl _ _ rfl _ _ (.inl (.head _)) _ Tryd.underlying3 rfl _ (Tk_at _ _), ?_⟩) | (refine L_store (t := 3) hS rfl rfl ?_; refine ⟨_, _, Tk (.slice (some ⟨bl, off, none⟩) len cap) (k + 1), _, _, (.head), run_store_cell hS _ _ _ rfl _ _ rfl _ rfl _ _ _ (.head) size3 rfl rfl ?_ ?_, ?_⟩; (focus (rw [Tk_size]; omega)); (focus (exact Tk_put _ _)); clear hS; intro _ hS) | (go_at_call 35; (with_reducible refine Gives.use (fold_any _ _ hz hn) hS ?_); clear hS; intro _ hS))
    go_ret
    exact ⟨_, k + 1, _, rfl, foldv_range hn.1, by omega, by omega, hS, .head _⟩
  · have hl' : ¬ ((k : Nat) : Int) < ((len : Nat) : Int) := by omega
    have hl'' : ((len : Nat) : Int) ≤ ((k : Nat) : Int) := by omega
    have hz : -9223372036854775808 ≤ (((k : Nat) : Int) * 7).tmod 11 ∧ (((k : Nat) : Int) * 7).tmod 11 ≤ 9223372036854775807 := by
      rw [Int.tmod_eq_emod_of_nonneg (by omega)]; omega
    clear hs
    go_enter Tryd.func34, Tryd.ntmps34
    go_wp2_with (first | (refine L_load (t := 3) rfl rfl ?_; refine ⟨_, run_load_cell hS _ _ rfl _ _ rfl _ _ (.inl (.head _)) _ Tryd.underlying3 rfl _ (Tk_at _ _), ?_⟩))
    (try simp only [Act.put]); (try simp only [List.setIfInBounds_toArray, List.set_cons_succ, List.set_cons_zero]); refine wp_region_w0 hS (by kernel_rfl) (by kernel_rfl) ?_
    repeat (first | (refine S_load (t := 3) rfl rfl rfl rfl ?_; refine ⟨_, fun _ hS' => run_load_cell hS' _ _ rfl _ _ rfl _ _ (.inl (.head _)) _ Tryd.underlying3 rfl _ (Tk_at _ _), ?_⟩; simp only [Act.put, List.setIfInBounds_toArray, List.set_cons_succ, List.set_cons_zero]) | (refine S_load (t := 32) rfl rfl rfl rfl ?_; refine ⟨_, fun _ hS' => run_load_cell hS' _ _ rfl _ _ rfl _ _ (.inl (.head _)) _ Tryd.underlying32 rfl _ (Tk_list _ _), ?_⟩; simp only [Act.put, List.setIfInBounds_toArray, List.set_cons_succ, List.set_cons_zero]) | (refine S_run rfl rfl ?_; apply Exists.intro; refine ⟨fun _ => ?_, ?_⟩; (focus (go_simp; (try go_bits); exact rfl)); simp only [Act.put, List.setIfInBounds_toArray, List.set_cons_succ, List.set_cons_zero]))
    refine S_end0 ?_; clear hS; intro _ hS
    go_wp2_with (first | (refine L_load (t := 3) rfl rfl ?_; refine ⟨_, run_load_cell hS _ _ rfl _ _ rfl _ _ (.inl (.head _)) _ Tryd.underlying3 rfl _ (Tk_at _ _), ?_⟩) | (refine L_store (t := 3) hS rfl rfl ?_; refine ⟨_, _, Tk (.slice a len cap) (k + 1), _, _, (.head), run_store_cell hS _ _ _ rfl _ _ rfl _ rfl _ _ _ (.head) size3 rfl rfl ?_ ?_, ?_⟩; (focus (rw [Tk_size]; omega)); (focus (exact Tk_put _ _)); clear hS; intro _ hS) | (go_at_call 35; refine Gives.use (fold_any _ _ (by omega) hn) hS ?_; clear hS; intro _ hS))
    go_ret
    exact ⟨_, k + 1, _, rfl, foldv_range hn.1, by omega, by omega, hS, .head _⟩
theorem no_ro {l : List (Nat × Obj)} {b : Nat} : ∀ x ∈ ([] : List (Nat × Obj)), x ∈ l ∧ x.1 ≠ b := fun _ h => by cases h
set_option maxHeartbeats 1000000 in
theorem range_any (b : Nat) (lo hi n : Int) (hlo : -1152921504606846976 ≤ lo ∧ lo ≤ 1152921504606846976) (hhi : lo ≤ hi ∧ hi ≤ 1152921504606846976) (hn : hi - lo + 1 = n) : Draws Tryd.prog 27 #[.pointer (some ⟨b, 0, none⟩), .int .i64 lo, .int .i64 hi] b 1 [] (Value.int .i64) (fun z => lo ≤ z ∧ z ≤ hi) := by
  refine Draws.of fun w r Lv k hS _ hs hk => ?_
  have hn' : 1 ≤ n ∧ n ≤ 4611686018427387904 := by omega
  go_enter Tryd.func27, Tryd.ntmps27
  go_wp2_with (first | (go_at_call 34; (with_reducible refine Draws.use (next_any b n hn') hS (no_ro) (hs) (hk) (fun _ => (.head)) ?_); clear hS; intro x k1 _ hx h1 h2 hS))
  go_ret
  exact ⟨_, k1, _, rfl, by omega, h1, h2, hS, .head _⟩
/-- A list of ints in a block of its own. -/
def ints (zs : List Int) : Array Value := (zs.map fun z => Value.int .i64 z).toArray
theorem ints_size (zs : List Int) : (ints zs).size = zs.length := by simp [ints]
theorem ints_get {zs : List Int} {j : Nat} (h : j < zs.length) : (ints zs)[j]? = some (.int .i64 zs[j]) := by simp [ints, h]
theorem ints_at_int {zs : List Int} {n : Nat} {x : Int} (hz : zs.length = n) (hx : 0 ≤ x ∧ x < ((n : Nat) : Int)) : (ints zs)[x.toNat]? = some (.int .i64 (zs.getD x.toNat 0)) := by
  have : x.toNat < zs.length := by omega
  rw [ints_get this, List.getD_eq_getElem?_getD, List.getElem?_eq_getElem this]; rfl
theorem ints_mem {zs : List Int} {n : Nat} {x : Int} (hz : zs.length = n) (hx : 0 ≤ x ∧ x < ((n : Nat) : Int)) : zs.getD x.toNat 0 ∈ zs := by
  have : x.toNat < zs.length := by omega
  rw [List.getD_eq_getElem?_getD, List.getElem?_eq_getElem this]; exact List.getElem_mem this
set_option maxHeartbeats 1000000 in
theorem pick_any (b g cap : Nat) (T : TypeId) (zs : List Int) (n : Nat) (hz : zs.length = n) (h0 : 1 ≤ n ∧ n ≤ 1000000) : Draws Tryd.prog 28 #[.pointer (some ⟨b, 0, none⟩), .slice (some ⟨g, 0, none⟩) n cap] b 1 [(g, .cells (ints zs) T)] (Value.int .i64) (fun z => z ∈ zs) := by
  refine Draws.of fun w r Lv k hS hr hs hk => ?_
  have hm := hr _ (.head _)
  have hn : 1 ≤ ((n : Nat) : Int) ∧ ((n : Nat) : Int) ≤ 4611686018427387904 := by omega
  have hn0 : (((n : Nat) : Int) == 0) = false := by simp; omega
  go_enter Tryd.func28, Tryd.ntmps28
  go_wp2_with (first | (go_at_call 34; (with_reducible refine Draws.use (next_any b _ hn) hS (no_ro) (hs) (hk) (fun _ => (.head)) ?_); clear hS; intro x k1 _ hx h1 h2 hS) | (refine L_load (t := 3) rfl rfl ?_; refine ⟨_, run_load_cell hS _ _ rfl _ _ rfl _ _ (.inr hm) _ Tryd.underlying3 rfl _ (ints_at_int hz hx), ?_⟩))
  go_ret
  exact ⟨_, k1, _, rfl, (by first | exact ints_mem hz hx | exact List.getElem_mem _), h1, h2, hS, .head _⟩
end Go.Proofs.YteemnnajfiimlaaDoor
