/- What the tape gives, said ahead of the call: for a region that draws its order. -/
import Derived.Test.YteemnnajfiimlaaDoorTp
namespace Go.Proofs.YteemnnajfiimlaaDoor
open Go.RowKit
set_option linter.unusedVariables false

/-- The call gives v, and leaves the tape at k', whatever the world, if the tape stands at k and the list lies in r. -/
def Given (P : Program) (f : FuncId) (args : Array Value) (b : Nat) (r : List (Nat × Obj)) (Lv : Value) (k k' : Nat) (v : Value) : Prop :=
  ∀ w, w.heap[b]? = some (.cells (Tk Lv k) 35) → (∀ x ∈ r, w.heap[x.1]? = some x.2 ∧ x.1 ≠ b) → Calls P f args w fun e w' => e = .returned v ∧ ∃ l, St (some b) w w' r l ∧ (b, Obj.cells (Tk Lv k') 35) ∈ l

theorem Given.use {c : Option Nat} {w0 w : World} {r l l' : List (Nat × Obj)} {P : Program} {f : FuncId} {args : Array Value} {b : Nat} {Lv : Value} {k k' : Nat} {v : Value} (hg : Given P f args b r Lv k k' v) (h : St c w0 w r l)
    (hu : Upd l b (.cells (Tk Lv k) 35) (.cells (Tk Lv k') 35) l') : Calls P f args w fun e w' => e = .returned v ∧ St c w0 w' r l' := by
  have hb := h.own _ hu.mem
  refine (hg w hb.2 fun x hx => ⟨(h.ro x hx).2.2, fun e => ?_⟩).mono fun e w' ⟨he, l2, h3, h4⟩ => ⟨he, h.but hu h3 h4⟩
  have h1 := (h.ro x hx).1
  have h2 := (h.ro x hx).2.1
  rw [e] at h1 h2
  rcases hb.1 with hb | hb
  · simp only at hb; omega
  · exact h2 hb
theorem Given.of {P : Program} {f : FuncId} {args : Array Value} {b : Nat} {r : List (Nat × Obj)} {Lv : Value} {k k' : Nat} {v : Value}
    (h : ∀ w, St (some b) w w r [(b, .cells (Tk Lv k) 35)] → Calls P f args w fun e w' => e = .returned v ∧ ∃ l, St (some b) w w' r l ∧ (b, Obj.cells (Tk Lv k') 35) ∈ l) : Given P f args b r Lv k k' v :=
  fun w hb hr => h w (St.start_may w b _ hb r hr)

set_option maxHeartbeats 1000000 in
theorem next_given (b : Nat) (n : Int) (hn : 1 ≤ n ∧ n ≤ 4611686018427387904) (r : List (Nat × Obj)) (Lv : Value) (k : Nat) (hs : Slc r Lv) (hk : k + 1 ≤ 1152921504606846976) :
    ∃ z, (0 ≤ z ∧ z < n) ∧ Given Tryd.prog 34 #[.pointer (some ⟨b, 0, none⟩), .int .i64 n] b r Lv k (k + 1) (.int .i64 z) := by
  obtain ⟨a, len, cap, rfl, hlen, hs⟩ := hs
  have hkk : (0 : Int) ≤ ((k : Nat) : Int) ∧ ((k : Nat) : Int) ≤ 1152921504606846975 := by omega
  by_cases hl : k < len
  · obtain ⟨bl, off, cs, T, fz, z, rfl, hm, hc, hz⟩ := hs k hl
    have hl' : ((k : Nat) : Int) < ((len : Nat) : Int) := by omega
    have hl'' : ¬ ((len : Nat) : Int) ≤ ((k : Nat) : Int) := by omega
    clear hs
    refine ⟨foldv z n, foldv_range hn.1, Given.of fun w hS => ?_⟩
    go_enter Tryd.func34, Tryd.ntmps34
    go_wp2_with (first | (refine L_load (t := 3) rfl rfl ?_; refine ⟨_, run_load_cell hS _ _ rfl _ _ rfl _ _ (.inl (.head _)) _ Tryd.underlying3 rfl _ (Tk_at _ _), ?_⟩))
    (try simp only [Act.put]); (try simp only [List.setIfInBounds_toArray, List.set_cons_succ, List.set_cons_zero]); refine wp_region_w0 hS (by kernel_rfl) (by kernel_rfl) ?_
    repeat (first | (refine S_load (t := 3) rfl rfl rfl rfl ?_; refine ⟨_, fun _ hS' => run_load_cell hS' _ _ rfl _ _ rfl _ _ (.inl (.head _)) _ Tryd.underlying3 rfl _ (Tk_at _ _), ?_⟩; simp only [Act.put, List.setIfInBounds_toArray, List.set_cons_succ, List.set_cons_zero]) | (refine S_load (t := 32) rfl rfl rfl rfl ?_; refine ⟨_, fun _ hS' => run_load_cell hS' _ _ rfl _ _ rfl _ _ (.inl (.head _)) _ Tryd.underlying32 rfl _ (Tk_list _ _), ?_⟩; simp only [Act.put, List.setIfInBounds_toArray, List.set_cons_succ, List.set_cons_zero]) | (refine S_run rfl rfl ?_; apply Exists.intro; refine ⟨fun _ => ?_, ?_⟩; (focus (go_simp; (try go_bits); exact rfl)); simp only [Act.put, List.setIfInBounds_toArray, List.set_cons_succ, List.set_cons_zero]))
    refine S_end0 ?_; clear hS; intro _ hS
    go_wp2
    (try simp only [Act.put]); (try simp only [List.setIfInBounds_toArray, List.set_cons_succ, List.set_cons_zero]); refine wp_region_w0 hS (by kernel_rfl) (by kernel_rfl) ?_
    repeat (first
      | (refine S_load (t := 3) (o := ⟨some 31, _, _, _, _, _⟩) rfl rfl rfl rfl ?_; refine ⟨_, fun _ hS' => run_load_ro hS' _ _ rfl _ _ rfl _ _ fz hm _ Tryd.underlying3 rfl _ hc, ?_⟩; simp only [Act.put, List.setIfInBounds_toArray, List.set_cons_succ, List.set_cons_zero])
      | (refine S_load (t := 3) rfl rfl rfl rfl ?_; refine ⟨_, fun _ hS' => run_load_cell hS' _ _ rfl _ _ rfl _ _ (.inl (.head _)) _ Tryd.underlying3 rfl _ (Tk_at _ _), ?_⟩; simp only [Act.put, List.setIfInBounds_toArray, List.set_cons_succ, List.set_cons_zero]) | (refine S_load (t := 32) rfl rfl rfl rfl ?_; refine ⟨_, fun _ hS' => run_load_cell hS' _ _ rfl _ _ rfl _ _ (.inl (.head _)) _ Tryd.underlying32 rfl _ (Tk_list _ _), ?_⟩; simp only [Act.put, List.setIfInBounds_toArray, List.set_cons_succ, List.set_cons_zero]) | (refine S_run rfl rfl ?_; apply Exists.intro; refine ⟨fun _ => ?_, ?_⟩; (focus (go_simp; (try go_bits); exact rfl)); simp only [Act.put, List.setIfInBounds_toArray, List.set_cons_succ, List.set_cons_zero]))
    refine S_end0 ?_; clear hS; intro _ hS
    go_wp2_with (first | (refine L_load (t := 3) rfl rfl ?_; refine ⟨_, run_load_cell hS _ _ rfl _ _ rfl _ _ (.inl (.head _)) _ Tryd.underlying3 rfl _ (Tk_at _ _), ?_⟩) | (refine L_store (t := 3) hS rfl rfl ?_; refine ⟨_, _, Tk (.slice (some ⟨bl, off, none⟩) len cap) (k + 1), _, _, (.head), run_store_cell hS _ _ _ rfl _ _ rfl _ rfl _ _ _ (.head) size3 rfl rfl ?_ ?_, ?_⟩; (focus (rw [Tk_size]; omega)); (focus (exact Tk_put _ _)); clear hS; intro _ hS) | (go_at_call 35; (with_reducible refine Gives.use (fold_any _ _ hz hn) hS ?_); clear hS; intro _ hS))
    go_ret
    exact ⟨rfl, _, hS, .head _⟩
  · have hl' : ¬ ((k : Nat) : Int) < ((len : Nat) : Int) := by omega
    have hl'' : ((len : Nat) : Int) ≤ ((k : Nat) : Int) := by omega
    obtain ⟨z, hz0⟩ : ∃ z, (((k : Nat) : Int) * 7).tmod 11 = z := ⟨_, rfl⟩
    have hz1 : (((k : Nat) : Int) * 7) % 11 = z := by rw [← hz0, Int.tmod_eq_emod_of_nonneg (by omega)]
    have hz : -9223372036854775808 ≤ z ∧ z ≤ 9223372036854775807 := by omega
    clear hs
    refine ⟨foldv z n, foldv_range hn.1, Given.of fun w hS => ?_⟩
    go_enter Tryd.func34, Tryd.ntmps34
    go_wp2_with (first | (refine L_load (t := 3) rfl rfl ?_; refine ⟨_, run_load_cell hS _ _ rfl _ _ rfl _ _ (.inl (.head _)) _ Tryd.underlying3 rfl _ (Tk_at _ _), ?_⟩))
    (try simp only [Act.put]); (try simp only [List.setIfInBounds_toArray, List.set_cons_succ, List.set_cons_zero]); refine wp_region_w0 hS (by kernel_rfl) (by kernel_rfl) ?_
    repeat (first | (refine S_load (t := 3) rfl rfl rfl rfl ?_; refine ⟨_, fun _ hS' => run_load_cell hS' _ _ rfl _ _ rfl _ _ (.inl (.head _)) _ Tryd.underlying3 rfl _ (Tk_at _ _), ?_⟩; simp only [Act.put, List.setIfInBounds_toArray, List.set_cons_succ, List.set_cons_zero]) | (refine S_load (t := 32) rfl rfl rfl rfl ?_; refine ⟨_, fun _ hS' => run_load_cell hS' _ _ rfl _ _ rfl _ _ (.inl (.head _)) _ Tryd.underlying32 rfl _ (Tk_list _ _), ?_⟩; simp only [Act.put, List.setIfInBounds_toArray, List.set_cons_succ, List.set_cons_zero]) | (refine S_run rfl rfl ?_; apply Exists.intro; refine ⟨fun _ => ?_, ?_⟩; (focus (go_simp; (try go_bits); exact rfl)); simp only [Act.put, List.setIfInBounds_toArray, List.set_cons_succ, List.set_cons_zero]))
    refine S_end0 ?_; clear hS; intro _ hS
    go_wp2_with (first | (refine L_load (t := 3) rfl rfl ?_; refine ⟨_, run_load_cell hS _ _ rfl _ _ rfl _ _ (.inl (.head _)) _ Tryd.underlying3 rfl _ (Tk_at _ _), ?_⟩) | (refine L_store (t := 3) hS rfl rfl ?_; refine ⟨_, _, Tk (.slice a len cap) (k + 1), _, _, (.head), run_store_cell hS _ _ _ rfl _ _ rfl _ rfl _ _ _ (.head) size3 rfl rfl ?_ ?_, ?_⟩; (focus (rw [Tk_size]; omega)); (focus (exact Tk_put _ _)); clear hS; intro _ hS) | (go_at_call 35; (with_reducible refine Gives.use (fold_any _ _ hz hn) hS ?_); clear hS; intro _ hS))
    go_ret
    exact ⟨rfl, _, hS, .head _⟩

set_option maxHeartbeats 1000000 in
theorem range_given (b : Nat) (lo hi n : Int) (hlo : -1152921504606846976 ≤ lo ∧ lo ≤ 1152921504606846976) (hhi : lo ≤ hi ∧ hi ≤ 1152921504606846976) (hn : hi - lo + 1 = n) (r : List (Nat × Obj)) (Lv : Value) (k : Nat) (hs : Slc r Lv) (hk : k + 1 ≤ 1152921504606846976) :
    ∃ z, (lo ≤ z ∧ z ≤ hi) ∧ Given Tryd.prog 27 #[.pointer (some ⟨b, 0, none⟩), .int .i64 lo, .int .i64 hi] b r Lv k (k + 1) (.int .i64 z) := by
  have hn' : 1 ≤ n ∧ n ≤ 4611686018427387904 := by omega
  obtain ⟨x, hx, hg⟩ := next_given b n hn' r Lv k hs hk
  refine ⟨lo + x, by omega, Given.of fun w hS => ?_⟩
  have hx2 : 0 ≤ x ∧ x ≤ 4611686018427387904 := by omega
  go_enter Tryd.func27, Tryd.ntmps27
  go_wp2_with (first | (go_at_call 34; (with_reducible refine (hg.use hS .head).mono ?_); clear hS; intro _ _ ⟨he, hS⟩; subst he))
  go_ret
  exact ⟨rfl, _, hS, .head _⟩
end Go.Proofs.YteemnnajfiimlaaDoor
