/- Merged: Tr, Ua, Os, Ub, Va, Vn. -/
import Derived.Test.YtfdlgeomaballaaTp
import Derived.Test.YtfdlgeomaballaaTb
import Derived.ProofKit
import Derived.OpenShut
import Derived.Carry
import Derived.Test.YtfdlgeomaballaaGnd
import Derived.Test.YtfdlgeomaballaaGnf
import Derived.Test.YtfdlgeomaballaaGnc
section
/- What the tape gives, said ahead of the call: for a region that draws its order. -/
namespace Go.Proofs.Ytfdlgeomaballaa
open Go.RowKit
set_option linter.unusedVariables false

/-- The call gives v, and leaves the tape at k', whatever the world, if the tape stands at k and the list lies in r. -/
def Given (P : Program) (f : FuncId) (args : Array Value) (b : Nat) (r : List (Nat × Obj)) (Lv : Value) (k k' : Nat) (v : Value) : Prop :=
  ∀ w, w.heap[b]? = some (.cells (Tk Lv k) 45) → (∀ x ∈ r, w.heap[x.1]? = some x.2 ∧ x.1 ≠ b) → Calls P f args w fun e w' => e = .returned v ∧ ∃ l, St (some b) w w' r l ∧ (b, Obj.cells (Tk Lv k') 45) ∈ l

theorem Given.use {c : Option Nat} {w0 w : World} {r l l' : List (Nat × Obj)} {P : Program} {f : FuncId} {args : Array Value} {b : Nat} {Lv : Value} {k k' : Nat} {v : Value} (hg : Given P f args b r Lv k k' v) (h : St c w0 w r l)
    (hu : Upd l b (.cells (Tk Lv k) 45) (.cells (Tk Lv k') 45) l') : Calls P f args w fun e w' => e = .returned v ∧ St c w0 w' r l' := by
  have hb := h.own _ hu.mem
  refine (hg w hb.2 fun x hx => ⟨(h.ro x hx).2.2, fun e => ?_⟩).mono fun e w' ⟨he, l2, h3, h4⟩ => ⟨he, h.but hu h3 h4⟩
  have h1 := (h.ro x hx).1
  have h2 := (h.ro x hx).2.1
  rw [e] at h1 h2
  rcases hb.1 with hb | hb
  · simp only at hb; omega
  · exact h2 hb
theorem Given.of {P : Program} {f : FuncId} {args : Array Value} {b : Nat} {r : List (Nat × Obj)} {Lv : Value} {k k' : Nat} {v : Value}
    (h : ∀ w, St (some b) w w r [(b, .cells (Tk Lv k) 45)] → Calls P f args w fun e w' => e = .returned v ∧ ∃ l, St (some b) w w' r l ∧ (b, Obj.cells (Tk Lv k') 45) ∈ l) : Given P f args b r Lv k k' v :=
  fun w hb hr => h w (St.start_may w b _ hb r hr)

set_option maxHeartbeats 1000000 in
theorem next_given (b : Nat) (n : Int) (hn : 1 ≤ n ∧ n ≤ 4611686018427387904) (r : List (Nat × Obj)) (Lv : Value) (k : Nat) (hs : Slc r Lv) (hk : k + 1 ≤ 1152921504606846976) :
    ∃ z, (0 ≤ z ∧ z < n) ∧ Given Try.prog 41 #[.pointer (some ⟨b, 0, none⟩), .int .i64 n] b r Lv k (k + 1) (.int .i64 z) := by
  obtain ⟨a, len, cap, rfl, hlen, hs⟩ := hs
  have hkk : (0 : Int) ≤ ((k : Nat) : Int) ∧ ((k : Nat) : Int) ≤ 1152921504606846975 := by omega
  by_cases hl : k < len
  · obtain ⟨bl, off, cs, T, fz, z, rfl, hm, hc, hz⟩ := hs k hl
    have hl' : ((k : Nat) : Int) < ((len : Nat) : Int) := by omega
    have hl'' : ¬ ((len : Nat) : Int) ≤ ((k : Nat) : Int) := by omega
    clear hs
    refine ⟨foldv z n, foldv_range hn.1, Given.of fun w hS => ?_⟩
    go_enter Try.func41, Try.ntmps41
    go_wp2_with (first | (refine L_load (t := 3) rfl rfl ?_; refine ⟨_, run_load_cell hS _ _ rfl _ _ rfl _ _ (.inl (.head _)) _ Try.underlying3 rfl _ (Tk_at _ _), ?_⟩))
    (try simp only [Act.put]); (try simp only [List.setIfInBounds_toArray, List.set_cons_succ, List.set_cons_zero]); refine wp_region_w0 hS (by kernel_rfl) (by kernel_rfl) ?_
    repeat (first | (refine S_load (t := 3) rfl rfl rfl rfl ?_; refine ⟨_, fun _ hS' => run_load_cell hS' _ _ rfl _ _ rfl _ _ (.inl (.head _)) _ Try.underlying3 rfl _ (Tk_at _ _), ?_⟩; simp only [Act.put, List.setIfInBounds_toArray, List.set_cons_succ, List.set_cons_zero]) | (refine S_load (t := 42) rfl rfl rfl rfl ?_; refine ⟨_, fun _ hS' => run_load_cell hS' _ _ rfl _ _ rfl _ _ (.inl (.head _)) _ Try.underlying42 rfl _ (Tk_list _ _), ?_⟩; simp only [Act.put, List.setIfInBounds_toArray, List.set_cons_succ, List.set_cons_zero]) | (refine S_run rfl rfl ?_; apply Exists.intro; refine ⟨fun _ => ?_, ?_⟩; (focus (go_simp; (try go_bits); exact rfl)); simp only [Act.put, List.setIfInBounds_toArray, List.set_cons_succ, List.set_cons_zero]))
    refine S_end0 ?_; clear hS; intro _ hS
    go_wp2
    (try simp only [Act.put]); (try simp only [List.setIfInBounds_toArray, List.set_cons_succ, List.set_cons_zero]); refine wp_region_w0 hS (by kernel_rfl) (by kernel_rfl) ?_
    repeat (first
      | (refine S_load (t := 3) (o := ⟨some 31, _, _, _, _, _⟩) rfl rfl rfl rfl ?_; refine ⟨_, fun _ hS' => run_load_ro hS' _ _ rfl _ _ rfl _ _ fz hm _ Try.underlying3 rfl _ hc, ?_⟩; simp only [Act.put, List.setIfInBounds_toArray, List.set_cons_succ, List.set_cons_zero])
      | (refine S_load (t := 3) rfl rfl rfl rfl ?_; refine ⟨_, fun _ hS' => run_load_cell hS' _ _ rfl _ _ rfl _ _ (.inl (.head _)) _ Try.underlying3 rfl _ (Tk_at _ _), ?_⟩; simp only [Act.put, List.setIfInBounds_toArray, List.set_cons_succ, List.set_cons_zero]) | (refine S_load (t := 42) rfl rfl rfl rfl ?_; refine ⟨_, fun _ hS' => run_load_cell hS' _ _ rfl _ _ rfl _ _ (.inl (.head _)) _ Try.underlying42 rfl _ (Tk_list _ _), ?_⟩; simp only [Act.put, List.setIfInBounds_toArray, List.set_cons_succ, List.set_cons_zero]) | (refine S_run rfl rfl ?_; apply Exists.intro; refine ⟨fun _ => ?_, ?_⟩; (focus (go_simp; (try go_bits); exact rfl)); simp only [Act.put, List.setIfInBounds_toArray, List.set_cons_succ, List.set_cons_zero]))
    refine S_end0 ?_; clear hS; intro _ hS
    go_wp2_with (first | (refine L_load (t := 3) rfl rfl ?_; refine ⟨_, run_load_cell hS _ _ rfl _ _ rfl _ _ (.inl (.head _)) _ Try.underlying3 rfl _ (Tk_at _ _), ?_⟩) | (refine L_store (t := 3) hS rfl rfl ?_; refine ⟨_, _, Tk (.slice (some ⟨bl, off, none⟩) len cap) (k + 1), _, _, (.head), run_store_cell hS _ _ _ rfl _ _ rfl _ rfl _ _ _ (.head) size3 rfl rfl ?_ ?_, ?_⟩; (focus (rw [Tk_size]; omega)); (focus (exact Tk_put _ _)); clear hS; intro _ hS) | (go_at_call 76; (with_reducible refine Gives.use (fold_any _ _ hz hn) hS ?_); clear hS; intro _ hS))
    go_ret
    exact ⟨rfl, _, hS, .head _⟩
  · have hl' : ¬ ((k : Nat) : Int) < ((len : Nat) : Int) := by omega
    have hl'' : ((len : Nat) : Int) ≤ ((k : Nat) : Int) := by omega
    obtain ⟨z, hz0⟩ : ∃ z, (((k : Nat) : Int) * 7).tmod 11 = z := ⟨_, rfl⟩
    have hz1 : (((k : Nat) : Int) * 7) % 11 = z := by rw [← hz0, Int.tmod_eq_emod_of_nonneg (by omega)]
    have hz : -9223372036854775808 ≤ z ∧ z ≤ 9223372036854775807 := by omega
    clear hs
    refine ⟨foldv z n, foldv_range hn.1, Given.of fun w hS => ?_⟩
    go_enter Try.func41, Try.ntmps41
    go_wp2_with (first | (refine L_load (t := 3) rfl rfl ?_; refine ⟨_, run_load_cell hS _ _ rfl _ _ rfl _ _ (.inl (.head _)) _ Try.underlying3 rfl _ (Tk_at _ _), ?_⟩))
    (try simp only [Act.put]); (try simp only [List.setIfInBounds_toArray, List.set_cons_succ, List.set_cons_zero]); refine wp_region_w0 hS (by kernel_rfl) (by kernel_rfl) ?_
    repeat (first | (refine S_load (t := 3) rfl rfl rfl rfl ?_; refine ⟨_, fun _ hS' => run_load_cell hS' _ _ rfl _ _ rfl _ _ (.inl (.head _)) _ Try.underlying3 rfl _ (Tk_at _ _), ?_⟩; simp only [Act.put, List.setIfInBounds_toArray, List.set_cons_succ, List.set_cons_zero]) | (refine S_load (t := 42) rfl rfl rfl rfl ?_; refine ⟨_, fun _ hS' => run_load_cell hS' _ _ rfl _ _ rfl _ _ (.inl (.head _)) _ Try.underlying42 rfl _ (Tk_list _ _), ?_⟩; simp only [Act.put, List.setIfInBounds_toArray, List.set_cons_succ, List.set_cons_zero]) | (refine S_run rfl rfl ?_; apply Exists.intro; refine ⟨fun _ => ?_, ?_⟩; (focus (go_simp; (try go_bits); exact rfl)); simp only [Act.put, List.setIfInBounds_toArray, List.set_cons_succ, List.set_cons_zero]))
    refine S_end0 ?_; clear hS; intro _ hS
    go_wp2_with (first | (refine L_load (t := 3) rfl rfl ?_; refine ⟨_, run_load_cell hS _ _ rfl _ _ rfl _ _ (.inl (.head _)) _ Try.underlying3 rfl _ (Tk_at _ _), ?_⟩) | (refine L_store (t := 3) hS rfl rfl ?_; refine ⟨_, _, Tk (.slice a len cap) (k + 1), _, _, (.head), run_store_cell hS _ _ _ rfl _ _ rfl _ rfl _ _ _ (.head) size3 rfl rfl ?_ ?_, ?_⟩; (focus (rw [Tk_size]; omega)); (focus (exact Tk_put _ _)); clear hS; intro _ hS) | (go_at_call 76; (with_reducible refine Gives.use (fold_any _ _ hz hn) hS ?_); clear hS; intro _ hS))
    go_ret
    exact ⟨rfl, _, hS, .head _⟩

set_option maxHeartbeats 1000000 in
theorem range_given (b : Nat) (lo hi n : Int) (hlo : -1152921504606846976 ≤ lo ∧ lo ≤ 1152921504606846976) (hhi : lo ≤ hi ∧ hi ≤ 1152921504606846976) (hn : hi - lo + 1 = n) (r : List (Nat × Obj)) (Lv : Value) (k : Nat) (hs : Slc r Lv) (hk : k + 1 ≤ 1152921504606846976) :
    ∃ z, (lo ≤ z ∧ z ≤ hi) ∧ Given Try.prog 70 #[.pointer (some ⟨b, 0, none⟩), .int .i64 lo, .int .i64 hi] b r Lv k (k + 1) (.int .i64 z) := by
  have hn' : 1 ≤ n ∧ n ≤ 4611686018427387904 := by omega
  obtain ⟨x, hx, hg⟩ := next_given b n hn' r Lv k hs hk
  refine ⟨lo + x, by omega, Given.of fun w hS => ?_⟩
  have hx2 : 0 ≤ x ∧ x ≤ 4611686018427387904 := by omega
  go_enter Try.func70, Try.ntmps70
  go_wp2_with (first | (go_at_call 41; (with_reducible refine (hg.use hS .head).mono ?_); clear hS; intro _ _ ⟨he, hS⟩; subst he))
  go_ret
  exact ⟨rfl, _, hS, .head _⟩
end Go.Proofs.Ytfdlgeomaballaa
end
section
/- The tape as a function from places to numbers: Next and Pick. -/
namespace Go.Proofs.Ytfdlgeomaballaa
open Go.RowKit
set_option linter.unusedVariables false

set_option maxHeartbeats 1000000 in
theorem tape_at (r : List (Nat × Obj)) (Lv : Value) (k : Nat) (hs : Slc r Lv) :
    ∃ z : Int, ∀ (b : Nat) (n : Int), 1 ≤ n ∧ n ≤ 4611686018427387904 → k + 1 ≤ 1152921504606846976 → Given Try.prog 41 #[.pointer (some ⟨b, 0, none⟩), .int .i64 n] b r Lv k (k + 1) (.int .i64 (foldv z n)) := by
  by_cases hk : k + 1 ≤ 1152921504606846976
  case neg => exact ⟨0, fun b n hn h => absurd h hk⟩
  obtain ⟨a, len, cap, rfl, hlen, hs⟩ := hs
  have hkk : (0 : Int) ≤ ((k : Nat) : Int) ∧ ((k : Nat) : Int) ≤ 1152921504606846975 := by omega
  by_cases hl : k < len
  · obtain ⟨bl, off, cs, T, fz, z, rfl, hm, hc, hz⟩ := hs k hl
    have hl' : ((k : Nat) : Int) < ((len : Nat) : Int) := by omega
    have hl'' : ¬ ((len : Nat) : Int) ≤ ((k : Nat) : Int) := by omega
    clear hs
    refine ⟨z, fun b n hn _ => Given.of fun w hS => ?_⟩
    go_enter Try.func41, Try.ntmps41
    go_wp2_with (first | (refine L_load (t := 3) rfl rfl ?_; refine ⟨_, run_load_cell hS _ _ rfl _ _ rfl _ _ (.inl (.head _)) _ Try.underlying3 rfl _ (Tk_at _ _), ?_⟩))
    (try simp only [Act.put]); (try simp only [List.setIfInBounds_toArray, List.set_cons_succ, List.set_cons_zero]); refine wp_region_w0 hS (by kernel_rfl) (by kernel_rfl) ?_
    repeat (first | (refine S_load (t := 3) rfl rfl rfl rfl ?_; refine ⟨_, fun _ hS' => run_load_cell hS' _ _ rfl _ _ rfl _ _ (.inl (.head _)) _ Try.underlying3 rfl _ (Tk_at _ _), ?_⟩; simp only [Act.put, List.setIfInBounds_toArray, List.set_cons_succ, List.set_cons_zero]) | (refine S_load (t := 42) rfl rfl rfl rfl ?_; refine ⟨_, fun _ hS' => run_load_cell hS' _ _ rfl _ _ rfl _ _ (.inl (.head _)) _ Try.underlying42 rfl _ (Tk_list _ _), ?_⟩; simp only [Act.put, List.setIfInBounds_toArray, List.set_cons_succ, List.set_cons_zero]) | (refine S_run rfl rfl ?_; apply Exists.intro; refine ⟨fun _ => ?_, ?_⟩; (focus (go_simp; (try go_bits); exact rfl)); simp only [Act.put, List.setIfInBounds_toArray, List.set_cons_succ, List.set_cons_zero]))
    refine S_end0 ?_; clear hS; intro _ hS
    go_wp2
    (try simp only [Act.put]); (try simp only [List.setIfInBounds_toArray, List.set_cons_succ, List.set_cons_zero]); refine wp_region_w0 hS (by kernel_rfl) (by kernel_rfl) ?_
    repeat (first
      | (refine S_load (t := 3) (o := ⟨some 31, _, _, _, _, _⟩) rfl rfl rfl rfl ?_; refine ⟨_, fun _ hS' => run_load_ro hS' _ _ rfl _ _ rfl _ _ fz hm _ Try.underlying3 rfl _ hc, ?_⟩; simp only [Act.put, List.setIfInBounds_toArray, List.set_cons_succ, List.set_cons_zero])
      | (refine S_load (t := 3) rfl rfl rfl rfl ?_; refine ⟨_, fun _ hS' => run_load_cell hS' _ _ rfl _ _ rfl _ _ (.inl (.head _)) _ Try.underlying3 rfl _ (Tk_at _ _), ?_⟩; simp only [Act.put, List.setIfInBounds_toArray, List.set_cons_succ, List.set_cons_zero]) | (refine S_load (t := 42) rfl rfl rfl rfl ?_; refine ⟨_, fun _ hS' => run_load_cell hS' _ _ rfl _ _ rfl _ _ (.inl (.head _)) _ Try.underlying42 rfl _ (Tk_list _ _), ?_⟩; simp only [Act.put, List.setIfInBounds_toArray, List.set_cons_succ, List.set_cons_zero]) | (refine S_run rfl rfl ?_; apply Exists.intro; refine ⟨fun _ => ?_, ?_⟩; (focus (go_simp; (try go_bits); exact rfl)); simp only [Act.put, List.setIfInBounds_toArray, List.set_cons_succ, List.set_cons_zero]))
    refine S_end0 ?_; clear hS; intro _ hS
    go_wp2_with (first | (refine L_load (t := 3) rfl rfl ?_; refine ⟨_, run_load_cell hS _ _ rfl _ _ rfl _ _ (.inl (.head _)) _ Try.underlying3 rfl _ (Tk_at _ _), ?_⟩) | (refine L_store (t := 3) hS rfl rfl ?_; refine ⟨_, _, Tk (.slice (some ⟨bl, off, none⟩) len cap) (k + 1), _, _, (.head), run_store_cell hS _ _ _ rfl _ _ rfl _ rfl _ _ _ (.head) size3 rfl rfl ?_ ?_, ?_⟩; (focus (rw [Tk_size]; omega)); (focus (exact Tk_put _ _)); clear hS; intro _ hS) | (go_at_call 76; (with_reducible refine Gives.use (fold_any _ _ hz hn) hS ?_); clear hS; intro _ hS))
    go_ret
    exact ⟨rfl, _, hS, .head _⟩
  · have hl' : ¬ ((k : Nat) : Int) < ((len : Nat) : Int) := by omega
    have hl'' : ((len : Nat) : Int) ≤ ((k : Nat) : Int) := by omega
    obtain ⟨z, hz0⟩ : ∃ z, (((k : Nat) : Int) * 7).tmod 11 = z := ⟨_, rfl⟩
    have hz1 : (((k : Nat) : Int) * 7) % 11 = z := by rw [← hz0, Int.tmod_eq_emod_of_nonneg (by omega)]
    have hz : -9223372036854775808 ≤ z ∧ z ≤ 9223372036854775807 := by omega
    clear hs
    refine ⟨z, fun b n hn _ => Given.of fun w hS => ?_⟩
    go_enter Try.func41, Try.ntmps41
    go_wp2_with (first | (refine L_load (t := 3) rfl rfl ?_; refine ⟨_, run_load_cell hS _ _ rfl _ _ rfl _ _ (.inl (.head _)) _ Try.underlying3 rfl _ (Tk_at _ _), ?_⟩))
    (try simp only [Act.put]); (try simp only [List.setIfInBounds_toArray, List.set_cons_succ, List.set_cons_zero]); refine wp_region_w0 hS (by kernel_rfl) (by kernel_rfl) ?_
    repeat (first | (refine S_load (t := 3) rfl rfl rfl rfl ?_; refine ⟨_, fun _ hS' => run_load_cell hS' _ _ rfl _ _ rfl _ _ (.inl (.head _)) _ Try.underlying3 rfl _ (Tk_at _ _), ?_⟩; simp only [Act.put, List.setIfInBounds_toArray, List.set_cons_succ, List.set_cons_zero]) | (refine S_load (t := 42) rfl rfl rfl rfl ?_; refine ⟨_, fun _ hS' => run_load_cell hS' _ _ rfl _ _ rfl _ _ (.inl (.head _)) _ Try.underlying42 rfl _ (Tk_list _ _), ?_⟩; simp only [Act.put, List.setIfInBounds_toArray, List.set_cons_succ, List.set_cons_zero]) | (refine S_run rfl rfl ?_; apply Exists.intro; refine ⟨fun _ => ?_, ?_⟩; (focus (go_simp; (try go_bits); exact rfl)); simp only [Act.put, List.setIfInBounds_toArray, List.set_cons_succ, List.set_cons_zero]))
    refine S_end0 ?_; clear hS; intro _ hS
    go_wp2_with (first | (refine L_load (t := 3) rfl rfl ?_; refine ⟨_, run_load_cell hS _ _ rfl _ _ rfl _ _ (.inl (.head _)) _ Try.underlying3 rfl _ (Tk_at _ _), ?_⟩) | (refine L_store (t := 3) hS rfl rfl ?_; refine ⟨_, _, Tk (.slice a len cap) (k + 1), _, _, (.head), run_store_cell hS _ _ _ rfl _ _ rfl _ rfl _ _ _ (.head) size3 rfl rfl ?_ ?_, ?_⟩; (focus (rw [Tk_size]; omega)); (focus (exact Tk_put _ _)); clear hS; intro _ hS) | (go_at_call 76; (with_reducible refine Gives.use (fold_any _ _ hz hn) hS ?_); clear hS; intro _ hS))
    go_ret
    exact ⟨rfl, _, hS, .head _⟩
/-- The list Lv in r reads as tv, from place to place. -/
def Tape (r : List (Nat × Obj)) (Lv : Value) (tv : Nat → Int) : Prop :=
  ∀ (k : Nat) (b : Nat) (n : Int), 1 ≤ n ∧ n ≤ 4611686018427387904 → k + 1 ≤ 1152921504606846976 → Given Try.prog 41 #[.pointer (some ⟨b, 0, none⟩), .int .i64 n] b r Lv k (k + 1) (.int .i64 (foldv (tv k) n))
theorem slc_tape {r : List (Nat × Obj)} {Lv : Value} (hs : Slc r Lv) : ∃ tv, Tape r Lv tv :=
  ⟨fun k => Classical.choose (tape_at r Lv k hs), fun k => Classical.choose_spec (tape_at r Lv k hs)⟩
theorem Given.more {P : Program} {f : FuncId} {args : Array Value} {b : Nat} {r r' : List (Nat × Obj)} {Lv : Value} {k k' : Nat} {v : Value} (h : Given P f args b r Lv k k' v) (hr : ∀ x ∈ r, x ∈ r') : Given P f args b r' Lv k k' v := fun w hb hr' => by
  refine (h w hb fun x hx => hr' x (hr x hx)).mono fun e w' ⟨he, l, hS, hm⟩ => ⟨he, l, ?_, hm⟩
  refine ⟨hS.os, hS.tape, hS.output, hS.size, hS.block, fun x hx => ?_, hS.own, hS.apart⟩
  obtain ⟨h1, h2⟩ := hr' x hx
  have hlt := (Array.getElem?_eq_some_iff.1 h1).1
  have hne : some b ≠ some x.1 := fun e => h2 (Option.some.inj e).symm
  exact ⟨hlt, hne, by rw [hS.block _ hlt hne]; exact h1⟩
set_option maxHeartbeats 1000000 in
theorem Tape.pick {r : List (Nat × Obj)} {Lv : Value} {tv : Nat → Int} (ht : Tape r Lv tv) (b g cap : Nat) (T : TypeId) (zs : List Int) (n : Nat) (hz : zs.length = n) (h0 : 1 ≤ n ∧ n ≤ 1000000) (k : Nat) (hk : k + 1 ≤ 1152921504606846976) :
    Given Try.prog 40 #[.pointer (some ⟨b, 0, none⟩), .slice (some ⟨g, 0, none⟩) n cap] b ((g, .cells (ints zs) T) :: r) Lv k (k + 1) (.int .i64 (zs.getD (foldv (tv k) ((n : Nat) : Int)).toNat 0)) := by
  have hn : 1 ≤ ((n : Nat) : Int) ∧ ((n : Nat) : Int) ≤ 4611686018427387904 := by omega
  have hn0 : (((n : Nat) : Int) == 0) = false := by simp; omega
  have hg := (ht k b _ hn hk).more (r' := (g, .cells (ints zs) T) :: r) fun x hx => .tail _ hx
  have hx := foldv_range (v := tv k) hn.1
  obtain ⟨x, hxe⟩ : ∃ x, x = foldv (tv k) ((n : Nat) : Int) := ⟨_, rfl⟩
  rw [← hxe] at hg hx ⊢
  clear hxe
  refine Given.of fun w hS => ?_
  have hm : (g, Obj.cells (ints zs) T) ∈ ((g, Obj.cells (ints zs) T) :: r) := .head _
  go_enter Try.func40, Try.ntmps40
  go_wp2_with (first | (go_at_call 41; (with_reducible refine (hg.use hS .head).mono ?_); clear hS; intro _ _ ⟨he, hS⟩; subst he) | (refine L_load (t := 3) rfl rfl ?_; refine ⟨_, run_load_cell hS _ _ rfl _ _ rfl _ _ (.inr hm) _ Try.underlying3 rfl _ (ints_at_int hz hx), ?_⟩))
  go_ret
  have hlt : x.toNat < zs.length := by omega
  refine ⟨?_, _, hS, .head _⟩
  rw [List.getD_eq_getElem?_getD, List.getElem?_eq_getElem hlt]
  rfl
end Go.Proofs.Ytfdlgeomaballaa
end
section
/- Opening an argument that is a list of ints. -/
namespace Go.Proofs.Ytfdlgeomaballaa
open Go.RowKit Go.ChangeShapes

theorem laidOut : laidOutB Try.prog = true := by kernel_rfl
theorem cells3 : Try.prog.cellsOf 3 = 1 := by kernel_rfl
theorem cell_heap {w : World} {b j : Nat} {v : Value} (h : w.cell? ⟨b, j, none⟩ = some v) : ∃ cs T fz, w.heap[b]? = some (.cells cs T fz) ∧ cs[j]? = some v := by
  unfold World.cell? at h
  split at h
  · rename_i cs T fz hb
    exact ⟨cs, T, fz, hb, by simpa using h⟩
  · cases h
theorem slc_open {H : Type} {enc : TypeId × Value → H} {W : World} {sp : Nat → Bool} {a0 : Option Addr} {len cap : Nat} {d : DataW H} {p : List MemPlace} (h0 : DataW.Trod enc Try.prog W 0 sp true 42 (.slice a0 len cap) d p) :
    ∃ r, (∀ x ∈ r, W.heap[x.1]? = some x.2) ∧ Slc r (.slice a0 len cap) := by
  obtain ⟨fuel, hf⟩ := h0
  rcases open_ints Try.underlying42 Try.underlying3 cells3 hf with ⟨hcs, hx⟩ | ⟨a, len', cap', zs, hcs, _, hl, hm, hz, hx, hcell, hwz⟩
  · simp [Value.cells] at hcs
    obtain ⟨rfl, rfl, rfl⟩ := hcs
    exact ⟨[], by simp, none, 0, 0, rfl, by omega, fun i hi => by omega⟩
  · simp [Value.cells] at hcs
    obtain ⟨rfl, rfl, rfl⟩ := hcs
    have hlz : len ≤ zs.length := by rw [hz]; split <;> omega
    by_cases h0 : len = 0
    · subst h0
      exact ⟨[], by simp, some a, 0, cap, rfl, by omega, fun i hi => by omega⟩
    obtain ⟨b, off, rfl, hc⟩ := ints_at hcell (by omega)
    obtain ⟨cs, T, fz, hb, hc0⟩ := cell_heap (hc 0 (by omega))
    refine ⟨[(b, .cells cs T fz)], ?_, some ⟨b, off, none⟩, len, cap, rfl, by simp only [maxLen] at hm; omega, fun i hi => ⟨b, off, cs, T, fz, zs.getD i 0, rfl, .head _, ?_, ?_⟩⟩
    · intro x hx
      obtain rfl := List.mem_singleton.1 hx
      exact hb
    · obtain ⟨cs', T', fz', hb', hc'⟩ := cell_heap (hc i (by omega))
      rw [hb] at hb'
      obtain ⟨rfl, _⟩ := Obj.cells.inj (Option.some.inj hb')
      exact hc'
    · have hi' : i < zs.length := by omega
      have : zs.getD i 0 = zs[i] := by simp [List.getD, hi']
      rw [this]
      exact bounds_i64 (hwz _ (List.getElem_mem hi'))
end Go.Proofs.Ytfdlgeomaballaa
end
section
/- The tape in a run by names: what a call of it leaves, and what a function over it gives. -/
namespace Go.Proofs.Ytfdlgeomaballaa.Sx
open Go.RowKit

/-- The ways through a function, ahead of any world. -/
theorem ways_of [Outer] {P : Program} (hP : Plain P) {cfg : Cfg} {f : FuncId} {args : List SW} {mem : Mem} {nx : Nat} {T : Tree Out} (ρ : List Value) (hT : treeOf P cfg f args mem nx ρ.length = T) (hu : argsUnder args mem ρ.length = true) (Q : List Value → Out → Prop) (h : T.den P Q ρ) :
    ∃ vs ret, Q (ρ ++ vs) ret ∧ ∀ (β : Nat → Nat) (inh : List Nat) (w : World), Mrel (env ρ) β inh w (fun i => find i mem) w →
      Calls P f (denT (env ρ) β args) w fun e w' => ∃ β', (∀ i, i < nx → β' i = β i) ∧ e = .returned (ret.val.den (env (ρ ++ vs)) β') ∧ Mrel (env (ρ ++ vs)) β' inh w (fun i => find i ret.mem) w' := by
  subst hT
  obtain ⟨vs, asm', ret, evs, hrun, hasm, hev, hv⟩ := build_sound (asm := []) (known := []) (fun x hx => by cases hx) (fun x hx => by cases hx) (fun e he => by cases he) h
  obtain ⟨r, e1, e2, h1, h2, rfl⟩ := R.bind_ok hrun
  cases h2
  simp only [argsUnder, Bool.and_eq_true] at hu
  refine ⟨vs, _, hv, fun β inh w hM => ?_⟩
  have hM' : Mrel (env (ρ ++ vs)) β inh w (fun i => find i mem) w := hM.under fun i m hi => MB.fits_under (env_append ρ vs) (find_under hu.2 hi)
  obtain ⟨fn, _, _, hc⟩ := execF_ok hP.names hasm hP.order _ f args mem nx ρ.length r e1 h1 (fun e he => hev e (by simp [he])) β inh w w hM'
  have ha : denT (env (ρ ++ vs)) β args = denT (env ρ) β args := by
    simp only [denT]
    congr 1
    refine List.map_congr_left fun x hx => SW.den_under (env_append ρ vs) (List.all_eq_true.1 hu.1 x hx)
  rw [ha] at hc
  refine hc.mono fun e w' ⟨β', hβ, he, hm⟩ => ⟨β', hβ, he, ?_⟩
  simp only [trim]
  split
  · exact hm.less fun i m hi => by
      rcases Nat.lt_or_ge i nx with hlt | hge
      · rw [← hi, find_keepM hlt]
      · rw [find_keepM_ge hge] at hi; cases hi
  · exact hm
theorem fits_cells {ρ : Nat → Value} {β : Nat → Nat} {T : TypeId} {ps : List Piece} {o : Obj} (h : MB.fits ρ β ⟨T, ps, none⟩ o) : o = .cells (densP ρ β ps).toArray T := by
  obtain ⟨rest, h1, h2⟩ := h
  have h2 : rest = [] := h2
  subst h2
  rw [h1, List.append_nil]
theorem fits_mk {ρ : Nat → Value} {β : Nat → Nat} {T : TypeId} {ps : List Piece} {cs : List Value} (h : densP ρ β ps = cs) : MB.fits ρ β ⟨T, ps, none⟩ (.cells cs.toArray T) := ⟨[], by rw [h, List.append_nil], rfl⟩
end Go.Proofs.Ytfdlgeomaballaa.Sx
namespace Go.Proofs.Ytfdlgeomaballaa
open Go.RowKit Go.Proofs.Ytfdlgeomaballaa.Sx

/-- A call that takes numbers off the tape, as an event. -/
theorem Given.turns [Outer] {f : FuncId} {xs : List SV} {i nx : Nat} {ps qs : List Piece} {res : SW} {ρ ρ' : Nat → Value} (args : Nat → Array Value) {v : Value} {k k' : Nat} {Lv : Value} (hg : ∀ b, Given Try.prog f (args b) b Outer.r Lv k k' v)
    (hp : ∀ β, densP ρ' β ps = [Lv, .int .i64 ((k : Nat) : Int)]) (hq : ∀ β, densP ρ' β qs = [Lv, .int .i64 ((k' : Nat) : Int)]) (ha : ∀ β, denV ρ β xs = args (β i)) (hr : ∀ β, res.den ρ' β = v) (β : Nat → Nat) :
    Turns Try.prog ρ' β nx f (denV ρ β xs) [(i, ⟨45, ps, none⟩)] [(i, ⟨45, qs, none⟩)] [] res := fun w hro hpre => by
  obtain ⟨o, ho, hf⟩ := hpre _ (.head _)
  rw [fits_cells hf, hp] at ho
  rw [ha]
  refine (hg (β i) w ho fun x hx => ⟨(hro x hx).1, fun e => (hro x hx).2 _ (.head _) e.symm⟩).mono fun e w' ⟨he, l, hS, hm⟩ => ⟨β, fun _ _ => rfl, by rw [hr]; exact he, ?_, fun x hx => ?_, ⟨fun x hx => absurd hx (by simp), fun x hx => absurd hx (by simp)⟩⟩
  · exact ⟨hS.os, hS.tape, hS.output, hS.size, fun k hk hn => hS.block k hk fun e => hn (by simp [Option.some.inj e])⟩
  · cases List.mem_singleton.1 hx
    exact ⟨_, (hS.own _ hm).2, fits_mk (hq β)⟩
/-- The same for a call that reads a list besides. -/
theorem Given.turns2 [Outer] {f : FuncId} {xs : List SV} {i j nx : Nat} {ps qs zps : List Piece} {T : TypeId} {res : SW} {ρ ρ' : Nat → Value} (args : Nat → Nat → Array Value) {v : Value} {k k' : Nat} {Lv : Value} (zs : List Value) (hij : i ≠ j)
    (hg : ∀ b g, Given Try.prog f (args b g) b ((g, .cells zs.toArray T) :: Outer.r) Lv k k' v)
    (hp : ∀ β, densP ρ' β ps = [Lv, .int .i64 ((k : Nat) : Int)]) (hq : ∀ β, densP ρ' β qs = [Lv, .int .i64 ((k' : Nat) : Int)]) (hz : ∀ β, densP ρ' β zps = zs) (ha : ∀ β, denV ρ β xs = args (β i) (β j)) (hr : ∀ β, res.den ρ' β = v) (β : Nat → Nat)
    (hinj : ∀ a ∈ [((i, ⟨45, ps, none⟩) : Nat × MB), (j, ⟨T, zps, none⟩)].map (·.1), ∀ c ∈ [((i, ⟨45, ps, none⟩) : Nat × MB), (j, ⟨T, zps, none⟩)].map (·.1), β a = β c → a = c) :
    Turns Try.prog ρ' β nx f (denV ρ β xs) [(i, ⟨45, ps, none⟩), (j, ⟨T, zps, none⟩)] [(i, ⟨45, qs, none⟩), (j, ⟨T, zps, none⟩)] [] res := fun w hro hpre => by
  obtain ⟨o, ho, hf⟩ := hpre _ (.head _)
  obtain ⟨o2, ho2, hf2⟩ := hpre _ (.tail _ (.head _))
  rw [fits_cells hf, hp] at ho
  rw [fits_cells hf2, hz] at ho2
  rw [ha]
  have hne : β j ≠ β i := fun e => hij (hinj i (by simp) j (by simp) e.symm)
  refine (hg (β i) (β j) w ho fun x hx => ?_).mono fun e w' ⟨he, l, hS, hm⟩ => ⟨β, fun _ _ => rfl, by rw [hr]; exact he, ?_, fun x hx => ?_, ⟨fun x hx => absurd hx (by simp), fun x hx => absurd hx (by simp)⟩⟩
  · rcases List.mem_cons.1 hx with rfl | hx
    · exact ⟨ho2, hne⟩
    · exact ⟨(hro x hx).1, fun e => (hro x hx).2 _ (.head _) e.symm⟩
  · exact ⟨hS.os, hS.tape, hS.output, hS.size, fun k hk hn => hS.block k hk fun e => hn (by simp [Option.some.inj e])⟩
  · rcases List.mem_cons.1 hx with rfl | hx
    · exact ⟨_, (hS.own _ hm).2, fits_mk (hq β)⟩
    · cases List.mem_singleton.1 hx
      exact ⟨_, (hS.ro _ (.head _)).2.2, fits_mk (hz β)⟩

/-- The memory of a function over the caller's tape. -/
def tapeM : Mem := [(0, some ⟨45, [.one (.v 0), .one (.int .i64 (.v 1))], none⟩)]
/-- What a function over the tape gives, ahead of any world: 'rest': its other arguments' variables. -/
theorem given_of [Outer] {cfg : Cfg} {f : FuncId} {args : List SW} {T : Tree Out} {Lv : Value} {k : Nat} {rest : List Value} (hL : fix Lv = Lv) (hT : treeOf Try.prog cfg f args tapeM 1 (Lv :: .int .i64 ((k : Nat) : Int) :: rest).length = T) (hu : argsUnder args tapeM (Lv :: .int .i64 ((k : Nat) : Int) :: rest).length = true)
    (p : Value → Nat → Prop) (h : T.den Try.prog (fun ρ' ret => ∃ v k', p v k' ∧ (∀ β, ret.val.den (env ρ') β = v) ∧ ∃ ps, find 0 ret.mem = some ⟨45, ps, none⟩ ∧ ∀ β, densP (env ρ') β ps = [Lv, .int .i64 ((k' : Nat) : Int)]) (Lv :: .int .i64 ((k : Nat) : Int) :: rest)) :
    ∃ v k', p v k' ∧ ∀ b, Given Try.prog f (denT (env (Lv :: .int .i64 ((k : Nat) : Int) :: rest)) (fun _ => b) args) b Outer.r Lv k k' v := by
  obtain ⟨vs, ret, ⟨v, k', hp, hv, ps, hf, hd⟩, hc⟩ := ways_of plain _ hT hu _ h
  refine ⟨v, k', hp, fun b w hb hr => ?_⟩
  have hM : Mrel (env (Lv :: .int .i64 ((k : Nat) : Int) :: rest)) (fun _ => b) [b] w (fun i => find i tapeM) w := by
    have hfind : ∀ i m, find i tapeM = some m → i = 0 ∧ m = ⟨45, [.one (.v 0), .one (.int .i64 (.v 1))], none⟩ := fun i m h => by
      simp only [tapeM, find] at h
      split at h
      · rename_i h0
        cases h; exact ⟨natBeq h0, rfl⟩
      · cases h
    refine ⟨rfl, rfl, rfl, Nat.le_refl _, fun _ _ _ => rfl, fun i m hm => ?_, fun i m hm => .inr (by simp), fun i j m m' hm hm' _ => ?_, fun x hx => ⟨(hr x hx).1, by simpa using (hr x hx).2⟩⟩
    · obtain ⟨rfl, rfl⟩ := hfind i m hm
      exact ⟨_, hb, fits_mk (by simp [densP, Piece.den, Cell.den, env, Tm.i, Tm.den, vInt, hL])⟩
    · rw [(hfind i m hm).1, (hfind j m' hm').1]
  refine (hc (fun _ => b) [b] w hM).mono fun e w' ⟨β', hβ, he, hm⟩ => ⟨by rw [he]; exact congrArg Ending.returned (hv β'), [(b, .cells (Tk Lv k') 45)], ?_, .head _⟩
  obtain ⟨o, ho, hfo⟩ := hm.cells 0 _ hf
  rw [fits_cells hfo, hd, hβ 0 (by omega)] at ho
  have hlt : b < w.heap.size := (Array.getElem?_eq_some_iff.1 hb).1
  refine ⟨hm.os, hm.tape, hm.output, hm.size, fun k hk hn => hm.old k hk (by simpa using fun e => hn (congrArg some e.symm)), fun x hx => ?_, fun x hx => ?_, by simp⟩
  · obtain ⟨h1, h2⟩ := hr x hx
    refine ⟨(Array.getElem?_eq_some_iff.1 h1).1, fun e => h2 (Option.some.inj e).symm, ?_⟩
    rw [hm.old _ (Array.getElem?_eq_some_iff.1 h1).1 (by simpa using h2)]; exact h1
  · cases List.mem_singleton.1 hx
    exact ⟨.inr rfl, ho⟩
end Go.Proofs.Ytfdlgeomaballaa
end
section
/- Ratios as fractions: what the operations give, where nothing overflows. -/
namespace Go.Proofs.Ytfdlgeomaballaa
open Go.RowKit Go.Proofs.Ytfdlgeomaballaa.Sx
set_option linter.unusedSimpArgs false
set_option linter.unusedVariables false

/-- The ratio of a and b is x / y, in lowest terms, of at most n bits. -/
structure Qf (n : Nat) (a b x y : Int) : Prop where
  pos : 0 < b
  co : Nat.gcd a.natAbs b.natAbs = 1
  ne : y ≠ 0
  eq : a * y = x * b
  la : a.natAbs < 2 ^ n
  lb : b.natAbs < 2 ^ n
variable {n m k : Nat} {a b c d x y z w : Int}
theorem Qf.fits (h : Qf n a b x y) (hn : n ≤ 480) : mkF a b = true := by
  unfold mkF
  rw [decide_eq_true (Nat.le_trans (bl_le h.la) hn), decide_eq_true (Nat.le_trans (bl_le h.lb) hn)]; rfl
theorem Qf.vld (h : Qf n a b x y) (hn : n ≤ 480) : Go.Proofs.Ytfdlgeomaballaa.vld (decide (a < 0)) a.natAbs (decide (b < 0)) b.natAbs = true := vldZ h.pos (h.fits hn) h.co
theorem Qf.lta (h : Qf n a b x y) (hn : n ≤ 480) : a.natAbs < pw 32 := short480 (Nat.le_trans (bl_le h.la) hn)
theorem Qf.ltb (h : Qf n a b x y) (hn : n ≤ 480) : b.natAbs < pw 32 := short480 (Nat.le_trans (bl_le h.lb) hn)
theorem q_make (x y : Int) (n : Nat) (hy : y ≠ 0) (hx : x.natAbs < 2 ^ n) (hyn : y.natAbs < 2 ^ n) (hn : n ≤ 480) : ∃ a b, mkZ x y = .tuple #[.agg (rvZ a b), .int .i64 0] ∧ Qf n a b x y := by
  have hg : 0 < Nat.gcd x.natAbs y.natAbs := Nat.gcd_pos_of_pos_right _ (by omega)
  have h1 : ((Nat.gcd x.natAbs y.natAbs : Nat) : Int) ∣ x := Int.dvd_natAbs.1 (Int.natCast_dvd_natCast.2 (Nat.gcd_dvd_left _ _))
  have h2 : ((Nat.gcd x.natAbs y.natAbs : Nat) : Int) ∣ y := Int.dvd_natAbs.1 (Int.natCast_dvd_natCast.2 (Nat.gcd_dvd_right _ _))
  have hp := mkN_den hy hg h2
  have ha := mkN_abs (y := y) h1
  have hb := mkN_abs (y := y) h2
  have hco := Nat.coprime_div_gcd_div_gcd hg
  have hla : x.natAbs / Nat.gcd x.natAbs y.natAbs < 2 ^ n := Nat.lt_of_le_of_lt (Nat.div_le_self _ _) hx
  have hlb : y.natAbs / Nat.gcd x.natAbs y.natAbs < 2 ^ n := Nat.lt_of_le_of_lt (Nat.div_le_self _ _) hyn
  have heq : mkN x y (Nat.gcd x.natAbs y.natAbs) * y = x * mkN y y (Nat.gcd x.natAbs y.natAbs) := by
    have e1 := Int.mul_ediv_cancel' h1
    have e2 := Int.mul_ediv_cancel' h2
    unfold mkN
    generalize ((Nat.gcd x.natAbs y.natAbs : Nat) : Int) = g at e1 e2 ⊢
    generalize x / g = p at e1 ⊢
    generalize y / g = q at e2 ⊢
    split <;> grind
  have hmk : mkZ x y = if mkF (mkN x y (Nat.gcd x.natAbs y.natAbs)) (mkN y y (Nat.gcd x.natAbs y.natAbs)) = true then .tuple #[.agg (rvZ (mkN x y (Nat.gcd x.natAbs y.natAbs)) (mkN y y (Nat.gcd x.natAbs y.natAbs))), .int .i64 0] else .tuple #[.agg (rvZ 0 0), .int .i64 10] := by
    unfold mkZ mkv; rw [if_neg hy]
  generalize mkN x y (Nat.gcd x.natAbs y.natAbs) = a at *
  generalize mkN y y (Nat.gcd x.natAbs y.natAbs) = b at *
  have hQ : Qf n a b x y := ⟨hp, by rw [ha, hb]; exact hco, hy, heq, by rw [ha]; exact hla, by rw [hb]; exact hlb⟩
  exact ⟨a, b, by rw [hmk, if_pos (hQ.fits hn)], hQ⟩
theorem Qf.to {x' y' : Int} (h : Qf n a b x y) (hy : y' ≠ 0) (he : x * y' = x' * y) : Qf n a b x' y' := by
  refine ⟨h.pos, h.co, hy, ?_, h.la, h.lb⟩
  have h1 := h.eq
  refine Int.eq_of_mul_eq_mul_right h.ne ?_
  grind
theorem Qf.up (h : Qf n a b x y) (hn : n ≤ m) : Qf m a b x y :=
  ⟨h.pos, h.co, h.ne, h.eq, Nat.lt_of_lt_of_le h.la (Nat.pow_le_pow_right (by omega) hn), Nat.lt_of_lt_of_le h.lb (Nat.pow_le_pow_right (by omega) hn)⟩
theorem abs_dvd (hb : 0 < b) (hd : 0 < d) (h1 : Nat.gcd a.natAbs b.natAbs = 1) (h : a * d = c * b) : b.natAbs ∣ d.natAbs := by
  have e : a.natAbs * d.natAbs = c.natAbs * b.natAbs := by rw [← Int.natAbs_mul, h, Int.natAbs_mul]
  have h2 : Nat.Coprime b.natAbs a.natAbs := by rw [Nat.coprime_comm]; exact h1
  exact h2.dvd_of_dvd_mul_left (by rw [e]; exact Nat.dvd_mul_left _ _)
theorem low_eq (hb : 0 < b) (hd : 0 < d) (h1 : Nat.gcd a.natAbs b.natAbs = 1) (h2 : Nat.gcd c.natAbs d.natAbs = 1) (h : a * d = c * b) : a = c ∧ b = d := by
  have e1 := abs_dvd hb hd h1 h
  have e2 := abs_dvd hd hb h2 h.symm
  have e3 := Nat.dvd_antisymm e1 e2
  have e4 : b = d := by omega
  subst e4
  exact ⟨Int.eq_of_mul_eq_mul_right (by omega) h, rfl⟩
/-- Equal fractions, and only they, are equal ratios. -/
theorem Qf.same (h1 : Qf n a b x y) (h2 : Qf m c d z w) : (a = c ∧ b = d) ↔ x * w = z * y := by
  have e1 := h1.eq
  have e2 := h2.eq
  have p1 := h1.pos
  have p2 := h2.pos
  constructor
  · rintro ⟨rfl, rfl⟩
    refine Int.eq_of_mul_eq_mul_right (show b ≠ 0 by omega) ?_
    grind
  · intro h
    refine low_eq p1 p2 h1.co h2.co ?_
    refine Int.eq_of_mul_eq_mul_right h1.ne (Int.eq_of_mul_eq_mul_right h2.ne ?_)
    grind
theorem mul_bits {p q : Int} (hp : p.natAbs < 2 ^ n) (hq : q.natAbs < 2 ^ m) : (p * q).natAbs < 2 ^ (n + m) := by
  rw [Int.natAbs_mul, Nat.pow_add]; exact Nat.mul_lt_mul'' hp hq
theorem add_bits {p q : Int} (hp : p.natAbs < 2 ^ n) (hq : q.natAbs < 2 ^ n) : (p + q).natAbs < 2 ^ (n + 1) := by
  rw [Nat.pow_succ]; omega
theorem more_bits {p : Int} (hp : p.natAbs < 2 ^ n) (h : n ≤ m) : p.natAbs < 2 ^ m := Nat.lt_of_lt_of_le hp (Nat.pow_le_pow_right (by omega) h)

theorem q_add (h1 : Qf n a b x y) (h2 : Qf m c d z w) (k : Nat) (hk : n + m + 1 = k) (hk2 : k ≤ 480) :
    ∃ e f, (Gives Try.prog 42 #[.agg (rvZ a b), .agg (rvZ c d)] (.tuple #[.agg (rvZ e f), .int .i64 0]) ∧ Gives Try.prog 43 #[.agg (rvZ a b), .agg (rvZ c d)] (.tuple #[.agg (rvZ e f), .int .i64 0])) ∧ Qf k e f (x * w + z * y) (y * w) := by
  have hg := add_rat (decide (a < 0)) (decide (b < 0)) (decide (c < 0)) (decide (d < 0)) a.natAbs b.natAbs c.natAbs d.natAbs (h1.lta (by omega)) (h1.ltb (by omega)) (h2.lta (by omega)) (h2.ltb (by omega))
  unfold addR at hg
  rw [h1.vld (by omega), h2.vld (by omega), if_pos (show (true && true) = true from rfl), vz_self, vz_self, vz_self, vz_self] at hg
  have p1 := h1.pos
  have p2 := h2.pos
  have hbd : b * d ≠ 0 := Int.ne_of_gt (Int.mul_pos p1 p2)
  obtain ⟨e, f, he, hq⟩ := q_make (a * d + c * b) (b * d) k hbd
    (by rw [← hk]; exact add_bits (mul_bits h1.la h2.lb) (by rw [Nat.add_comm n m]; exact mul_bits h2.la h1.lb))
    (more_bits (mul_bits h1.lb h2.lb) (by omega)) hk2
  rw [he] at hg
  refine ⟨e, f, hg, hq.to (Int.mul_ne_zero h1.ne h2.ne) ?_⟩
  have e1 := h1.eq
  have e2 := h2.eq
  grind
theorem q_sub (h1 : Qf n a b x y) (h2 : Qf m c d z w) (k : Nat) (hk : n + m + 1 = k) (hk2 : k ≤ 480) :
    ∃ e f, (Gives Try.prog 44 #[.agg (rvZ a b), .agg (rvZ c d)] (.tuple #[.agg (rvZ e f), .int .i64 0]) ∧ Gives Try.prog 45 #[.agg (rvZ a b), .agg (rvZ c d)] (.tuple #[.agg (rvZ e f), .int .i64 0])) ∧ Qf k e f (x * w - z * y) (y * w) := by
  have hg := sub_rat (decide (a < 0)) (decide (b < 0)) (decide (c < 0)) (decide (d < 0)) a.natAbs b.natAbs c.natAbs d.natAbs (h1.lta (by omega)) (h1.ltb (by omega)) (h2.lta (by omega)) (h2.ltb (by omega))
  unfold subR at hg
  rw [h1.vld (by omega), h2.vld (by omega), if_pos (show (true && true) = true from rfl), vz_self, vz_self, vz_self, vz_self] at hg
  have p1 := h1.pos
  have p2 := h2.pos
  have hbd : b * d ≠ 0 := Int.ne_of_gt (Int.mul_pos p1 p2)
  obtain ⟨e, f, he, hq⟩ := q_make (a * d + -(c * b)) (b * d) k hbd
    (by rw [← hk]; exact add_bits (mul_bits h1.la h2.lb) (by rw [Nat.add_comm n m, Int.natAbs_neg]; exact mul_bits h2.la h1.lb))
    (more_bits (mul_bits h1.lb h2.lb) (by omega)) hk2
  rw [he] at hg
  refine ⟨e, f, hg, hq.to (Int.mul_ne_zero h1.ne h2.ne) ?_⟩
  have e1 := h1.eq
  have e2 := h2.eq
  grind
theorem q_mul (h1 : Qf n a b x y) (h2 : Qf m c d z w) (k : Nat) (hk : n + m = k) (hk2 : k ≤ 480) :
    ∃ e f, (Gives Try.prog 46 #[.agg (rvZ a b), .agg (rvZ c d)] (.tuple #[.agg (rvZ e f), .int .i64 0]) ∧ Gives Try.prog 47 #[.agg (rvZ a b), .agg (rvZ c d)] (.tuple #[.agg (rvZ e f), .int .i64 0])) ∧ Qf k e f (x * z) (y * w) := by
  have hg := mul_rat (decide (a < 0)) (decide (b < 0)) (decide (c < 0)) (decide (d < 0)) a.natAbs b.natAbs c.natAbs d.natAbs (h1.lta (by omega)) (h1.ltb (by omega)) (h2.lta (by omega)) (h2.ltb (by omega))
  unfold mulR at hg
  rw [h1.vld (by omega), h2.vld (by omega), if_pos (show (true && true) = true from rfl), vz_self, vz_self, vz_self, vz_self] at hg
  have p1 := h1.pos
  have p2 := h2.pos
  have hbd : b * d ≠ 0 := Int.ne_of_gt (Int.mul_pos p1 p2)
  obtain ⟨e, f, he, hq⟩ := q_make (a * c) (b * d) k hbd (by rw [← hk]; exact mul_bits h1.la h2.la) (by rw [← hk]; exact mul_bits h1.lb h2.lb) hk2
  rw [he] at hg
  refine ⟨e, f, hg, hq.to (Int.mul_ne_zero h1.ne h2.ne) ?_⟩
  have e1 := h1.eq
  have e2 := h2.eq
  grind
theorem Qf.zero (h : Qf n a b x y) (hx : x = 0) : a = 0 ∧ b = 1 := by
  have e := h.eq
  rw [hx, Int.zero_mul] at e
  have ha : a = 0 := (Int.mul_eq_zero.1 e).resolve_right h.ne
  have hc := h.co
  rw [ha] at hc
  have hp := h.pos
  simp at hc
  exact ⟨ha, by omega⟩
theorem Qf.nonzero (h : Qf n a b x y) (hx : x ≠ 0) : a ≠ 0 := fun ha => by
  have e := h.eq
  rw [ha, Int.zero_mul] at e
  rcases Int.mul_eq_zero.1 e.symm with h1 | h1
  · exact hx h1
  · have := h.pos; omega
theorem q_quo (h1 : Qf n a b x y) (h2 : Qf m c d z w) (hz : z ≠ 0) (k : Nat) (hk : n + m = k) (hk2 : k ≤ 480) :
    ∃ e f, (Gives Try.prog 48 #[.agg (rvZ a b), .agg (rvZ c d)] (.tuple #[.agg (rvZ e f), .int .i64 0]) ∧ Gives Try.prog 49 #[.agg (rvZ a b), .agg (rvZ c d)] (.tuple #[.agg (rvZ e f), .int .i64 0])) ∧ Qf k e f (x * w) (y * z) := by
  have hg := quo_rat (decide (a < 0)) (decide (b < 0)) (decide (c < 0)) (decide (d < 0)) a.natAbs b.natAbs c.natAbs d.natAbs (h1.lta (by omega)) (h1.ltb (by omega)) (h2.lta (by omega)) (h2.ltb (by omega))
  unfold quoR at hg
  rw [h1.vld (by omega), h2.vld (by omega), if_pos (show (true && true) = true from rfl), vz_self, vz_self, vz_self, vz_self] at hg
  have p1 := h1.pos
  have hbd : b * c ≠ 0 := Int.mul_ne_zero (by omega) (h2.nonzero hz)
  obtain ⟨e, f, he, hq⟩ := q_make (a * d) (b * c) k hbd (by rw [← hk]; exact mul_bits h1.la h2.lb) (by rw [← hk]; exact mul_bits h1.lb h2.la) hk2
  rw [he] at hg
  refine ⟨e, f, hg, hq.to (Int.mul_ne_zero h1.ne hz) ?_⟩
  have e1 := h1.eq
  have e2 := h2.eq
  grind
theorem q_quo_zero (h1 : Qf n a b x y) (h2 : Qf m c d z w) (hz : z = 0) (hn : n ≤ 480) (hm : m ≤ 480) :
    Gives Try.prog 48 #[.agg (rvZ a b), .agg (rvZ c d)] (.tuple #[.agg (rvZ 0 0), .int .i64 11]) := by
  have hg := (quo_rat (decide (a < 0)) (decide (b < 0)) (decide (c < 0)) (decide (d < 0)) a.natAbs b.natAbs c.natAbs d.natAbs (h1.lta hn) (h1.ltb hn) (h2.lta hm) (h2.ltb hm)).1
  unfold quoR at hg
  rw [h1.vld hn, h2.vld hm, if_pos (show (true && true) = true from rfl), vz_self, vz_self, vz_self, vz_self] at hg
  have e : mkZ (a * d) (b * c) = .tuple #[.agg (rvZ 0 0), .int .i64 11] := by
    unfold mkZ mkv
    exact if_pos (by rw [(h2.zero hz).1, Int.mul_zero])
  rw [e] at hg
  exact hg
theorem cmpZ_mul (p q : Int) (hk : 0 < x) : cmpZ (p * x) (q * x) = cmpZ p q := by
  rcases Int.lt_trichotomy p q with h | h | h
  · rw [cmpZ_lt h, cmpZ_lt (Int.mul_lt_mul_of_pos_right h hk)]
  · rw [cmpZ_eq h, cmpZ_eq (by rw [h])]
  · rw [cmpZ_gt h, cmpZ_gt (Int.mul_lt_mul_of_pos_right h hk)]
/-- Cmp, for fractions with denominators above 0. -/
theorem q_cmp (h1 : Qf n a b x y) (h2 : Qf m c d z w) (hy : 0 < y) (hw : 0 < w) (hn : n ≤ 480) (hm : m ≤ 480) :
    Gives Try.prog 50 #[.agg (rvZ a b), .agg (rvZ c d)] (.tuple #[.int .i64 (cmpZ (x * w) (z * y)), .int .i64 0]) := by
  have hg := (cmp_rat (decide (a < 0)) (decide (b < 0)) (decide (c < 0)) (decide (d < 0)) a.natAbs b.natAbs c.natAbs d.natAbs (h1.lta hn) (h1.ltb hn) (h2.lta hm) (h2.ltb hm)).1
  unfold cmpR at hg
  rw [h1.vld hn, h2.vld hm, if_pos (show (true && true) = true from rfl), vz_self, vz_self, vz_self, vz_self] at hg
  have e1 := h1.eq
  have e2 := h2.eq
  have p1 := h1.pos
  have p2 := h2.pos
  have e : cmpZ (a * d) (c * b) = cmpZ (x * w) (z * y) := by
    rw [← cmpZ_mul (x := y * w) _ _ (Int.mul_pos hy hw), ← cmpZ_mul (x := b * d) (x * w) _ (Int.mul_pos p1 p2)]
    congr 1 <;> grind
  rw [e] at hg
  exact hg
theorem sgn_mul (p : Int) (hk : 0 < x) : sgn (p * x) = sgn p := by
  have h := cmpZ_mul p 0 hk
  rw [Int.zero_mul] at h
  have e : ∀ z, sgn z = cmpZ z 0 := fun z => by unfold sgn cmpZ; rfl
  rw [e, e, h]
theorem q_sign (h1 : Qf n a b x y) (hy : 0 < y) (hn : n ≤ 480) : Gives Try.prog 59 #[.agg (rvZ a b)] (.tuple #[.int .i64 (sgn x), .int .i64 0]) := by
  have hg := (sign_rat (decide (a < 0)) (decide (b < 0)) a.natAbs b.natAbs (h1.lta hn) (h1.ltb hn)).1
  unfold signR at hg
  rw [h1.vld hn, if_pos (show true = true from rfl), vz_self] at hg
  have e1 := h1.eq
  have p1 := h1.pos
  rw [← sgn_mul a hy, e1, sgn_mul x p1] at hg
  exact hg

/-! ### What is made -/
theorem zero_made : Gives Try.prog 71 #[] (.agg (rvZ 0 1)) := by
  have g := (whole_rat 0 (by omega)).2
  have main : tdZero.den Try.prog (fun ρ' ret => ∀ β, ret.val.den (env ρ') β = .agg (rvZ 0 1)) [] := by
    refine tree_leaf ?_
    refine ev_call [.bool (decide (0 < 0)), .agg (mgk 32 (0 : Int).natAbs), .bool (decide (1 < 0)), .agg (mgk 32 (1 : Int).natAbs)] rfl rfl (pure_gives g) (fun β => by simp [BTm.den, Tm.i, Tm.s, Tm.den, env, vInt, vBool, vStr, exI, SW.den, SV.den, Cell.den, densP, Piece.den, denV, denT]) (fun β => by simp [BTm.den, Tm.i, Tm.s, Tm.den, env, vInt, vBool, vStr, exI, SW.den, SV.den, Cell.den, densP, Piece.den, denV, denT, rowCells_mgk, rv_list, rvZ]) ?_
    refine ev_nil fun β => ?_
    simp [BTm.den, Tm.i, Tm.s, Tm.den, env, vInt, vBool, vStr, exI, SW.den, SV.den, Cell.den, densP, Piece.den, denV, rowCells_mgk, iv_list, rv_list, ivZ, rvZ, mgl_agg]
  exact gives_pure (pure_of plain [] tdZero_ok (by kernel_rfl) _ main)
theorem of_made (x y : Int) (n : Nat) (hx : -9223372036854775808 ≤ x ∧ x ≤ 9223372036854775807) (hy : -9223372036854775808 ≤ y ∧ y ≤ 9223372036854775807) (h0 : y ≠ 0) (h1 : x.natAbs < 2 ^ n) (h2 : y.natAbs < 2 ^ n) (hn : n ≤ 480) :
    ∃ a b, Gives Try.prog 69 #[.int .i64 x, .int .i64 y] (.agg (rvZ a b)) ∧ Qf n a b x y := by
  obtain ⟨a, b, he, hq⟩ := q_make x y n h0 h1 h2 hn
  have g := (of_rat x y hx hy).2
  rw [he] at g
  refine ⟨a, b, ?_, hq⟩
  have main : tmOf.den Try.prog (fun ρ' ret => ∀ β, ret.val.den (env ρ') β = .agg (rvZ a b)) [.int .i64 x, .int .i64 y] := by
    refine tree_leaf ?_
    refine ev_call [.bool (decide (a < 0)), .agg (mgk 32 (a : Int).natAbs), .bool (decide (b < 0)), .agg (mgk 32 (b : Int).natAbs), .int .i64 0] rfl rfl (pure_gives (g)) (fun β => by simp [BTm.den, Tm.i, Tm.s, Tm.den, env, vInt, vBool, vStr, exI, SW.den, SV.den, Cell.den, densP, Piece.den, denV, rowCells_mgk, iv_list, rv_list, ivZ, rvZ, mgl_agg]) (fun β => by simp [BTm.den, Tm.i, Tm.s, Tm.den, env, vInt, vBool, vStr, exI, SW.den, SV.den, Cell.den, densP, Piece.den, denV, rowCells_mgk, iv_list, rv_list, ivZ, rvZ, mgl_agg]) ?_
    refine ev_nil fun β => ?_
    simp [BTm.den, Tm.i, Tm.s, Tm.den, env, vInt, vBool, vStr, exI, SW.den, SV.den, Cell.den, densP, Piece.den, denV, rowCells_mgk, iv_list, rv_list, ivZ, rvZ, mgl_agg]
  have h := pure_of plain [.int .i64 x, .int .i64 y] tmOf_ok (by kernel_rfl) _ main
  refine gives_pure ?_
  simpa [intW, BTm.den, Tm.i, Tm.s, Tm.den, env, vInt, vBool, vStr, exI, SW.den, SV.den, Cell.den, densP, Piece.den, denV, denT] using h
end Go.Proofs.Ytfdlgeomaballaa
end
section
/- What is drawn, by number. -/
namespace Go.Proofs.Ytfdlgeomaballaa
open Go.RowKit Go.Proofs.Ytfdlgeomaballaa.Sx

theorem Tape.next1 {r : List (Nat × Obj)} {Lv : Value} {tv : Nat → Int} (ht : Tape r Lv tv) (k : Nat) (n : Int) (hn : 1 ≤ n ∧ n ≤ 4611686018427387904) (hk : k + 1 ≤ 1152921504606846976) :
    ∃ z : Int, (0 ≤ z ∧ z < n) ∧ ∀ b, Given Try.prog 41 #[.pointer (some ⟨b, 0, none⟩), .int .i64 n] b r Lv k (k + 1) (.int .i64 z) := ⟨_, foldv_range hn.1, fun b => ht k b n hn hk⟩
theorem Tape.pick1 {r : List (Nat × Obj)} {Lv : Value} {tv : Nat → Int} (ht : Tape r Lv tv) (zs : List Int) (n : Nat) (hz : zs.length = n) (h0 : 1 ≤ n ∧ n ≤ 1000000) (k : Nat) (hk : k + 1 ≤ 1152921504606846976) :
    ∃ z : Int, z ∈ zs ∧ ∀ b g cap T, Given Try.prog 40 #[.pointer (some ⟨b, 0, none⟩), .slice (some ⟨g, 0, none⟩) n cap] b ((g, .cells (ints zs) T) :: r) Lv k (k + 1) (.int .i64 z) :=
  ⟨_, ints_mem hz (foldv_range (by omega)), fun b g cap T => ht.pick b g cap T zs n hz h0 k hk⟩
end Go.Proofs.Ytfdlgeomaballaa
end
