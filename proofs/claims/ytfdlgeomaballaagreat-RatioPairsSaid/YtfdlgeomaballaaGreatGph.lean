/- Merged: Tr, Ua, Os, Ub, Va, Vn, Vm. -/
import Derived.Test.YtfdlgeomaballaaGreatTp
import Derived.Test.YtfdlgeomaballaaGreatTb
import Derived.ProofKit
import Derived.OpenShut
import Derived.Carry
import Derived.Test.YtfdlgeomaballaaGreatGpe
import Derived.Test.YtfdlgeomaballaaGreatGpg
import Derived.Test.YtfdlgeomaballaaGreatGpc
import Derived.Test.YtfdlgeomaballaaGreatTi
section
/- What the tape gives, said ahead of the call: for a region that draws its order. -/
namespace Go.Proofs.YtfdlgeomaballaaGreat
open Go.RowKit
set_option linter.unusedVariables false

/-- The call gives v, and leaves the tape at k', whatever the world, if the tape stands at k and the list lies in r. -/
def Given (P : Program) (f : FuncId) (args : Array Value) (b : Nat) (r : List (Nat × Obj)) (Lv : Value) (k k' : Nat) (v : Value) : Prop :=
  ∀ w, w.heap[b]? = some (.cells (Tk Lv k) 25) → (∀ x ∈ r, w.heap[x.1]? = some x.2 ∧ x.1 ≠ b) → Calls P f args w fun e w' => e = .returned v ∧ ∃ l, St (some b) w w' r l ∧ (b, Obj.cells (Tk Lv k') 25) ∈ l

theorem Given.use {c : Option Nat} {w0 w : World} {r l l' : List (Nat × Obj)} {P : Program} {f : FuncId} {args : Array Value} {b : Nat} {Lv : Value} {k k' : Nat} {v : Value} (hg : Given P f args b r Lv k k' v) (h : St c w0 w r l)
    (hu : Upd l b (.cells (Tk Lv k) 25) (.cells (Tk Lv k') 25) l') : Calls P f args w fun e w' => e = .returned v ∧ St c w0 w' r l' := by
  have hb := h.own _ hu.mem
  refine (hg w hb.2 fun x hx => ⟨(h.ro x hx).2.2, fun e => ?_⟩).mono fun e w' ⟨he, l2, h3, h4⟩ => ⟨he, h.but hu h3 h4⟩
  have h1 := (h.ro x hx).1
  have h2 := (h.ro x hx).2.1
  rw [e] at h1 h2
  rcases hb.1 with hb | hb
  · simp only at hb; omega
  · exact h2 hb
theorem Given.of {P : Program} {f : FuncId} {args : Array Value} {b : Nat} {r : List (Nat × Obj)} {Lv : Value} {k k' : Nat} {v : Value}
    (h : ∀ w, St (some b) w w r [(b, .cells (Tk Lv k) 25)] → Calls P f args w fun e w' => e = .returned v ∧ ∃ l, St (some b) w w' r l ∧ (b, Obj.cells (Tk Lv k') 25) ∈ l) : Given P f args b r Lv k k' v :=
  fun w hb hr => h w (St.start_may w b _ hb r hr)

set_option maxHeartbeats 1000000 in
theorem next_given (b : Nat) (n : Int) (hn : 1 ≤ n ∧ n ≤ 4611686018427387904) (r : List (Nat × Obj)) (Lv : Value) (k : Nat) (hs : Slc r Lv) (hk : k + 1 ≤ 1152921504606846976) :
    ∃ z, (0 ≤ z ∧ z < n) ∧ Given Tryz.prog 48 #[.pointer (some ⟨b, 0, none⟩), .int .i64 n] b r Lv k (k + 1) (.int .i64 z) := by
  obtain ⟨a, len, cap, rfl, hlen, hs⟩ := hs
  have hkk : (0 : Int) ≤ ((k : Nat) : Int) ∧ ((k : Nat) : Int) ≤ 1152921504606846975 := by omega
  by_cases hl : k < len
  · obtain ⟨bl, off, cs, T, fz, z, rfl, hm, hc, hz⟩ := hs k hl
    have hl' : ((k : Nat) : Int) < ((len : Nat) : Int) := by omega
    have hl'' : ¬ ((len : Nat) : Int) ≤ ((k : Nat) : Int) := by omega
    clear hs
    refine ⟨foldv z n, foldv_range hn.1, Given.of fun w hS => ?_⟩
    go_enter Tryz.func48, Tryz.ntmps48
    go_wp2_with (first | (refine L_load (t := 3) rfl rfl ?_; refine ⟨_, run_load_cell hS _ _ rfl _ _ rfl _ _ (.inl (.head _)) _ Tryz.underlying3 rfl _ (Tk_at _ _), ?_⟩))
    (try simp only [Act.put]); (try simp only [List.setIfInBounds_toArray, List.set_cons_succ, List.set_cons_zero]); refine wp_region_w0 hS (by kernel_rfl) (by kernel_rfl) ?_
    repeat (first | (refine S_load (t := 3) rfl rfl rfl rfl ?_; refine ⟨_, fun _ hS' => run_load_cell hS' _ _ rfl _ _ rfl _ _ (.inl (.head _)) _ Tryz.underlying3 rfl _ (Tk_at _ _), ?_⟩; simp only [Act.put, List.setIfInBounds_toArray, List.set_cons_succ, List.set_cons_zero]) | (refine S_load (t := 22) rfl rfl rfl rfl ?_; refine ⟨_, fun _ hS' => run_load_cell hS' _ _ rfl _ _ rfl _ _ (.inl (.head _)) _ Tryz.underlying22 rfl _ (Tk_list _ _), ?_⟩; simp only [Act.put, List.setIfInBounds_toArray, List.set_cons_succ, List.set_cons_zero]) | (refine S_run rfl rfl ?_; apply Exists.intro; refine ⟨fun _ => ?_, ?_⟩; (focus (go_simp; (try go_bits); exact rfl)); simp only [Act.put, List.setIfInBounds_toArray, List.set_cons_succ, List.set_cons_zero]))
    refine S_end0 ?_; clear hS; intro _ hS
    go_wp2
    (try simp only [Act.put]); (try simp only [List.setIfInBounds_toArray, List.set_cons_succ, List.set_cons_zero]); refine wp_region_w0 hS (by kernel_rfl) (by kernel_rfl) ?_
    repeat (first
      | (refine S_load (t := 3) (o := ⟨some 31, _, _, _, _, _⟩) rfl rfl rfl rfl ?_; refine ⟨_, fun _ hS' => run_load_ro hS' _ _ rfl _ _ rfl _ _ fz hm _ Tryz.underlying3 rfl _ hc, ?_⟩; simp only [Act.put, List.setIfInBounds_toArray, List.set_cons_succ, List.set_cons_zero])
      | (refine S_load (t := 3) rfl rfl rfl rfl ?_; refine ⟨_, fun _ hS' => run_load_cell hS' _ _ rfl _ _ rfl _ _ (.inl (.head _)) _ Tryz.underlying3 rfl _ (Tk_at _ _), ?_⟩; simp only [Act.put, List.setIfInBounds_toArray, List.set_cons_succ, List.set_cons_zero]) | (refine S_load (t := 22) rfl rfl rfl rfl ?_; refine ⟨_, fun _ hS' => run_load_cell hS' _ _ rfl _ _ rfl _ _ (.inl (.head _)) _ Tryz.underlying22 rfl _ (Tk_list _ _), ?_⟩; simp only [Act.put, List.setIfInBounds_toArray, List.set_cons_succ, List.set_cons_zero]) | (refine S_run rfl rfl ?_; apply Exists.intro; refine ⟨fun _ => ?_, ?_⟩; (focus (go_simp; (try go_bits); exact rfl)); simp only [Act.put, List.setIfInBounds_toArray, List.set_cons_succ, List.set_cons_zero]))
    refine S_end0 ?_; clear hS; intro _ hS
    go_wp2_with (first | (refine L_load (t := 3) rfl rfl ?_; refine ⟨_, run_load_cell hS _ _ rfl _ _ rfl _ _ (.inl (.head _)) _ Tryz.underlying3 rfl _ (Tk_at _ _), ?_⟩) | (refine L_store (t := 3) hS rfl rfl ?_; refine ⟨_, _, Tk (.slice (some ⟨bl, off, none⟩) len cap) (k + 1), _, _, (.head), run_store_cell hS _ _ _ rfl _ _ rfl _ rfl _ _ _ (.head) size3 rfl rfl ?_ ?_, ?_⟩; (focus (rw [Tk_size]; omega)); (focus (exact Tk_put _ _)); clear hS; intro _ hS) | (go_at_call 75; (with_reducible refine Gives.use (fold_any _ _ hz hn) hS ?_); clear hS; intro _ hS))
    go_ret
    exact ⟨rfl, _, hS, .head _⟩
  · have hl' : ¬ ((k : Nat) : Int) < ((len : Nat) : Int) := by omega
    have hl'' : ((len : Nat) : Int) ≤ ((k : Nat) : Int) := by omega
    obtain ⟨z, hz0⟩ : ∃ z, (((k : Nat) : Int) * 7).tmod 11 = z := ⟨_, rfl⟩
    have hz1 : (((k : Nat) : Int) * 7) % 11 = z := by rw [← hz0, Int.tmod_eq_emod_of_nonneg (by omega)]
    have hz : -9223372036854775808 ≤ z ∧ z ≤ 9223372036854775807 := by omega
    clear hs
    refine ⟨foldv z n, foldv_range hn.1, Given.of fun w hS => ?_⟩
    go_enter Tryz.func48, Tryz.ntmps48
    go_wp2_with (first | (refine L_load (t := 3) rfl rfl ?_; refine ⟨_, run_load_cell hS _ _ rfl _ _ rfl _ _ (.inl (.head _)) _ Tryz.underlying3 rfl _ (Tk_at _ _), ?_⟩))
    (try simp only [Act.put]); (try simp only [List.setIfInBounds_toArray, List.set_cons_succ, List.set_cons_zero]); refine wp_region_w0 hS (by kernel_rfl) (by kernel_rfl) ?_
    repeat (first | (refine S_load (t := 3) rfl rfl rfl rfl ?_; refine ⟨_, fun _ hS' => run_load_cell hS' _ _ rfl _ _ rfl _ _ (.inl (.head _)) _ Tryz.underlying3 rfl _ (Tk_at _ _), ?_⟩; simp only [Act.put, List.setIfInBounds_toArray, List.set_cons_succ, List.set_cons_zero]) | (refine S_load (t := 22) rfl rfl rfl rfl ?_; refine ⟨_, fun _ hS' => run_load_cell hS' _ _ rfl _ _ rfl _ _ (.inl (.head _)) _ Tryz.underlying22 rfl _ (Tk_list _ _), ?_⟩; simp only [Act.put, List.setIfInBounds_toArray, List.set_cons_succ, List.set_cons_zero]) | (refine S_run rfl rfl ?_; apply Exists.intro; refine ⟨fun _ => ?_, ?_⟩; (focus (go_simp; (try go_bits); exact rfl)); simp only [Act.put, List.setIfInBounds_toArray, List.set_cons_succ, List.set_cons_zero]))
    refine S_end0 ?_; clear hS; intro _ hS
    go_wp2_with (first | (refine L_load (t := 3) rfl rfl ?_; refine ⟨_, run_load_cell hS _ _ rfl _ _ rfl _ _ (.inl (.head _)) _ Tryz.underlying3 rfl _ (Tk_at _ _), ?_⟩) | (refine L_store (t := 3) hS rfl rfl ?_; refine ⟨_, _, Tk (.slice a len cap) (k + 1), _, _, (.head), run_store_cell hS _ _ _ rfl _ _ rfl _ rfl _ _ _ (.head) size3 rfl rfl ?_ ?_, ?_⟩; (focus (rw [Tk_size]; omega)); (focus (exact Tk_put _ _)); clear hS; intro _ hS) | (go_at_call 75; (with_reducible refine Gives.use (fold_any _ _ hz hn) hS ?_); clear hS; intro _ hS))
    go_ret
    exact ⟨rfl, _, hS, .head _⟩

set_option maxHeartbeats 1000000 in
theorem range_given (b : Nat) (lo hi n : Int) (hlo : -1152921504606846976 ≤ lo ∧ lo ≤ 1152921504606846976) (hhi : lo ≤ hi ∧ hi ≤ 1152921504606846976) (hn : hi - lo + 1 = n) (r : List (Nat × Obj)) (Lv : Value) (k : Nat) (hs : Slc r Lv) (hk : k + 1 ≤ 1152921504606846976) :
    ∃ z, (lo ≤ z ∧ z ≤ hi) ∧ Given Tryz.prog 23 #[.pointer (some ⟨b, 0, none⟩), .int .i64 lo, .int .i64 hi] b r Lv k (k + 1) (.int .i64 z) := by
  have hn' : 1 ≤ n ∧ n ≤ 4611686018427387904 := by omega
  obtain ⟨x, hx, hg⟩ := next_given b n hn' r Lv k hs hk
  refine ⟨lo + x, by omega, Given.of fun w hS => ?_⟩
  have hx2 : 0 ≤ x ∧ x ≤ 4611686018427387904 := by omega
  go_enter Tryz.func23, Tryz.ntmps23
  go_wp2_with (first | (go_at_call 48; (with_reducible refine (hg.use hS .head).mono ?_); clear hS; intro _ _ ⟨he, hS⟩; subst he))
  go_ret
  exact ⟨rfl, _, hS, .head _⟩
end Go.Proofs.YtfdlgeomaballaaGreat
end
section
/- The tape as a function from places to numbers: Next and Pick. -/
namespace Go.Proofs.YtfdlgeomaballaaGreat
open Go.RowKit
set_option linter.unusedVariables false

set_option maxHeartbeats 1000000 in
theorem tape_at (r : List (Nat × Obj)) (Lv : Value) (k : Nat) (hs : Slc r Lv) :
    ∃ z : Int, ∀ (b : Nat) (n : Int), 1 ≤ n ∧ n ≤ 4611686018427387904 → k + 1 ≤ 1152921504606846976 → Given Tryz.prog 48 #[.pointer (some ⟨b, 0, none⟩), .int .i64 n] b r Lv k (k + 1) (.int .i64 (foldv z n)) := by
  by_cases hk : k + 1 ≤ 1152921504606846976
  case neg => exact ⟨0, fun b n hn h => absurd h hk⟩
  obtain ⟨a, len, cap, rfl, hlen, hs⟩ := hs
  have hkk : (0 : Int) ≤ ((k : Nat) : Int) ∧ ((k : Nat) : Int) ≤ 1152921504606846975 := by omega
  by_cases hl : k < len
  · obtain ⟨bl, off, cs, T, fz, z, rfl, hm, hc, hz⟩ := hs k hl
    have hl' : ((k : Nat) : Int) < ((len : Nat) : Int) := by omega
    have hl'' : ¬ ((len : Nat) : Int) ≤ ((k : Nat) : Int) := by omega
    clear hs
    refine ⟨z, fun b n hn _ => Given.of fun w hS => ?_⟩
    go_enter Tryz.func48, Tryz.ntmps48
    go_wp2_with (first | (refine L_load (t := 3) rfl rfl ?_; refine ⟨_, run_load_cell hS _ _ rfl _ _ rfl _ _ (.inl (.head _)) _ Tryz.underlying3 rfl _ (Tk_at _ _), ?_⟩))
    (try simp only [Act.put]); (try simp only [List.setIfInBounds_toArray, List.set_cons_succ, List.set_cons_zero]); refine wp_region_w0 hS (by kernel_rfl) (by kernel_rfl) ?_
    repeat (first | (refine S_load (t := 3) rfl rfl rfl rfl ?_; refine ⟨_, fun _ hS' => run_load_cell hS' _ _ rfl _ _ rfl _ _ (.inl (.head _)) _ Tryz.underlying3 rfl _ (Tk_at _ _), ?_⟩; simp only [Act.put, List.setIfInBounds_toArray, List.set_cons_succ, List.set_cons_zero]) | (refine S_load (t := 22) rfl rfl rfl rfl ?_; refine ⟨_, fun _ hS' => run_load_cell hS' _ _ rfl _ _ rfl _ _ (.inl (.head _)) _ Tryz.underlying22 rfl _ (Tk_list _ _), ?_⟩; simp only [Act.put, List.setIfInBounds_toArray, List.set_cons_succ, List.set_cons_zero]) | (refine S_run rfl rfl ?_; apply Exists.intro; refine ⟨fun _ => ?_, ?_⟩; (focus (go_simp; (try go_bits); exact rfl)); simp only [Act.put, List.setIfInBounds_toArray, List.set_cons_succ, List.set_cons_zero]))
    refine S_end0 ?_; clear hS; intro _ hS
    go_wp2
    (try simp only [Act.put]); (try simp only [List.setIfInBounds_toArray, List.set_cons_succ, List.set_cons_zero]); refine wp_region_w0 hS (by kernel_rfl) (by kernel_rfl) ?_
    repeat (first
      | (refine S_load (t := 3) (o := ⟨some 31, _, _, _, _, _⟩) rfl rfl rfl rfl ?_; refine ⟨_, fun _ hS' => run_load_ro hS' _ _ rfl _ _ rfl _ _ fz hm _ Tryz.underlying3 rfl _ hc, ?_⟩; simp only [Act.put, List.setIfInBounds_toArray, List.set_cons_succ, List.set_cons_zero])
      | (refine S_load (t := 3) rfl rfl rfl rfl ?_; refine ⟨_, fun _ hS' => run_load_cell hS' _ _ rfl _ _ rfl _ _ (.inl (.head _)) _ Tryz.underlying3 rfl _ (Tk_at _ _), ?_⟩; simp only [Act.put, List.setIfInBounds_toArray, List.set_cons_succ, List.set_cons_zero]) | (refine S_load (t := 22) rfl rfl rfl rfl ?_; refine ⟨_, fun _ hS' => run_load_cell hS' _ _ rfl _ _ rfl _ _ (.inl (.head _)) _ Tryz.underlying22 rfl _ (Tk_list _ _), ?_⟩; simp only [Act.put, List.setIfInBounds_toArray, List.set_cons_succ, List.set_cons_zero]) | (refine S_run rfl rfl ?_; apply Exists.intro; refine ⟨fun _ => ?_, ?_⟩; (focus (go_simp; (try go_bits); exact rfl)); simp only [Act.put, List.setIfInBounds_toArray, List.set_cons_succ, List.set_cons_zero]))
    refine S_end0 ?_; clear hS; intro _ hS
    go_wp2_with (first | (refine L_load (t := 3) rfl rfl ?_; refine ⟨_, run_load_cell hS _ _ rfl _ _ rfl _ _ (.inl (.head _)) _ Tryz.underlying3 rfl _ (Tk_at _ _), ?_⟩) | (refine L_store (t := 3) hS rfl rfl ?_; refine ⟨_, _, Tk (.slice (some ⟨bl, off, none⟩) len cap) (k + 1), _, _, (.head), run_store_cell hS _ _ _ rfl _ _ rfl _ rfl _ _ _ (.head) size3 rfl rfl ?_ ?_, ?_⟩; (focus (rw [Tk_size]; omega)); (focus (exact Tk_put _ _)); clear hS; intro _ hS) | (go_at_call 75; (with_reducible refine Gives.use (fold_any _ _ hz hn) hS ?_); clear hS; intro _ hS))
    go_ret
    exact ⟨rfl, _, hS, .head _⟩
  · have hl' : ¬ ((k : Nat) : Int) < ((len : Nat) : Int) := by omega
    have hl'' : ((len : Nat) : Int) ≤ ((k : Nat) : Int) := by omega
    obtain ⟨z, hz0⟩ : ∃ z, (((k : Nat) : Int) * 7).tmod 11 = z := ⟨_, rfl⟩
    have hz1 : (((k : Nat) : Int) * 7) % 11 = z := by rw [← hz0, Int.tmod_eq_emod_of_nonneg (by omega)]
    have hz : -9223372036854775808 ≤ z ∧ z ≤ 9223372036854775807 := by omega
    clear hs
    refine ⟨z, fun b n hn _ => Given.of fun w hS => ?_⟩
    go_enter Tryz.func48, Tryz.ntmps48
    go_wp2_with (first | (refine L_load (t := 3) rfl rfl ?_; refine ⟨_, run_load_cell hS _ _ rfl _ _ rfl _ _ (.inl (.head _)) _ Tryz.underlying3 rfl _ (Tk_at _ _), ?_⟩))
    (try simp only [Act.put]); (try simp only [List.setIfInBounds_toArray, List.set_cons_succ, List.set_cons_zero]); refine wp_region_w0 hS (by kernel_rfl) (by kernel_rfl) ?_
    repeat (first | (refine S_load (t := 3) rfl rfl rfl rfl ?_; refine ⟨_, fun _ hS' => run_load_cell hS' _ _ rfl _ _ rfl _ _ (.inl (.head _)) _ Tryz.underlying3 rfl _ (Tk_at _ _), ?_⟩; simp only [Act.put, List.setIfInBounds_toArray, List.set_cons_succ, List.set_cons_zero]) | (refine S_load (t := 22) rfl rfl rfl rfl ?_; refine ⟨_, fun _ hS' => run_load_cell hS' _ _ rfl _ _ rfl _ _ (.inl (.head _)) _ Tryz.underlying22 rfl _ (Tk_list _ _), ?_⟩; simp only [Act.put, List.setIfInBounds_toArray, List.set_cons_succ, List.set_cons_zero]) | (refine S_run rfl rfl ?_; apply Exists.intro; refine ⟨fun _ => ?_, ?_⟩; (focus (go_simp; (try go_bits); exact rfl)); simp only [Act.put, List.setIfInBounds_toArray, List.set_cons_succ, List.set_cons_zero]))
    refine S_end0 ?_; clear hS; intro _ hS
    go_wp2_with (first | (refine L_load (t := 3) rfl rfl ?_; refine ⟨_, run_load_cell hS _ _ rfl _ _ rfl _ _ (.inl (.head _)) _ Tryz.underlying3 rfl _ (Tk_at _ _), ?_⟩) | (refine L_store (t := 3) hS rfl rfl ?_; refine ⟨_, _, Tk (.slice a len cap) (k + 1), _, _, (.head), run_store_cell hS _ _ _ rfl _ _ rfl _ rfl _ _ _ (.head) size3 rfl rfl ?_ ?_, ?_⟩; (focus (rw [Tk_size]; omega)); (focus (exact Tk_put _ _)); clear hS; intro _ hS) | (go_at_call 75; (with_reducible refine Gives.use (fold_any _ _ hz hn) hS ?_); clear hS; intro _ hS))
    go_ret
    exact ⟨rfl, _, hS, .head _⟩
/-- The list Lv in r reads as tv, from place to place. -/
def Tape (r : List (Nat × Obj)) (Lv : Value) (tv : Nat → Int) : Prop :=
  ∀ (k : Nat) (b : Nat) (n : Int), 1 ≤ n ∧ n ≤ 4611686018427387904 → k + 1 ≤ 1152921504606846976 → Given Tryz.prog 48 #[.pointer (some ⟨b, 0, none⟩), .int .i64 n] b r Lv k (k + 1) (.int .i64 (foldv (tv k) n))
theorem slc_tape {r : List (Nat × Obj)} {Lv : Value} (hs : Slc r Lv) : ∃ tv, Tape r Lv tv :=
  ⟨fun k => Classical.choose (tape_at r Lv k hs), fun k => Classical.choose_spec (tape_at r Lv k hs)⟩
theorem Given.more {P : Program} {f : FuncId} {args : Array Value} {b : Nat} {r r' : List (Nat × Obj)} {Lv : Value} {k k' : Nat} {v : Value} (h : Given P f args b r Lv k k' v) (hr : ∀ x ∈ r, x ∈ r') : Given P f args b r' Lv k k' v := fun w hb hr' => by
  refine (h w hb fun x hx => hr' x (hr x hx)).mono fun e w' ⟨he, l, hS, hm⟩ => ⟨he, l, ?_, hm⟩
  refine ⟨hS.os, hS.tape, hS.output, hS.size, hS.block, fun x hx => ?_, hS.own, hS.apart⟩
  obtain ⟨h1, h2⟩ := hr' x hx
  have hlt := (Array.getElem?_eq_some_iff.1 h1).1
  have hne : some b ≠ some x.1 := fun e => h2 (Option.some.inj e).symm
  exact ⟨hlt, hne, by rw [hS.block _ hlt hne]; exact h1⟩
set_option maxHeartbeats 1000000 in
theorem Tape.pick {r : List (Nat × Obj)} {Lv : Value} {tv : Nat → Int} (ht : Tape r Lv tv) (b g cap : Nat) (T : TypeId) (zs : List Int) (n : Nat) (hz : zs.length = n) (h0 : 1 ≤ n ∧ n ≤ 1000000) (k : Nat) (hk : k + 1 ≤ 1152921504606846976) :
    Given Tryz.prog 24 #[.pointer (some ⟨b, 0, none⟩), .slice (some ⟨g, 0, none⟩) n cap] b ((g, .cells (ints zs) T) :: r) Lv k (k + 1) (.int .i64 (zs.getD (foldv (tv k) ((n : Nat) : Int)).toNat 0)) := by
  have hn : 1 ≤ ((n : Nat) : Int) ∧ ((n : Nat) : Int) ≤ 4611686018427387904 := by omega
  have hn0 : (((n : Nat) : Int) == 0) = false := by simp; omega
  have hg := (ht k b _ hn hk).more (r' := (g, .cells (ints zs) T) :: r) fun x hx => .tail _ hx
  have hx := foldv_range (v := tv k) hn.1
  obtain ⟨x, hxe⟩ : ∃ x, x = foldv (tv k) ((n : Nat) : Int) := ⟨_, rfl⟩
  rw [← hxe] at hg hx ⊢
  clear hxe
  refine Given.of fun w hS => ?_
  have hm : (g, Obj.cells (ints zs) T) ∈ ((g, Obj.cells (ints zs) T) :: r) := .head _
  go_enter Tryz.func24, Tryz.ntmps24
  go_wp2_with (first | (go_at_call 48; (with_reducible refine (hg.use hS .head).mono ?_); clear hS; intro _ _ ⟨he, hS⟩; subst he) | (refine L_load (t := 3) rfl rfl ?_; refine ⟨_, run_load_cell hS _ _ rfl _ _ rfl _ _ (.inr hm) _ Tryz.underlying3 rfl _ (ints_at_int hz hx), ?_⟩))
  go_ret
  have hlt : x.toNat < zs.length := by omega
  refine ⟨?_, _, hS, .head _⟩
  rw [List.getD_eq_getElem?_getD, List.getElem?_eq_getElem hlt]
  rfl
end Go.Proofs.YtfdlgeomaballaaGreat
end
section
/- Opening an argument that is a list of ints. -/
namespace Go.Proofs.YtfdlgeomaballaaGreat
open Go.RowKit Go.ChangeShapes

theorem laidOut : laidOutB Tryz.prog = true := by kernel_rfl
theorem cells3 : Tryz.prog.cellsOf 3 = 1 := by kernel_rfl
theorem cell_heap {w : World} {b j : Nat} {v : Value} (h : w.cell? ⟨b, j, none⟩ = some v) : ∃ cs T fz, w.heap[b]? = some (.cells cs T fz) ∧ cs[j]? = some v := by
  unfold World.cell? at h
  split at h
  · rename_i cs T fz hb
    exact ⟨cs, T, fz, hb, by simpa using h⟩
  · cases h
theorem slc_open {H : Type} {enc : TypeId × Value → H} {W : World} {sp : Nat → Bool} {a0 : Option Addr} {len cap : Nat} {d : DataW H} {p : List MemPlace} (h0 : DataW.Trod enc Tryz.prog W 0 sp true 22 (.slice a0 len cap) d p) :
    ∃ r, (∀ x ∈ r, W.heap[x.1]? = some x.2) ∧ Slc r (.slice a0 len cap) := by
  obtain ⟨fuel, hf⟩ := h0
  rcases open_ints Tryz.underlying22 Tryz.underlying3 cells3 hf with ⟨hcs, hx⟩ | ⟨a, len', cap', zs, hcs, _, hl, hm, hz, hx, hcell, hwz⟩
  · simp [Value.cells] at hcs
    obtain ⟨rfl, rfl, rfl⟩ := hcs
    exact ⟨[], by simp, none, 0, 0, rfl, by omega, fun i hi => by omega⟩
  · simp [Value.cells] at hcs
    obtain ⟨rfl, rfl, rfl⟩ := hcs
    have hlz : len ≤ zs.length := by rw [hz]; split <;> omega
    by_cases h0 : len = 0
    · subst h0
      exact ⟨[], by simp, some a, 0, cap, rfl, by omega, fun i hi => by omega⟩
    obtain ⟨b, off, rfl, hc⟩ := ints_at hcell (by omega)
    obtain ⟨cs, T, fz, hb, hc0⟩ := cell_heap (hc 0 (by omega))
    refine ⟨[(b, .cells cs T fz)], ?_, some ⟨b, off, none⟩, len, cap, rfl, by simp only [maxLen] at hm; omega, fun i hi => ⟨b, off, cs, T, fz, zs.getD i 0, rfl, .head _, ?_, ?_⟩⟩
    · intro x hx
      obtain rfl := List.mem_singleton.1 hx
      exact hb
    · obtain ⟨cs', T', fz', hb', hc'⟩ := cell_heap (hc i (by omega))
      rw [hb] at hb'
      obtain ⟨rfl, _⟩ := Obj.cells.inj (Option.some.inj hb')
      exact hc'
    · have hi' : i < zs.length := by omega
      have : zs.getD i 0 = zs[i] := by simp [List.getD, hi']
      rw [this]
      exact bounds_i64 (hwz _ (List.getElem_mem hi'))
end Go.Proofs.YtfdlgeomaballaaGreat
end
section
/- The tape in a run by names: what a call of it leaves, and what a function over it gives. -/
namespace Go.Proofs.YtfdlgeomaballaaGreat.Sx
open Go.RowKit

/-- The ways through a function, ahead of any world. -/
theorem ways_of [Outer] {P : Program} (hP : Plain P) {cfg : Cfg} {f : FuncId} {args : List SW} {mem : Mem} {nx : Nat} {T : Tree Out} (ρ : List Value) (hT : treeOf P cfg f args mem nx ρ.length = T) (hu : argsUnder args mem ρ.length = true) (Q : List Value → Out → Prop) (h : T.den P Q ρ) :
    ∃ vs ret, Q (ρ ++ vs) ret ∧ ∀ (β : Nat → Nat) (inh : List Nat) (w : World), Mrel (env ρ) β inh w (fun i => find i mem) w →
      Calls P f (denT (env ρ) β args) w fun e w' => ∃ β', (∀ i, i < nx → β' i = β i) ∧ e = .returned (ret.val.den (env (ρ ++ vs)) β') ∧ Mrel (env (ρ ++ vs)) β' inh w (fun i => find i ret.mem) w' := by
  subst hT
  obtain ⟨vs, asm', ret, evs, hrun, hasm, hev, hv⟩ := build_sound (asm := []) (known := []) (fun x hx => by cases hx) (fun x hx => by cases hx) (fun e he => by cases he) h
  obtain ⟨r, e1, e2, h1, h2, rfl⟩ := R.bind_ok hrun
  cases h2
  simp only [argsUnder, Bool.and_eq_true] at hu
  refine ⟨vs, _, hv, fun β inh w hM => ?_⟩
  have hM' : Mrel (env (ρ ++ vs)) β inh w (fun i => find i mem) w := hM.under fun i m hi => MB.fits_under (env_append ρ vs) (find_under hu.2 hi)
  obtain ⟨fn, _, _, hc⟩ := execF_ok hP.names hasm hP.order _ f args mem nx ρ.length r e1 h1 (fun e he => hev e (by simp [he])) β inh w w hM'
  have ha : denT (env (ρ ++ vs)) β args = denT (env ρ) β args := by
    simp only [denT]
    congr 1
    refine List.map_congr_left fun x hx => SW.den_under (env_append ρ vs) (List.all_eq_true.1 hu.1 x hx)
  rw [ha] at hc
  refine hc.mono fun e w' ⟨β', hβ, he, hm⟩ => ⟨β', hβ, he, ?_⟩
  simp only [trim]
  split
  · exact hm.less fun i m hi => by
      rcases Nat.lt_or_ge i nx with hlt | hge
      · rw [← hi, find_keepM hlt]
      · rw [find_keepM_ge hge] at hi; cases hi
  · exact hm
theorem fits_cells {ρ : Nat → Value} {β : Nat → Nat} {T : TypeId} {ps : List Piece} {o : Obj} (h : MB.fits ρ β ⟨T, ps, none⟩ o) : o = .cells (densP ρ β ps).toArray T := by
  obtain ⟨rest, h1, h2⟩ := h
  have h2 : rest = [] := h2
  subst h2
  rw [h1, List.append_nil]
theorem fits_mk {ρ : Nat → Value} {β : Nat → Nat} {T : TypeId} {ps : List Piece} {cs : List Value} (h : densP ρ β ps = cs) : MB.fits ρ β ⟨T, ps, none⟩ (.cells cs.toArray T) := ⟨[], by rw [h, List.append_nil], rfl⟩
end Go.Proofs.YtfdlgeomaballaaGreat.Sx
namespace Go.Proofs.YtfdlgeomaballaaGreat
open Go.RowKit Go.Proofs.YtfdlgeomaballaaGreat.Sx

/-- A call that takes numbers off the tape, as an event. -/
theorem Given.turns [Outer] {f : FuncId} {xs : List SV} {i nx : Nat} {ps qs : List Piece} {res : SW} {ρ ρ' : Nat → Value} (args : Nat → Array Value) {v : Value} {k k' : Nat} {Lv : Value} (hg : ∀ b, Given Tryz.prog f (args b) b Outer.r Lv k k' v)
    (hp : ∀ β, densP ρ' β ps = [Lv, .int .i64 ((k : Nat) : Int)]) (hq : ∀ β, densP ρ' β qs = [Lv, .int .i64 ((k' : Nat) : Int)]) (ha : ∀ β, denV ρ β xs = args (β i)) (hr : ∀ β, res.den ρ' β = v) (β : Nat → Nat) :
    Turns Tryz.prog ρ' β nx f (denV ρ β xs) [(i, ⟨25, ps, none⟩)] [(i, ⟨25, qs, none⟩)] [] res := fun w hro hpre => by
  obtain ⟨o, ho, hf⟩ := hpre _ (.head _)
  rw [fits_cells hf, hp] at ho
  rw [ha]
  refine (hg (β i) w ho fun x hx => ⟨(hro x hx).1, fun e => (hro x hx).2 _ (.head _) e.symm⟩).mono fun e w' ⟨he, l, hS, hm⟩ => ⟨β, fun _ _ => rfl, by rw [hr]; exact he, ?_, fun x hx => ?_, ⟨fun x hx => absurd hx (by simp), fun x hx => absurd hx (by simp)⟩⟩
  · exact ⟨hS.os, hS.tape, hS.output, hS.size, fun k hk hn => hS.block k hk fun e => hn (by simp [Option.some.inj e])⟩
  · cases List.mem_singleton.1 hx
    exact ⟨_, (hS.own _ hm).2, fits_mk (hq β)⟩
/-- The same for a call that reads a list besides. -/
theorem Given.turns2 [Outer] {f : FuncId} {xs : List SV} {i j nx : Nat} {ps qs zps : List Piece} {T : TypeId} {res : SW} {ρ ρ' : Nat → Value} (args : Nat → Nat → Array Value) {v : Value} {k k' : Nat} {Lv : Value} (zs : List Value) (hij : i ≠ j)
    (hg : ∀ b g, Given Tryz.prog f (args b g) b ((g, .cells zs.toArray T) :: Outer.r) Lv k k' v)
    (hp : ∀ β, densP ρ' β ps = [Lv, .int .i64 ((k : Nat) : Int)]) (hq : ∀ β, densP ρ' β qs = [Lv, .int .i64 ((k' : Nat) : Int)]) (hz : ∀ β, densP ρ' β zps = zs) (ha : ∀ β, denV ρ β xs = args (β i) (β j)) (hr : ∀ β, res.den ρ' β = v) (β : Nat → Nat)
    (hinj : ∀ a ∈ [((i, ⟨25, ps, none⟩) : Nat × MB), (j, ⟨T, zps, none⟩)].map (·.1), ∀ c ∈ [((i, ⟨25, ps, none⟩) : Nat × MB), (j, ⟨T, zps, none⟩)].map (·.1), β a = β c → a = c) :
    Turns Tryz.prog ρ' β nx f (denV ρ β xs) [(i, ⟨25, ps, none⟩), (j, ⟨T, zps, none⟩)] [(i, ⟨25, qs, none⟩), (j, ⟨T, zps, none⟩)] [] res := fun w hro hpre => by
  obtain ⟨o, ho, hf⟩ := hpre _ (.head _)
  obtain ⟨o2, ho2, hf2⟩ := hpre _ (.tail _ (.head _))
  rw [fits_cells hf, hp] at ho
  rw [fits_cells hf2, hz] at ho2
  rw [ha]
  have hne : β j ≠ β i := fun e => hij (hinj i (by simp) j (by simp) e.symm)
  refine (hg (β i) (β j) w ho fun x hx => ?_).mono fun e w' ⟨he, l, hS, hm⟩ => ⟨β, fun _ _ => rfl, by rw [hr]; exact he, ?_, fun x hx => ?_, ⟨fun x hx => absurd hx (by simp), fun x hx => absurd hx (by simp)⟩⟩
  · rcases List.mem_cons.1 hx with rfl | hx
    · exact ⟨ho2, hne⟩
    · exact ⟨(hro x hx).1, fun e => (hro x hx).2 _ (.head _) e.symm⟩
  · exact ⟨hS.os, hS.tape, hS.output, hS.size, fun k hk hn => hS.block k hk fun e => hn (by simp [Option.some.inj e])⟩
  · rcases List.mem_cons.1 hx with rfl | hx
    · exact ⟨_, (hS.own _ hm).2, fits_mk (hq β)⟩
    · cases List.mem_singleton.1 hx
      exact ⟨_, (hS.ro _ (.head _)).2.2, fits_mk (hz β)⟩

/-- The memory of a function over the caller's tape. -/
def tapeM : Mem := [(0, some ⟨25, [.one (.v 0), .one (.int .i64 (.v 1))], none⟩)]
/-- What a function over the tape gives, ahead of any world: 'rest': its other arguments' variables. -/
theorem given_of [Outer] {cfg : Cfg} {f : FuncId} {args : List SW} {T : Tree Out} {Lv : Value} {k : Nat} {rest : List Value} (hL : fix Lv = Lv) (hT : treeOf Tryz.prog cfg f args tapeM 1 (Lv :: .int .i64 ((k : Nat) : Int) :: rest).length = T) (hu : argsUnder args tapeM (Lv :: .int .i64 ((k : Nat) : Int) :: rest).length = true)
    (p : Value → Nat → Prop) (h : T.den Tryz.prog (fun ρ' ret => ∃ v k', p v k' ∧ (∀ β, ret.val.den (env ρ') β = v) ∧ ∃ ps, find 0 ret.mem = some ⟨25, ps, none⟩ ∧ ∀ β, densP (env ρ') β ps = [Lv, .int .i64 ((k' : Nat) : Int)]) (Lv :: .int .i64 ((k : Nat) : Int) :: rest)) :
    ∃ v k', p v k' ∧ ∀ b, Given Tryz.prog f (denT (env (Lv :: .int .i64 ((k : Nat) : Int) :: rest)) (fun _ => b) args) b Outer.r Lv k k' v := by
  obtain ⟨vs, ret, ⟨v, k', hp, hv, ps, hf, hd⟩, hc⟩ := ways_of plain _ hT hu _ h
  refine ⟨v, k', hp, fun b w hb hr => ?_⟩
  have hM : Mrel (env (Lv :: .int .i64 ((k : Nat) : Int) :: rest)) (fun _ => b) [b] w (fun i => find i tapeM) w := by
    have hfind : ∀ i m, find i tapeM = some m → i = 0 ∧ m = ⟨25, [.one (.v 0), .one (.int .i64 (.v 1))], none⟩ := fun i m h => by
      simp only [tapeM, find] at h
      split at h
      · rename_i h0
        cases h; exact ⟨natBeq h0, rfl⟩
      · cases h
    refine ⟨rfl, rfl, rfl, Nat.le_refl _, fun _ _ _ => rfl, fun i m hm => ?_, fun i m hm => .inr (by simp), fun i j m m' hm hm' _ => ?_, fun x hx => ⟨(hr x hx).1, by simpa using (hr x hx).2⟩⟩
    · obtain ⟨rfl, rfl⟩ := hfind i m hm
      exact ⟨_, hb, fits_mk (by simp [densP, Piece.den, Cell.den, env, Tm.i, Tm.den, vInt, hL])⟩
    · rw [(hfind i m hm).1, (hfind j m' hm').1]
  refine (hc (fun _ => b) [b] w hM).mono fun e w' ⟨β', hβ, he, hm⟩ => ⟨by rw [he]; exact congrArg Ending.returned (hv β'), [(b, .cells (Tk Lv k') 25)], ?_, .head _⟩
  obtain ⟨o, ho, hfo⟩ := hm.cells 0 _ hf
  rw [fits_cells hfo, hd, hβ 0 (by omega)] at ho
  have hlt : b < w.heap.size := (Array.getElem?_eq_some_iff.1 hb).1
  refine ⟨hm.os, hm.tape, hm.output, hm.size, fun k hk hn => hm.old k hk (by simpa using fun e => hn (congrArg some e.symm)), fun x hx => ?_, fun x hx => ?_, by simp⟩
  · obtain ⟨h1, h2⟩ := hr x hx
    refine ⟨(Array.getElem?_eq_some_iff.1 h1).1, fun e => h2 (Option.some.inj e).symm, ?_⟩
    rw [hm.old _ (Array.getElem?_eq_some_iff.1 h1).1 (by simpa using h2)]; exact h1
  · cases List.mem_singleton.1 hx
    exact ⟨.inr rfl, ho⟩
end Go.Proofs.YtfdlgeomaballaaGreat
end
section
/- Ratios as fractions: what the operations give, where nothing overflows. -/
namespace Go.Proofs.YtfdlgeomaballaaGreat
open Go.RowKit Go.Proofs.YtfdlgeomaballaaGreat.Sx
set_option linter.unusedSimpArgs false
set_option linter.unusedVariables false

/-- The ratio of a and b is x / y, in lowest terms, of at most n bits. -/
structure Qf (n : Nat) (a b x y : Int) : Prop where
  pos : 0 < b
  co : Nat.gcd a.natAbs b.natAbs = 1
  ne : y ≠ 0
  eq : a * y = x * b
  la : a.natAbs < 2 ^ n
  lb : b.natAbs < 2 ^ n
variable {n m k : Nat} {a b c d x y z w : Int}
theorem Qf.fits (h : Qf n a b x y) (hn : n ≤ 480) : mkF a b = true := by
  unfold mkF
  rw [decide_eq_true (Nat.le_trans (bl_le h.la) hn), decide_eq_true (Nat.le_trans (bl_le h.lb) hn)]; rfl
theorem Qf.vld (h : Qf n a b x y) (hn : n ≤ 480) : Go.Proofs.YtfdlgeomaballaaGreat.vld (decide (a < 0)) a.natAbs (decide (b < 0)) b.natAbs = true := vldZ h.pos (h.fits hn) h.co
theorem Qf.lta (h : Qf n a b x y) (hn : n ≤ 480) : a.natAbs < pw 32 := short480 (Nat.le_trans (bl_le h.la) hn)
theorem Qf.ltb (h : Qf n a b x y) (hn : n ≤ 480) : b.natAbs < pw 32 := short480 (Nat.le_trans (bl_le h.lb) hn)
theorem q_make (x y : Int) (n : Nat) (hy : y ≠ 0) (hx : x.natAbs < 2 ^ n) (hyn : y.natAbs < 2 ^ n) (hn : n ≤ 480) : ∃ a b, mkZ x y = .tuple #[.agg (rvZ a b), .int .i64 0] ∧ Qf n a b x y := by
  have hg : 0 < Nat.gcd x.natAbs y.natAbs := Nat.gcd_pos_of_pos_right _ (by omega)
  have h1 : ((Nat.gcd x.natAbs y.natAbs : Nat) : Int) ∣ x := Int.dvd_natAbs.1 (Int.natCast_dvd_natCast.2 (Nat.gcd_dvd_left _ _))
  have h2 : ((Nat.gcd x.natAbs y.natAbs : Nat) : Int) ∣ y := Int.dvd_natAbs.1 (Int.natCast_dvd_natCast.2 (Nat.gcd_dvd_right _ _))
  have hp := mkN_den hy hg h2
  have ha := mkN_abs (y := y) h1
  have hb := mkN_abs (y := y) h2
  have hco := Nat.coprime_div_gcd_div_gcd hg
  have hla : x.natAbs / Nat.gcd x.natAbs y.natAbs < 2 ^ n := Nat.lt_of_le_of_lt (Nat.div_le_self _ _) hx
  have hlb : y.natAbs / Nat.gcd x.natAbs y.natAbs < 2 ^ n := Nat.lt_of_le_of_lt (Nat.div_le_self _ _) hyn
  have heq : mkN x y (Nat.gcd x.natAbs y.natAbs) * y = x * mkN y y (Nat.gcd x.natAbs y.natAbs) := by
    have e1 := Int.mul_ediv_cancel' h1
    have e2 := Int.mul_ediv_cancel' h2
    unfold mkN
    generalize ((Nat.gcd x.natAbs y.natAbs : Nat) : Int) = g at e1 e2 ⊢
    generalize x / g = p at e1 ⊢
    generalize y / g = q at e2 ⊢
    split <;> grind
  have hmk : mkZ x y = if mkF (mkN x y (Nat.gcd x.natAbs y.natAbs)) (mkN y y (Nat.gcd x.natAbs y.natAbs)) = true then .tuple #[.agg (rvZ (mkN x y (Nat.gcd x.natAbs y.natAbs)) (mkN y y (Nat.gcd x.natAbs y.natAbs))), .int .i64 0] else .tuple #[.agg (rvZ 0 0), .int .i64 10] := by
    unfold mkZ mkv; rw [if_neg hy]
  generalize mkN x y (Nat.gcd x.natAbs y.natAbs) = a at *
  generalize mkN y y (Nat.gcd x.natAbs y.natAbs) = b at *
  have hQ : Qf n a b x y := ⟨hp, by rw [ha, hb]; exact hco, hy, heq, by rw [ha]; exact hla, by rw [hb]; exact hlb⟩
  exact ⟨a, b, by rw [hmk, if_pos (hQ.fits hn)], hQ⟩
theorem Qf.to {x' y' : Int} (h : Qf n a b x y) (hy : y' ≠ 0) (he : x * y' = x' * y) : Qf n a b x' y' := by
  refine ⟨h.pos, h.co, hy, ?_, h.la, h.lb⟩
  have h1 := h.eq
  refine Int.eq_of_mul_eq_mul_right h.ne ?_
  grind
theorem Qf.up (h : Qf n a b x y) (hn : n ≤ m) : Qf m a b x y :=
  ⟨h.pos, h.co, h.ne, h.eq, Nat.lt_of_lt_of_le h.la (Nat.pow_le_pow_right (by omega) hn), Nat.lt_of_lt_of_le h.lb (Nat.pow_le_pow_right (by omega) hn)⟩
theorem abs_dvd (hb : 0 < b) (hd : 0 < d) (h1 : Nat.gcd a.natAbs b.natAbs = 1) (h : a * d = c * b) : b.natAbs ∣ d.natAbs := by
  have e : a.natAbs * d.natAbs = c.natAbs * b.natAbs := by rw [← Int.natAbs_mul, h, Int.natAbs_mul]
  have h2 : Nat.Coprime b.natAbs a.natAbs := by rw [Nat.coprime_comm]; exact h1
  exact h2.dvd_of_dvd_mul_left (by rw [e]; exact Nat.dvd_mul_left _ _)
theorem low_eq (hb : 0 < b) (hd : 0 < d) (h1 : Nat.gcd a.natAbs b.natAbs = 1) (h2 : Nat.gcd c.natAbs d.natAbs = 1) (h : a * d = c * b) : a = c ∧ b = d := by
  have e1 := abs_dvd hb hd h1 h
  have e2 := abs_dvd hd hb h2 h.symm
  have e3 := Nat.dvd_antisymm e1 e2
  have e4 : b = d := by omega
  subst e4
  exact ⟨Int.eq_of_mul_eq_mul_right (by omega) h, rfl⟩
/-- Equal fractions, and only they, are equal ratios. -/
theorem Qf.same (h1 : Qf n a b x y) (h2 : Qf m c d z w) : (a = c ∧ b = d) ↔ x * w = z * y := by
  have e1 := h1.eq
  have e2 := h2.eq
  have p1 := h1.pos
  have p2 := h2.pos
  constructor
  · rintro ⟨rfl, rfl⟩
    refine Int.eq_of_mul_eq_mul_right (show b ≠ 0 by omega) ?_
    grind
  · intro h
    refine low_eq p1 p2 h1.co h2.co ?_
    refine Int.eq_of_mul_eq_mul_right h1.ne (Int.eq_of_mul_eq_mul_right h2.ne ?_)
    grind
theorem mul_bits {p q : Int} (hp : p.natAbs < 2 ^ n) (hq : q.natAbs < 2 ^ m) : (p * q).natAbs < 2 ^ (n + m) := by
  rw [Int.natAbs_mul, Nat.pow_add]; exact Nat.mul_lt_mul'' hp hq
theorem add_bits {p q : Int} (hp : p.natAbs < 2 ^ n) (hq : q.natAbs < 2 ^ n) : (p + q).natAbs < 2 ^ (n + 1) := by
  rw [Nat.pow_succ]; omega
theorem more_bits {p : Int} (hp : p.natAbs < 2 ^ n) (h : n ≤ m) : p.natAbs < 2 ^ m := Nat.lt_of_lt_of_le hp (Nat.pow_le_pow_right (by omega) h)

theorem q_add (h1 : Qf n a b x y) (h2 : Qf m c d z w) (k : Nat) (hk : n + m + 1 = k) (hk2 : k ≤ 480) :
    ∃ e f, (Gives Tryz.prog 25 #[.agg (rvZ a b), .agg (rvZ c d)] (.tuple #[.agg (rvZ e f), .int .i64 0]) ∧ Gives Tryz.prog 26 #[.agg (rvZ a b), .agg (rvZ c d)] (.tuple #[.agg (rvZ e f), .int .i64 0])) ∧ Qf k e f (x * w + z * y) (y * w) := by
  have hg := add_rat (decide (a < 0)) (decide (b < 0)) (decide (c < 0)) (decide (d < 0)) a.natAbs b.natAbs c.natAbs d.natAbs (h1.lta (by omega)) (h1.ltb (by omega)) (h2.lta (by omega)) (h2.ltb (by omega))
  unfold addR at hg
  rw [h1.vld (by omega), h2.vld (by omega), if_pos (show (true && true) = true from rfl), vz_self, vz_self, vz_self, vz_self] at hg
  have p1 := h1.pos
  have p2 := h2.pos
  have hbd : b * d ≠ 0 := Int.ne_of_gt (Int.mul_pos p1 p2)
  obtain ⟨e, f, he, hq⟩ := q_make (a * d + c * b) (b * d) k hbd
    (by rw [← hk]; exact add_bits (mul_bits h1.la h2.lb) (by rw [Nat.add_comm n m]; exact mul_bits h2.la h1.lb))
    (more_bits (mul_bits h1.lb h2.lb) (by omega)) hk2
  rw [he] at hg
  refine ⟨e, f, hg, hq.to (Int.mul_ne_zero h1.ne h2.ne) ?_⟩
  have e1 := h1.eq
  have e2 := h2.eq
  grind
theorem q_sub (h1 : Qf n a b x y) (h2 : Qf m c d z w) (k : Nat) (hk : n + m + 1 = k) (hk2 : k ≤ 480) :
    ∃ e f, (Gives Tryz.prog 27 #[.agg (rvZ a b), .agg (rvZ c d)] (.tuple #[.agg (rvZ e f), .int .i64 0]) ∧ Gives Tryz.prog 28 #[.agg (rvZ a b), .agg (rvZ c d)] (.tuple #[.agg (rvZ e f), .int .i64 0])) ∧ Qf k e f (x * w - z * y) (y * w) := by
  have hg := sub_rat (decide (a < 0)) (decide (b < 0)) (decide (c < 0)) (decide (d < 0)) a.natAbs b.natAbs c.natAbs d.natAbs (h1.lta (by omega)) (h1.ltb (by omega)) (h2.lta (by omega)) (h2.ltb (by omega))
  unfold subR at hg
  rw [h1.vld (by omega), h2.vld (by omega), if_pos (show (true && true) = true from rfl), vz_self, vz_self, vz_self, vz_self] at hg
  have p1 := h1.pos
  have p2 := h2.pos
  have hbd : b * d ≠ 0 := Int.ne_of_gt (Int.mul_pos p1 p2)
  obtain ⟨e, f, he, hq⟩ := q_make (a * d + -(c * b)) (b * d) k hbd
    (by rw [← hk]; exact add_bits (mul_bits h1.la h2.lb) (by rw [Nat.add_comm n m, Int.natAbs_neg]; exact mul_bits h2.la h1.lb))
    (more_bits (mul_bits h1.lb h2.lb) (by omega)) hk2
  rw [he] at hg
  refine ⟨e, f, hg, hq.to (Int.mul_ne_zero h1.ne h2.ne) ?_⟩
  have e1 := h1.eq
  have e2 := h2.eq
  grind
theorem q_mul (h1 : Qf n a b x y) (h2 : Qf m c d z w) (k : Nat) (hk : n + m = k) (hk2 : k ≤ 480) :
    ∃ e f, (Gives Tryz.prog 29 #[.agg (rvZ a b), .agg (rvZ c d)] (.tuple #[.agg (rvZ e f), .int .i64 0]) ∧ Gives Tryz.prog 30 #[.agg (rvZ a b), .agg (rvZ c d)] (.tuple #[.agg (rvZ e f), .int .i64 0])) ∧ Qf k e f (x * z) (y * w) := by
  have hg := mul_rat (decide (a < 0)) (decide (b < 0)) (decide (c < 0)) (decide (d < 0)) a.natAbs b.natAbs c.natAbs d.natAbs (h1.lta (by omega)) (h1.ltb (by omega)) (h2.lta (by omega)) (h2.ltb (by omega))
  unfold mulR at hg
  rw [h1.vld (by omega), h2.vld (by omega), if_pos (show (true && true) = true from rfl), vz_self, vz_self, vz_self, vz_self] at hg
  have p1 := h1.pos
  have p2 := h2.pos
  have hbd : b * d ≠ 0 := Int.ne_of_gt (Int.mul_pos p1 p2)
  obtain ⟨e, f, he, hq⟩ := q_make (a * c) (b * d) k hbd (by rw [← hk]; exact mul_bits h1.la h2.la) (by rw [← hk]; exact mul_bits h1.lb h2.lb) hk2
  rw [he] at hg
  refine ⟨e, f, hg, hq.to (Int.mul_ne_zero h1.ne h2.ne) ?_⟩
  have e1 := h1.eq
  have e2 := h2.eq
  grind
theorem Qf.zero (h : Qf n a b x y) (hx : x = 0) : a = 0 ∧ b = 1 := by
  have e := h.eq
  rw [hx, Int.zero_mul] at e
  have ha : a = 0 := (Int.mul_eq_zero.1 e).resolve_right h.ne
  have hc := h.co
  rw [ha] at hc
  have hp := h.pos
  simp at hc
  exact ⟨ha, by omega⟩
theorem Qf.nonzero (h : Qf n a b x y) (hx : x ≠ 0) : a ≠ 0 := fun ha => by
  have e := h.eq
  rw [ha, Int.zero_mul] at e
  rcases Int.mul_eq_zero.1 e.symm with h1 | h1
  · exact hx h1
  · have := h.pos; omega
theorem q_quo (h1 : Qf n a b x y) (h2 : Qf m c d z w) (hz : z ≠ 0) (k : Nat) (hk : n + m = k) (hk2 : k ≤ 480) :
    ∃ e f, (Gives Tryz.prog 31 #[.agg (rvZ a b), .agg (rvZ c d)] (.tuple #[.agg (rvZ e f), .int .i64 0]) ∧ Gives Tryz.prog 32 #[.agg (rvZ a b), .agg (rvZ c d)] (.tuple #[.agg (rvZ e f), .int .i64 0])) ∧ Qf k e f (x * w) (y * z) := by
  have hg := quo_rat (decide (a < 0)) (decide (b < 0)) (decide (c < 0)) (decide (d < 0)) a.natAbs b.natAbs c.natAbs d.natAbs (h1.lta (by omega)) (h1.ltb (by omega)) (h2.lta (by omega)) (h2.ltb (by omega))
  unfold quoR at hg
  rw [h1.vld (by omega), h2.vld (by omega), if_pos (show (true && true) = true from rfl), vz_self, vz_self, vz_self, vz_self] at hg
  have p1 := h1.pos
  have hbd : b * c ≠ 0 := Int.mul_ne_zero (by omega) (h2.nonzero hz)
  obtain ⟨e, f, he, hq⟩ := q_make (a * d) (b * c) k hbd (by rw [← hk]; exact mul_bits h1.la h2.lb) (by rw [← hk]; exact mul_bits h1.lb h2.la) hk2
  rw [he] at hg
  refine ⟨e, f, hg, hq.to (Int.mul_ne_zero h1.ne hz) ?_⟩
  have e1 := h1.eq
  have e2 := h2.eq
  grind
theorem q_quo_zero (h1 : Qf n a b x y) (h2 : Qf m c d z w) (hz : z = 0) (hn : n ≤ 480) (hm : m ≤ 480) :
    Gives Tryz.prog 31 #[.agg (rvZ a b), .agg (rvZ c d)] (.tuple #[.agg (rvZ 0 0), .int .i64 11]) := by
  have hg := (quo_rat (decide (a < 0)) (decide (b < 0)) (decide (c < 0)) (decide (d < 0)) a.natAbs b.natAbs c.natAbs d.natAbs (h1.lta hn) (h1.ltb hn) (h2.lta hm) (h2.ltb hm)).1
  unfold quoR at hg
  rw [h1.vld hn, h2.vld hm, if_pos (show (true && true) = true from rfl), vz_self, vz_self, vz_self, vz_self] at hg
  have e : mkZ (a * d) (b * c) = .tuple #[.agg (rvZ 0 0), .int .i64 11] := by
    unfold mkZ mkv
    exact if_pos (by rw [(h2.zero hz).1, Int.mul_zero])
  rw [e] at hg
  exact hg
theorem cmpZ_mul (p q : Int) (hk : 0 < x) : cmpZ (p * x) (q * x) = cmpZ p q := by
  rcases Int.lt_trichotomy p q with h | h | h
  · rw [cmpZ_lt h, cmpZ_lt (Int.mul_lt_mul_of_pos_right h hk)]
  · rw [cmpZ_eq h, cmpZ_eq (by rw [h])]
  · rw [cmpZ_gt h, cmpZ_gt (Int.mul_lt_mul_of_pos_right h hk)]
/-- Cmp, for fractions with denominators above 0. -/
theorem q_cmp (h1 : Qf n a b x y) (h2 : Qf m c d z w) (hy : 0 < y) (hw : 0 < w) (hn : n ≤ 480) (hm : m ≤ 480) :
    Gives Tryz.prog 33 #[.agg (rvZ a b), .agg (rvZ c d)] (.tuple #[.int .i64 (cmpZ (x * w) (z * y)), .int .i64 0]) := by
  have hg := (cmp_rat (decide (a < 0)) (decide (b < 0)) (decide (c < 0)) (decide (d < 0)) a.natAbs b.natAbs c.natAbs d.natAbs (h1.lta hn) (h1.ltb hn) (h2.lta hm) (h2.ltb hm)).1
  unfold cmpR at hg
  rw [h1.vld hn, h2.vld hm, if_pos (show (true && true) = true from rfl), vz_self, vz_self, vz_self, vz_self] at hg
  have e1 := h1.eq
  have e2 := h2.eq
  have p1 := h1.pos
  have p2 := h2.pos
  have e : cmpZ (a * d) (c * b) = cmpZ (x * w) (z * y) := by
    rw [← cmpZ_mul (x := y * w) _ _ (Int.mul_pos hy hw), ← cmpZ_mul (x := b * d) (x * w) _ (Int.mul_pos p1 p2)]
    congr 1 <;> grind
  rw [e] at hg
  exact hg
theorem sgn_mul (p : Int) (hk : 0 < x) : sgn (p * x) = sgn p := by
  have h := cmpZ_mul p 0 hk
  rw [Int.zero_mul] at h
  have e : ∀ z, sgn z = cmpZ z 0 := fun z => by unfold sgn cmpZ; rfl
  rw [e, e, h]
theorem q_sign (h1 : Qf n a b x y) (hy : 0 < y) (hn : n ≤ 480) : Gives Tryz.prog 12 #[.agg (rvZ a b)] (.tuple #[.int .i64 (sgn x), .int .i64 0]) := by
  have hg := sign_p (decide (a < 0)) (decide (b < 0)) a.natAbs b.natAbs (h1.lta hn) (h1.ltb hn)
  unfold signR at hg
  rw [h1.vld hn, if_pos (show true = true from rfl), vz_self] at hg
  have e1 := h1.eq
  have p1 := h1.pos
  rw [← sgn_mul a hy, e1, sgn_mul x p1] at hg
  exact hg

/-! ### What is made -/
theorem of_made (x y : Int) (n : Nat) (hx : -9223372036854775808 ≤ x ∧ x ≤ 9223372036854775807) (hy : -9223372036854775808 ≤ y ∧ y ≤ 9223372036854775807) (h0 : y ≠ 0) (h1 : x.natAbs < 2 ^ n) (h2 : y.natAbs < 2 ^ n) (hn : n ≤ 480) :
    ∃ a b, Gives Tryz.prog 22 #[.int .i64 x, .int .i64 y] (.agg (rvZ a b)) ∧ Qf n a b x y := by
  obtain ⟨a, b, he, hq⟩ := q_make x y n h0 h1 h2 hn
  have g := (of_rat x y hx hy).2
  rw [he] at g
  refine ⟨a, b, ?_, hq⟩
  have main : tmOf.den Tryz.prog (fun ρ' ret => ∀ β, ret.val.den (env ρ') β = .agg (rvZ a b)) [.int .i64 x, .int .i64 y] := by
    refine tree_leaf ?_
    refine ev_call [.bool (decide (a < 0)), .agg (mgk 32 (a : Int).natAbs), .bool (decide (b < 0)), .agg (mgk 32 (b : Int).natAbs), .int .i64 0] rfl rfl (pure_gives (g)) (fun β => by simp [BTm.den, Tm.i, Tm.s, Tm.den, env, vInt, vBool, vStr, exI, SW.den, SV.den, Cell.den, densP, Piece.den, denV, rowCells_mgk, iv_list, rv_list, ivZ, rvZ, mgl_agg]) (fun β => by simp [BTm.den, Tm.i, Tm.s, Tm.den, env, vInt, vBool, vStr, exI, SW.den, SV.den, Cell.den, densP, Piece.den, denV, rowCells_mgk, iv_list, rv_list, ivZ, rvZ, mgl_agg]) ?_
    refine ev_nil fun β => ?_
    simp [BTm.den, Tm.i, Tm.s, Tm.den, env, vInt, vBool, vStr, exI, SW.den, SV.den, Cell.den, densP, Piece.den, denV, rowCells_mgk, iv_list, rv_list, ivZ, rvZ, mgl_agg]
  have h := pure_of plain [.int .i64 x, .int .i64 y] tmOf_ok (by kernel_rfl) _ main
  refine gives_pure ?_
  simpa [intW, BTm.den, Tm.i, Tm.s, Tm.den, env, vInt, vBool, vStr, exI, SW.den, SV.den, Cell.den, densP, Piece.den, denV, denT] using h
end Go.Proofs.YtfdlgeomaballaaGreat
end
section
/- What is drawn, by number. -/
namespace Go.Proofs.YtfdlgeomaballaaGreat
open Go.RowKit Go.Proofs.YtfdlgeomaballaaGreat.Sx

theorem Tape.next1 {r : List (Nat × Obj)} {Lv : Value} {tv : Nat → Int} (ht : Tape r Lv tv) (k : Nat) (n : Int) (hn : 1 ≤ n ∧ n ≤ 4611686018427387904) (hk : k + 1 ≤ 1152921504606846976) :
    ∃ z : Int, (0 ≤ z ∧ z < n) ∧ ∀ b, Given Tryz.prog 48 #[.pointer (some ⟨b, 0, none⟩), .int .i64 n] b r Lv k (k + 1) (.int .i64 z) := ⟨_, foldv_range hn.1, fun b => ht k b n hn hk⟩
theorem Tape.pick1 {r : List (Nat × Obj)} {Lv : Value} {tv : Nat → Int} (ht : Tape r Lv tv) (zs : List Int) (n : Nat) (hz : zs.length = n) (h0 : 1 ≤ n ∧ n ≤ 1000000) (k : Nat) (hk : k + 1 ≤ 1152921504606846976) :
    ∃ z : Int, z ∈ zs ∧ ∀ b g cap T, Given Tryz.prog 24 #[.pointer (some ⟨b, 0, none⟩), .slice (some ⟨g, 0, none⟩) n cap] b ((g, .cells (ints zs) T) :: r) Lv k (k + 1) (.int .i64 z) :=
  ⟨_, ints_mem hz (foldv_range (by omega)), fun b g cap T => ht.pick b g cap T zs n hz h0 k hk⟩
end Go.Proofs.YtfdlgeomaballaaGreat
end
section
/- What is made of a tape: numbers of so many bits, and ratios. -/
namespace Go.Proofs.YtfdlgeomaballaaGreat
open Go.RowKit Go.Proofs.YtfdlgeomaballaaGreat.Sx
set_option linter.unusedSimpArgs false
set_option linter.unusedVariables false

/-- One limb as it is drawn. -/
def drawn (tv : Nat → Int) (k j : Nat) : Nat := if foldv (tv (k + 2 * j + 1)) 9 = 0 then 0 else if foldv (tv (k + 2 * j + 1)) 9 = 1 then 4294967295 else (foldv (tv (k + 2 * j)) 4294967296).toNat
def limbT (tv : Nat → Int) (k N j : Nat) : Nat := if N - 32 * j < 32 then drawn tv k j % 2 ^ (N - 32 * j) else drawn tv k j
def magT (tv : Nat → Int) (k N : Nat) : Nat → Nat
  | 0 => 0
  | j + 1 => magT tv k N j + limbT tv k N j * pw j
theorem drawn_lt (tv : Nat → Int) (k j : Nat) : drawn tv k j < 4294967296 := by
  unfold drawn
  have := foldv_range (v := tv (k + 2 * j)) (n := 4294967296) (by omega)
  split
  · omega
  · split <;> omega
theorem limbT_lt (tv : Nat → Int) (k N j : Nat) : limbT tv k N j < 4294967296 := by
  unfold limbT
  have := drawn_lt tv k j
  split
  · exact Nat.lt_of_le_of_lt (Nat.mod_le _ _) this
  · exact this
theorem magT_lt (tv : Nat → Int) (k N : Nat) : ∀ j, (j = 0 ∨ 32 * (j - 1) < N) → magT tv k N j < 2 ^ (min (32 * j) N)
  | 0, _ => Nat.pow_pos (by omega)
  | j + 1, h => by
    have h' : 32 * j < N := by rcases h with h | h <;> omega
    have ih := magT_lt tv k N j (by omega)
    rw [show min (32 * j) N = 32 * j by omega] at ih
    refine fill_bits h' ih (limbT_lt tv k N j) fun hl => ?_
    unfold limbT
    rw [if_pos hl]
    exact Nat.mod_lt _ (Nat.pow_pos (by omega))
theorem mask_ari (v l : Nat) (hv : v < 4294967296) (hl : l < 32) : ariI .and .u32 ((v : Nat) : Int) (ariI .sub .u32 (shfI .shl .u32 1 ((l : Nat) : Int)) 1) = ((v % 2 ^ l : Nat) : Int) := by
  have h := mask_and (z := ((v : Nat) : Int)) (v := v) (j := l) rfl hv hl
  have h1 : 2 ^ l ≤ 2 ^ 31 := Nat.pow_le_pow_right (by omega) (by omega)
  have h2 : 0 < 2 ^ l := Nat.pow_pos (by omega)
  have e1 : shfI .shl .u32 1 ((l : Nat) : Int) = ((2 ^ l : Nat) : Int) := by
    have := shl32_of 1 l (2 ^ l) (by omega) rfl
    rw [Nat.one_mul, Nat.mod_eq_of_lt (by omega)] at this
    exact this
  have e2 : ariI .sub .u32 (shfI .shl .u32 1 ((l : Nat) : Int)) 1 = ((2 ^ l - 1) % 4294967296 : Int) := by
    rw [e1]
    show IntKind.u32.wrap (((2 ^ l : Nat) : Int) - 1) = _
    rw [IntKind.wrap_u32]
    have : ((2 : Int) ^ l) = ((2 ^ l : Nat) : Int) := by simp
    rw [this]
  rw [e2]
  exact h
set_option maxHeartbeats 8000000 in
/-- The loop of make.Int: from place k on, N bits. -/
theorem mint_loop [Outer] (Lv : Value) (hL : fix Lv = Lv) (tv : Nat → Int) (ht : Tape Outer.r Lv tv) (k0 k1 k N : Nat) (x3 B p P1 NI : Int) (hk : k + 64 ≤ 1152921504606846976) (hN1 : (if B < p then B else p) = P1) (hN2 : (if 1024 < P1 then 1024 else P1) = NI) (hNI : NI = ((N : Nat) : Int)) (hN : N ≤ 1024) :
    Ev.holds Tryz.prog (env [Lv, .int .i64 (k0 : Nat), .int .i64 B, .int .i64 x3, .int .i64 (k1 : Nat), .int .i64 p, .int .i64 (k : Nat), .int .i64 ((N + 31) / 32 : Nat), Lv, .int .i64 (k + 2 * ((N + 31) / 32) : Nat), .bool false, .agg (mgk 32 (magT tv k N ((N + 31) / 32)))])
      (.loop 19 0 mintS19_0 mintH19_0 (.exit 0) .none 5) := by
  obtain ⟨J, hJ⟩ : ∃ J, J = (N + 31) / 32 := ⟨_, rfl⟩
  rw [← hJ]
  refine loop_holds plain (m := 5) (x := .exit 0) (alt := none) [Lv, .int .i64 (k0 : Nat), .int .i64 B, .int .i64 x3, .int .i64 (k1 : Nat), .int .i64 p, .int .i64 (k : Nat)] [.int .i64 (J : Nat), Lv, .int .i64 (k + 2 * J : Nat), .bool false, .agg (mgk 32 (magT tv k N J))] tmInt0_ok tmInt0_fine
    (fun vs => ∃ j : Nat, j ≤ J ∧ vs = [.int .i64 (j : Nat), Lv, .int .i64 (k + 2 * j : Nat), .bool false, .agg (mgk 32 (magT tv k N j))])
    (fun vs => 32 - (vInt (vs.getD 0 undef)).toNat) tmInt0_diff ?_ ?_
  · refine ⟨[.int .i64 (0 : Nat), Lv, .int .i64 (k + 2 * 0 : Nat), .bool false, .agg (mgk 32 (magT tv k N 0))], rfl, ⟨0, by omega, rfl⟩, ?_⟩
    have hz : rowCells (.agg (mgk 32 (magT tv k N 0))) 32 = List.replicate 32 (.int .u32 0) := by rw [rowCells_mgk, magT, mgl_zero]
    simp [tmInt0_d, BTm.den, Tm.i, Tm.s, Tm.den, env, vInt, vBool, vStr, exI, SW.den, SV.den, Cell.den, densP, Piece.den, denV, denT, hz, hL]
  · rintro vs hl ⟨j, hj, rfl⟩
    clear hl
    refine tree_ite ?_
    refine ev_fits (32 * (j : Int)) (by simp [BTm.den, Tm.i, Tm.s, Tm.den, env, vInt, vBool, vStr, exI]) (rng_i64 _ (by omega)) ?_
    refine ev_nil ⟨fun hlt => tree_ite ?_, fun hlt => tree_leaf (ev_nil ?_)⟩
    · have hlt : 32 * (j : Int) < NI := by simpa [BTm.den, Tm.i, Tm.s, Tm.den, env, vInt, vBool, vStr, exI, hN1, hN2] using hlt
      have hj32 : j < 32 := by omega
      have hjJ : j + 1 ≤ J := by omega
      have hg1 := fun b => ht (k + 2 * j) b 4294967296 (by omega) (by omega)
      have hg2 := fun b => ht (k + 2 * j + 1) b 9 (by omega) (by omega)
      have hr1 := foldv_range (v := tv (k + 2 * j)) (n := 4294967296) (by omega)
      have hlT : limbT tv k N j = if N - 32 * j < 32 then drawn tv k j % 2 ^ (N - 32 * j) else drawn tv k j := rfl
      have hdr : drawn tv k j = if foldv (tv (k + 2 * j + 1)) 9 = 0 then 0 else if foldv (tv (k + 2 * j + 1)) 9 = 1 then 4294967295 else (foldv (tv (k + 2 * j)) 4294967296).toNat := rfl
      have hdl := drawn_lt tv k j
      have hml : magT tv k N j < pw j := by
        have := magT_lt tv k N j (by omega)
        rw [show min (32 * j) N = 32 * j by omega] at this
        rw [pw_bits]; exact this
      have hms : magT tv k N (j + 1) = put (magT tv k N j) j (limbT tv k N j) := by
        rw [put_low _ hml]; rfl
      have hll := limbT_lt tv k N j
      obtain ⟨z1, hz1⟩ : ∃ z, z = foldv (tv (k + 2 * j)) 4294967296 := ⟨_, rfl⟩
      obtain ⟨z2, hz2⟩ : ∃ z, z = foldv (tv (k + 2 * j + 1)) 9 := ⟨_, rfl⟩
      obtain ⟨d, hd⟩ : ∃ z, z = drawn tv k j := ⟨_, rfl⟩
      obtain ⟨v, hv⟩ : ∃ z, z = limbT tv k N j := ⟨_, rfl⟩
      obtain ⟨M, hM⟩ : ∃ z, z = magT tv k N j := ⟨_, rfl⟩
      rw [← hz1] at hg1 hr1 hdr
      rw [← hz2] at hg2 hdr
      rw [← hd] at hdr hlT hdl
      rw [← hv] at hlT hms hll
      rw [← hM] at hms
      rw [← hM]
      clear hz1 hz2 hd hv hM hml
      have hput : mgl 32 (put M j v) = (mgl 32 M).take j ++ [.int .u32 (v : Nat)] ++ (mgl 32 M).drop (j + 1) := mgl_put (by omega) rfl hll
      have hc1 : IntKind.u32.wrap z1 = z1 := by rw [IntKind.wrap_u32]; omega
      refine ev_turn [.int .i64 (z1), .int .i64 (((k + 2 * j + 1 : Nat) : Int))] rfl rfl (fun β _ => Given.turns (fun b => #[.pointer (some ⟨b, 0, none⟩), .int .i64 (4294967296)]) (hg1) (fun β => by simp [BTm.den, Tm.i, Tm.s, Tm.den, env, vInt, vBool, vStr, exI, SW.den, SV.den, Cell.den, densP, Piece.den, denV, hL]) (fun β => by simp [BTm.den, Tm.i, Tm.s, Tm.den, env, vInt, vBool, vStr, exI, SW.den, SV.den, Cell.den, densP, Piece.den, denV, hL]) (fun β => by simp [BTm.den, Tm.i, Tm.s, Tm.den, env, vInt, vBool, vStr, exI, SW.den, SV.den, Cell.den, densP, Piece.den, denV, hL]) (fun β => by simp [BTm.den, Tm.i, Tm.s, Tm.den, env, vInt, vBool, vStr, exI, SW.den, SV.den, Cell.den, densP, Piece.den, denV, hL]) β) ?_
      refine ev_turn [.int .i64 (z2), .int .i64 (((k + 2 * j + 1 + 1 : Nat) : Int))] rfl rfl (fun β _ => Given.turns (fun b => #[.pointer (some ⟨b, 0, none⟩), .int .i64 (9)]) (hg2) (fun β => by simp [BTm.den, Tm.i, Tm.s, Tm.den, env, vInt, vBool, vStr, exI, SW.den, SV.den, Cell.den, densP, Piece.den, denV, hL]) (fun β => by simp [BTm.den, Tm.i, Tm.s, Tm.den, env, vInt, vBool, vStr, exI, SW.den, SV.den, Cell.den, densP, Piece.den, denV, hL]) (fun β => by simp [BTm.den, Tm.i, Tm.s, Tm.den, env, vInt, vBool, vStr, exI, SW.den, SV.den, Cell.den, densP, Piece.den, denV, hL]) (fun β => by simp [BTm.den, Tm.i, Tm.s, Tm.den, env, vInt, vBool, vStr, exI, SW.den, SV.den, Cell.den, densP, Piece.den, denV, hL]) β) ?_
      have fin : ∀ (ρ' : List Value) (y1 y2 : SW × SW) (y3 : SW × SW), (∀ β, y1.1.den (env ρ') β = .int .i64 ((j + 1 : Nat) : Int)) → True := fun _ _ _ _ _ => trivial
      have hj1 : ((j : Int) + 1) = ((j + 1 : Nat) : Int) := by push_cast; rfl
      have hk1 : k + 2 * j + 1 + 1 = k + 2 * (j + 1) := by omega
      refine ev_nil ⟨fun h => tree_ite ?_, fun h => tree_ite (ev_nil ⟨fun h' => tree_ite ?_, fun h' => tree_ite ?_⟩)⟩
      · have h : z2 = 0 := by simpa [BTm.den, Tm.i, Tm.s, Tm.den, env, vInt, vBool, vStr, exI] using h
        rw [if_pos h] at hdr
        refine ev_fits (32 * (j : Int)) (by simp [BTm.den, Tm.i, Tm.s, Tm.den, env, vInt, vBool, vStr, exI]) (rng_i64 _ (by omega)) ?_
        refine ev_fits (NI - 32 * (j : Int)) (by simp [BTm.den, Tm.i, Tm.s, Tm.den, env, vInt, vBool, vStr, exI, hN1, hN2]) (rng_i64 _ (by omega)) ?_
        refine ev_nil ⟨fun hs => tree_leaf ?_, fun hs => tree_leaf ?_⟩
        · have hs : NI - 32 * (j : Int) < 32 := by simpa [BTm.den, Tm.i, Tm.s, Tm.den, env, vInt, vBool, vStr, exI, hN1, hN2] using hs
          have hsub : NI - 32 * (j : Int) = ((N - 32 * j : Nat) : Int) := by omega
          have hmk := mask_ari d (N - 32 * j) hdl (by omega)
          rw [if_pos (by omega)] at hlT
          rw [← hlT, hdr, show ((0 : Nat) : Int) = 0 from rfl] at hmk
          refine ev_fits ((N - 32 * j : Nat) : Int) (by simp [BTm.den, Tm.i, Tm.s, Tm.den, env, vInt, vBool, vStr, exI, hN1, hN2, hsub]) (rng_u64 _ (by omega)) ?_
          refine ev_need (by simp [BTm.den, Tm.i, Tm.s, Tm.den, env, vInt, vBool, vStr, exI, hN1, hN2, hsub]) ?_
          refine ev_need (by simp [BTm.den, Tm.i, Tm.s, Tm.den, env, vInt, vBool, vStr, exI]) ?_
          refine ev_need (by simp [BTm.den, Tm.i, Tm.s, Tm.den, env, vInt, vBool, vStr, exI] <;> omega) ?_
          refine ev_put [.agg (mgk 32 (put M j v))] rfl rfl (l := mgl 32 M) (l' := mgl 32 (put M j v)) (m := [.int .u32 (v : Nat)]) (k := j) (by simp [BTm.den, Tm.i, Tm.s, Tm.den, env, vInt, vBool, vStr, exI] <;> omega) (fun β => rowCells_mgk 32 _) (fun β => rowCells_mgk 32 _) (fun β => ?_) hput (by rw [mgl_length]; simp; omega) ?_
          · simp only [BTm.den, Tm.i, Tm.s, Tm.den, env, vInt, vBool, vStr, exI, SW.den, SV.den, Cell.den, densP, Piece.den, denV, denT, hN1, hN2, hsub, List.getD_cons_succ, List.getD_cons_zero, List.getElem?_cons_succ, List.getElem?_cons_zero, Option.getD_some]
            simp [hN1, hN2, hsub, hc1, hmk]
          refine ev_fits ((j + 1 : Nat) : Int) (by simp [BTm.den, Tm.i, Tm.s, Tm.den, env, vInt, vBool, vStr, exI]) (rng_i64 _ (by omega)) ?_
          refine ev_nil ⟨[.int .i64 (j + 1 : Nat), Lv, .int .i64 (k + 2 * (j + 1) : Nat), .bool false, .agg (mgk 32 (magT tv k N (j + 1)))], rfl, ⟨j + 1, hjJ, rfl⟩, by simp [vInt]; omega, ?_⟩
          rw [hms]
          simp [BTm.den, Tm.i, Tm.s, Tm.den, env, vInt, vBool, vStr, exI, SW.den, SV.den, Cell.den, densP, Piece.den, denV, denT, rowCells_mgk, hL] <;> omega
        · have hs : ¬ NI - 32 * (j : Int) < 32 := by simpa [BTm.den, Tm.i, Tm.s, Tm.den, env, vInt, vBool, vStr, exI, hN1, hN2] using hs
          rw [if_neg (by omega)] at hlT
          refine ev_need (by simp [BTm.den, Tm.i, Tm.s, Tm.den, env, vInt, vBool, vStr, exI]) ?_
          refine ev_need (by simp [BTm.den, Tm.i, Tm.s, Tm.den, env, vInt, vBool, vStr, exI] <;> omega) ?_
          refine ev_put [.agg (mgk 32 (put M j v))] rfl rfl (l := mgl 32 M) (l' := mgl 32 (put M j v)) (m := [.int .u32 (v : Nat)]) (k := j) (by simp [BTm.den, Tm.i, Tm.s, Tm.den, env, vInt, vBool, vStr, exI] <;> omega) (fun β => rowCells_mgk 32 _) (fun β => rowCells_mgk 32 _) (fun β => ?_) hput (by rw [mgl_length]; simp; omega) ?_
          · simp [BTm.den, Tm.i, Tm.s, Tm.den, env, vInt, vBool, vStr, exI, SW.den, SV.den, Cell.den, densP, Piece.den, denV, denT, hc1, hlT, hdr] 
          refine ev_fits ((j + 1 : Nat) : Int) (by simp [BTm.den, Tm.i, Tm.s, Tm.den, env, vInt, vBool, vStr, exI]) (rng_i64 _ (by omega)) ?_
          refine ev_nil ⟨[.int .i64 (j + 1 : Nat), Lv, .int .i64 (k + 2 * (j + 1) : Nat), .bool false, .agg (mgk 32 (magT tv k N (j + 1)))], rfl, ⟨j + 1, hjJ, rfl⟩, by simp [vInt]; omega, ?_⟩
          rw [hms]
          simp [BTm.den, Tm.i, Tm.s, Tm.den, env, vInt, vBool, vStr, exI, SW.den, SV.den, Cell.den, densP, Piece.den, denV, denT, rowCells_mgk, hL] <;> omega
      · have h : z2 ≠ 0 := by simpa [BTm.den, Tm.i, Tm.s, Tm.den, env, vInt, vBool, vStr, exI] using h
        have h' : z2 = 1 := by simpa [BTm.den, Tm.i, Tm.s, Tm.den, env, vInt, vBool, vStr, exI] using h'
        rw [if_neg h, if_pos h'] at hdr
        refine ev_fits (32 * (j : Int)) (by simp [BTm.den, Tm.i, Tm.s, Tm.den, env, vInt, vBool, vStr, exI]) (rng_i64 _ (by omega)) ?_
        refine ev_fits (NI - 32 * (j : Int)) (by simp [BTm.den, Tm.i, Tm.s, Tm.den, env, vInt, vBool, vStr, exI, hN1, hN2]) (rng_i64 _ (by omega)) ?_
        refine ev_nil ⟨fun hs => tree_leaf ?_, fun hs => tree_leaf ?_⟩
        · have hs : NI - 32 * (j : Int) < 32 := by simpa [BTm.den, Tm.i, Tm.s, Tm.den, env, vInt, vBool, vStr, exI, hN1, hN2] using hs
          have hsub : NI - 32 * (j : Int) = ((N - 32 * j : Nat) : Int) := by omega
          have hmk := mask_ari d (N - 32 * j) hdl (by omega)
          rw [if_pos (by omega)] at hlT
          rw [← hlT, hdr, show ((4294967295 : Nat) : Int) = 4294967295 from rfl] at hmk
          refine ev_fits ((N - 32 * j : Nat) : Int) (by simp [BTm.den, Tm.i, Tm.s, Tm.den, env, vInt, vBool, vStr, exI, hN1, hN2, hsub]) (rng_u64 _ (by omega)) ?_
          refine ev_need (by simp [BTm.den, Tm.i, Tm.s, Tm.den, env, vInt, vBool, vStr, exI, hN1, hN2, hsub]) ?_
          refine ev_need (by simp [BTm.den, Tm.i, Tm.s, Tm.den, env, vInt, vBool, vStr, exI]) ?_
          refine ev_need (by simp [BTm.den, Tm.i, Tm.s, Tm.den, env, vInt, vBool, vStr, exI] <;> omega) ?_
          refine ev_put [.agg (mgk 32 (put M j v))] rfl rfl (l := mgl 32 M) (l' := mgl 32 (put M j v)) (m := [.int .u32 (v : Nat)]) (k := j) (by simp [BTm.den, Tm.i, Tm.s, Tm.den, env, vInt, vBool, vStr, exI] <;> omega) (fun β => rowCells_mgk 32 _) (fun β => rowCells_mgk 32 _) (fun β => ?_) hput (by rw [mgl_length]; simp; omega) ?_
          · simp only [BTm.den, Tm.i, Tm.s, Tm.den, env, vInt, vBool, vStr, exI, SW.den, SV.den, Cell.den, densP, Piece.den, denV, denT, hN1, hN2, hsub, List.getD_cons_succ, List.getD_cons_zero, List.getElem?_cons_succ, List.getElem?_cons_zero, Option.getD_some]
            simp [hN1, hN2, hsub, hc1, hmk]
          refine ev_fits ((j + 1 : Nat) : Int) (by simp [BTm.den, Tm.i, Tm.s, Tm.den, env, vInt, vBool, vStr, exI]) (rng_i64 _ (by omega)) ?_
          refine ev_nil ⟨[.int .i64 (j + 1 : Nat), Lv, .int .i64 (k + 2 * (j + 1) : Nat), .bool false, .agg (mgk 32 (magT tv k N (j + 1)))], rfl, ⟨j + 1, hjJ, rfl⟩, by simp [vInt]; omega, ?_⟩
          rw [hms]
          simp [BTm.den, Tm.i, Tm.s, Tm.den, env, vInt, vBool, vStr, exI, SW.den, SV.den, Cell.den, densP, Piece.den, denV, denT, rowCells_mgk, hL] <;> omega
        · have hs : ¬ NI - 32 * (j : Int) < 32 := by simpa [BTm.den, Tm.i, Tm.s, Tm.den, env, vInt, vBool, vStr, exI, hN1, hN2] using hs
          rw [if_neg (by omega)] at hlT
          refine ev_need (by simp [BTm.den, Tm.i, Tm.s, Tm.den, env, vInt, vBool, vStr, exI]) ?_
          refine ev_need (by simp [BTm.den, Tm.i, Tm.s, Tm.den, env, vInt, vBool, vStr, exI] <;> omega) ?_
          refine ev_put [.agg (mgk 32 (put M j v))] rfl rfl (l := mgl 32 M) (l' := mgl 32 (put M j v)) (m := [.int .u32 (v : Nat)]) (k := j) (by simp [BTm.den, Tm.i, Tm.s, Tm.den, env, vInt, vBool, vStr, exI] <;> omega) (fun β => rowCells_mgk 32 _) (fun β => rowCells_mgk 32 _) (fun β => ?_) hput (by rw [mgl_length]; simp; omega) ?_
          · simp [BTm.den, Tm.i, Tm.s, Tm.den, env, vInt, vBool, vStr, exI, SW.den, SV.den, Cell.den, densP, Piece.den, denV, denT, hc1, hlT, hdr] 
          refine ev_fits ((j + 1 : Nat) : Int) (by simp [BTm.den, Tm.i, Tm.s, Tm.den, env, vInt, vBool, vStr, exI]) (rng_i64 _ (by omega)) ?_
          refine ev_nil ⟨[.int .i64 (j + 1 : Nat), Lv, .int .i64 (k + 2 * (j + 1) : Nat), .bool false, .agg (mgk 32 (magT tv k N (j + 1)))], rfl, ⟨j + 1, hjJ, rfl⟩, by simp [vInt]; omega, ?_⟩
          rw [hms]
          simp [BTm.den, Tm.i, Tm.s, Tm.den, env, vInt, vBool, vStr, exI, SW.den, SV.den, Cell.den, densP, Piece.den, denV, denT, rowCells_mgk, hL] <;> omega
      · have h : z2 ≠ 0 := by simpa [BTm.den, Tm.i, Tm.s, Tm.den, env, vInt, vBool, vStr, exI] using h
        have h' : z2 ≠ 1 := by simpa [BTm.den, Tm.i, Tm.s, Tm.den, env, vInt, vBool, vStr, exI] using h'
        rw [if_neg h, if_neg h'] at hdr
        refine ev_fits (32 * (j : Int)) (by simp [BTm.den, Tm.i, Tm.s, Tm.den, env, vInt, vBool, vStr, exI]) (rng_i64 _ (by omega)) ?_
        refine ev_fits (NI - 32 * (j : Int)) (by simp [BTm.den, Tm.i, Tm.s, Tm.den, env, vInt, vBool, vStr, exI, hN1, hN2]) (rng_i64 _ (by omega)) ?_
        refine ev_nil ⟨fun hs => tree_leaf ?_, fun hs => tree_leaf ?_⟩
        · have hs : NI - 32 * (j : Int) < 32 := by simpa [BTm.den, Tm.i, Tm.s, Tm.den, env, vInt, vBool, vStr, exI, hN1, hN2] using hs
          have hsub : NI - 32 * (j : Int) = ((N - 32 * j : Nat) : Int) := by omega
          have hmk := mask_ari d (N - 32 * j) hdl (by omega)
          rw [if_pos (by omega)] at hlT
          rw [← hlT, hdr, show ((z1.toNat : Nat) : Int) = z1 by omega] at hmk
          refine ev_fits ((N - 32 * j : Nat) : Int) (by simp [BTm.den, Tm.i, Tm.s, Tm.den, env, vInt, vBool, vStr, exI, hN1, hN2, hsub]) (rng_u64 _ (by omega)) ?_
          refine ev_need (by simp [BTm.den, Tm.i, Tm.s, Tm.den, env, vInt, vBool, vStr, exI, hN1, hN2, hsub]) ?_
          refine ev_need (by simp [BTm.den, Tm.i, Tm.s, Tm.den, env, vInt, vBool, vStr, exI]) ?_
          refine ev_need (by simp [BTm.den, Tm.i, Tm.s, Tm.den, env, vInt, vBool, vStr, exI] <;> omega) ?_
          refine ev_put [.agg (mgk 32 (put M j v))] rfl rfl (l := mgl 32 M) (l' := mgl 32 (put M j v)) (m := [.int .u32 (v : Nat)]) (k := j) (by simp [BTm.den, Tm.i, Tm.s, Tm.den, env, vInt, vBool, vStr, exI] <;> omega) (fun β => rowCells_mgk 32 _) (fun β => rowCells_mgk 32 _) (fun β => ?_) hput (by rw [mgl_length]; simp; omega) ?_
          · simp only [BTm.den, Tm.i, Tm.s, Tm.den, env, vInt, vBool, vStr, exI, SW.den, SV.den, Cell.den, densP, Piece.den, denV, denT, hN1, hN2, hsub, List.getD_cons_succ, List.getD_cons_zero, List.getElem?_cons_succ, List.getElem?_cons_zero, Option.getD_some]
            simp [hN1, hN2, hsub, hc1, hmk]
          refine ev_fits ((j + 1 : Nat) : Int) (by simp [BTm.den, Tm.i, Tm.s, Tm.den, env, vInt, vBool, vStr, exI]) (rng_i64 _ (by omega)) ?_
          refine ev_nil ⟨[.int .i64 (j + 1 : Nat), Lv, .int .i64 (k + 2 * (j + 1) : Nat), .bool false, .agg (mgk 32 (magT tv k N (j + 1)))], rfl, ⟨j + 1, hjJ, rfl⟩, by simp [vInt]; omega, ?_⟩
          rw [hms]
          simp [BTm.den, Tm.i, Tm.s, Tm.den, env, vInt, vBool, vStr, exI, SW.den, SV.den, Cell.den, densP, Piece.den, denV, denT, rowCells_mgk, hL] <;> omega
        · have hs : ¬ NI - 32 * (j : Int) < 32 := by simpa [BTm.den, Tm.i, Tm.s, Tm.den, env, vInt, vBool, vStr, exI, hN1, hN2] using hs
          rw [if_neg (by omega)] at hlT
          refine ev_need (by simp [BTm.den, Tm.i, Tm.s, Tm.den, env, vInt, vBool, vStr, exI]) ?_
          refine ev_need (by simp [BTm.den, Tm.i, Tm.s, Tm.den, env, vInt, vBool, vStr, exI] <;> omega) ?_
          refine ev_put [.agg (mgk 32 (put M j v))] rfl rfl (l := mgl 32 M) (l' := mgl 32 (put M j v)) (m := [.int .u32 (v : Nat)]) (k := j) (by simp [BTm.den, Tm.i, Tm.s, Tm.den, env, vInt, vBool, vStr, exI] <;> omega) (fun β => rowCells_mgk 32 _) (fun β => rowCells_mgk 32 _) (fun β => ?_) hput (by rw [mgl_length]; simp; omega) ?_
          · simp [BTm.den, Tm.i, Tm.s, Tm.den, env, vInt, vBool, vStr, exI, SW.den, SV.den, Cell.den, densP, Piece.den, denV, denT, hc1, hlT, hdr] <;> omega
          refine ev_fits ((j + 1 : Nat) : Int) (by simp [BTm.den, Tm.i, Tm.s, Tm.den, env, vInt, vBool, vStr, exI]) (rng_i64 _ (by omega)) ?_
          refine ev_nil ⟨[.int .i64 (j + 1 : Nat), Lv, .int .i64 (k + 2 * (j + 1) : Nat), .bool false, .agg (mgk 32 (magT tv k N (j + 1)))], rfl, ⟨j + 1, hjJ, rfl⟩, by simp [vInt]; omega, ?_⟩
          rw [hms]
          simp [BTm.den, Tm.i, Tm.s, Tm.den, env, vInt, vBool, vStr, exI, SW.den, SV.den, Cell.den, densP, Piece.den, denV, denT, rowCells_mgk, hL] <;> omega
    · have hlt : ¬ 32 * (j : Int) < NI := by simpa [BTm.den, Tm.i, Tm.s, Tm.den, env, vInt, vBool, vStr, exI, hN1, hN2] using hlt
      obtain rfl : j = J := by omega
      refine ⟨rfl, ?_⟩
      simp [BTm.den, Tm.i, Tm.s, Tm.den, env, vInt, vBool, vStr, exI, SW.den, SV.den, Cell.den, densP, Piece.den, denV, denT, rowCells_mgk]
/-- make.Int gives a number of at most so many bits. -/
theorem mint_given [Outer] (Lv : Value) (hL : fix Lv = Lv) (tv : Nat → Int) (ht : Tape Outer.r Lv tv) (bits : Nat) (hb : 1 ≤ bits ∧ bits ≤ 1024) (k0 : Nat) (hk : k0 + 67 ≤ 1152921504606846976) :
    ∃ (z : Int) (k' : Nat), z.natAbs < 2 ^ bits ∧ k0 ≤ k' ∧ k' ≤ k0 + 67 ∧ ∀ b, Given Tryz.prog 19 #[.pointer (some ⟨b, 0, none⟩), .int .i64 ((bits : Nat) : Int)] b Outer.r Lv k0 k' (.agg (ivZ z)) := by
  obtain ⟨x, hx, g1⟩ := ht.next1 k0 ((bits : Int) + 1) (by omega) (by omega)
  obtain ⟨B, hB⟩ : ∃ B : Int, B = ((bits : Nat) : Int) := ⟨_, rfl⟩
  obtain ⟨p, hp, g2⟩ := ht.pick1 [0, 1, 5, 20, 31, 32, 33, 64, 65, 100, 200, 400, B, B, x] 15 rfl (by omega) (k0 + 1) (by omega)
  rw [← hB] at g1 hx ⊢
  have hp0 : 0 ≤ p := by
    simp only [List.mem_cons, List.not_mem_nil, or_false] at hp
    omega
  obtain ⟨P1, hP1⟩ : ∃ P1, (if B < p then B else p) = P1 := ⟨_, rfl⟩
  obtain ⟨NI, hN2⟩ : ∃ NI, (if 1024 < P1 then 1024 else P1) = NI := ⟨_, rfl⟩
  have hPB : 0 ≤ P1 ∧ P1 ≤ B := by rw [← hP1]; split <;> omega
  have hNB : 0 ≤ NI ∧ NI ≤ B ∧ NI ≤ 1024 := by rw [← hN2]; split <;> omega
  obtain ⟨N, hN⟩ : ∃ N : Nat, NI = ((N : Nat) : Int) := ⟨NI.toNat, by omega⟩
  obtain ⟨J, hJ⟩ : ∃ J, J = (N + 31) / 32 := ⟨_, rfl⟩
  have hloop := mint_loop Lv hL tv ht k0 (k0 + 1) (k0 + 1 + 1) N x B p P1 NI (by omega) hP1 hN2 hN (by omega)
  rw [← hJ] at hloop
  have hlt := magT_lt tv (k0 + 1 + 1) N J (by omega)
  obtain ⟨M, hM⟩ : ∃ M, M = magT tv (k0 + 1 + 1) N J := ⟨_, rfl⟩
  rw [← hM] at hloop hlt
  have hMb : M < 2 ^ bits := Nat.lt_of_lt_of_le hlt (Nat.pow_le_pow_right (by omega) (by omega))
  have hMp : M < pw 32 := by
    obtain ⟨K, hK, e⟩ := pw32_bits
    rw [e]; exact Nat.lt_of_lt_of_le hMb (Nat.pow_le_pow_right (by omega) (by omega))
  obtain ⟨y, hy, g3⟩ := ht.next1 (k0 + 1 + 1 + 2 * J) 3 (by omega) (by omega)
  have hsg := rsign_any false M hMp
  have hsz := vsgn_zero false M
  obtain ⟨s, hs⟩ : ∃ s, s = sgn (vz false M) := ⟨_, rfl⟩
  rw [← hs] at hsg hsz
  have main := given_of (k := k0) (rest := [.int .i64 B]) hL tmInt_ok (by kernel_rfl)
    (fun v k' => ∃ z : Int, v = .agg (ivZ z) ∧ z.natAbs < 2 ^ bits ∧ k0 ≤ k' ∧ k' ≤ k0 + 67) (by
      refine tree_ite ?_
      refine ev_fits (B + 1) (by simp [BTm.den, Tm.i, Tm.s, Tm.den, env, vInt, vBool, vStr, exI]) (rng_i64 _ (by omega)) ?_
      refine ev_turn [.int .i64 (x), .int .i64 (((k0 + 1 : Nat) : Int))] rfl rfl (fun β _ => Given.turns (fun b => #[.pointer (some ⟨b, 0, none⟩), .int .i64 (B + 1)]) (g1) (fun β => by simp [BTm.den, Tm.i, Tm.s, Tm.den, env, vInt, vBool, vStr, exI, SW.den, SV.den, Cell.den, densP, Piece.den, denV, hL]) (fun β => by simp [BTm.den, Tm.i, Tm.s, Tm.den, env, vInt, vBool, vStr, exI, SW.den, SV.den, Cell.den, densP, Piece.den, denV, hL]) (fun β => by simp [BTm.den, Tm.i, Tm.s, Tm.den, env, vInt, vBool, vStr, exI, SW.den, SV.den, Cell.den, densP, Piece.den, denV, hL]) (fun β => by simp [BTm.den, Tm.i, Tm.s, Tm.den, env, vInt, vBool, vStr, exI, SW.den, SV.den, Cell.den, densP, Piece.den, denV, hL]) β) ?_
      refine ev_turn [.int .i64 (p), .int .i64 (((k0 + 1 + 1 : Nat) : Int))] rfl rfl (fun β hβ => Given.turns2 (fun b g => #[.pointer (some ⟨b, 0, none⟩), .slice (some ⟨g, 0, none⟩) 15 15]) [.int .i64 0, .int .i64 1, .int .i64 5, .int .i64 20, .int .i64 31, .int .i64 32, .int .i64 33, .int .i64 64, .int .i64 65, .int .i64 100, .int .i64 200, .int .i64 400, .int .i64 B, .int .i64 B, .int .i64 x] (by decide) (fun b g => g2 b g 15 3) (fun β => by simp [BTm.den, Tm.i, Tm.s, Tm.den, env, vInt, vBool, vStr, exI, SW.den, SV.den, Cell.den, densP, Piece.den, denV, hL]) (fun β => by simp [BTm.den, Tm.i, Tm.s, Tm.den, env, vInt, vBool, vStr, exI, SW.den, SV.den, Cell.den, densP, Piece.den, denV, hL]) (fun β => by simp [BTm.den, Tm.i, Tm.s, Tm.den, env, vInt, vBool, vStr, exI, SW.den, SV.den, Cell.den, densP, Piece.den, denV, hL]) (fun β => by simp [BTm.den, Tm.i, Tm.s, Tm.den, env, vInt, vBool, vStr, exI, SW.den, SV.den, Cell.den, densP, Piece.den, denV, hL]) (fun β => by simp [BTm.den, Tm.i, Tm.s, Tm.den, env, vInt, vBool, vStr, exI, SW.den, SV.den, Cell.den, densP, Piece.den, denV, hL]) β hβ) ?_
      refine ev_loop [.int .i64 (J : Nat), Lv, .int .i64 (k0 + 1 + 1 + 2 * J : Nat), .bool false, .agg (mgk 32 M)] rfl rfl hloop ?_
      refine ev_turn [.int .i64 (y), .int .i64 (((k0 + 1 + 1 + 2 * J + 1 : Nat) : Int))] rfl rfl (fun β _ => Given.turns (fun b => #[.pointer (some ⟨b, 0, none⟩), .int .i64 (3)]) (g3) (fun β => by simp [BTm.den, Tm.i, Tm.s, Tm.den, env, vInt, vBool, vStr, exI, SW.den, SV.den, Cell.den, densP, Piece.den, denV, hL]) (fun β => by simp [BTm.den, Tm.i, Tm.s, Tm.den, env, vInt, vBool, vStr, exI, SW.den, SV.den, Cell.den, densP, Piece.den, denV, hL]) (fun β => by simp [BTm.den, Tm.i, Tm.s, Tm.den, env, vInt, vBool, vStr, exI, SW.den, SV.den, Cell.den, densP, Piece.den, denV, hL]) (fun β => by simp [BTm.den, Tm.i, Tm.s, Tm.den, env, vInt, vBool, vStr, exI, SW.den, SV.den, Cell.den, densP, Piece.den, denV, hL]) β) ?_
      refine ev_nil ⟨fun h => tree_leaf ?_, fun h => tree_leaf (ev_nil ?_)⟩
      · refine ev_call [.int .i64 s] rfl rfl (pure_gives (hsg)) (fun β => by simp [BTm.den, Tm.i, Tm.s, Tm.den, env, vInt, vBool, vStr, exI, SW.den, SV.den, Cell.den, densP, Piece.den, denV, rowCells_mgk, iv_list, rv_list, ivZ, rvZ, mgl_agg]) (fun β => by simp [BTm.den, Tm.i, Tm.s, Tm.den, env, vInt, vBool, vStr, exI, SW.den, SV.den, Cell.den, densP, Piece.den, denV, rowCells_mgk, iv_list, rv_list, ivZ, rvZ, mgl_agg]) ?_
        refine ev_nil ⟨.agg (ivZ (vz (!(s == 0)) M)), k0 + 1 + 1 + 2 * J + 1, ⟨_, rfl, by rw [vz_abs]; exact hMb, by omega, by omega⟩, fun β => ?_, _, rfl, fun β => by simp [BTm.den, Tm.i, Tm.s, Tm.den, env, vInt, vBool, vStr, exI, SW.den, SV.den, Cell.den, densP, Piece.den, denV, denT, hL]⟩
        have e : ivZ (vz (!(s == 0)) M) = iv (!(s == 0)) M := by
          unfold ivZ
          rw [vz_abs, vz_lt]
          by_cases h0 : M = 0
          · rw [show (s == 0) = true by simpa using hsz.2 h0]; rfl
          · rw [isz_false h0]; simp
        rw [e]
        simp [BTm.den, Tm.i, Tm.s, Tm.den, env, vInt, vBool, vStr, exI, SW.den, SV.den, Cell.den, densP, Piece.den, denV, denT, rowCells_mgk, iv_list]
      · refine ⟨.agg (ivZ (vz false M)), k0 + 1 + 1 + 2 * J + 1, ⟨_, rfl, by rw [vz_abs]; exact hMb, by omega, by omega⟩, fun β => ?_, _, rfl, fun β => by simp [BTm.den, Tm.i, Tm.s, Tm.den, env, vInt, vBool, vStr, exI, SW.den, SV.den, Cell.den, densP, Piece.den, denV, denT, hL]⟩
        have e : ivZ (vz false M) = iv false M := by
          unfold ivZ
          rw [vz_abs, vz_lt]; rfl
        rw [e]
        simp [BTm.den, Tm.i, Tm.s, Tm.den, env, vInt, vBool, vStr, exI, SW.den, SV.den, Cell.den, densP, Piece.den, denV, denT, rowCells_mgk, iv_list])
  obtain ⟨v, k', ⟨z, rfl, h1, h2, h3⟩, hg⟩ := main
  refine ⟨z, k', h1, h2, h3, fun b => ?_⟩
  have := hg b
  simpa [ptrW, intW, BTm.den, Tm.i, Tm.s, Tm.den, env, vInt, vBool, vStr, exI, SW.den, SV.den, Cell.den, densP, Piece.den, denV, denT, denT] using this
/-- make.Ratio gives a valid ratio of numbers of at most 200 bits. -/
theorem mratio_given [Outer] (Lv : Value) (hL : fix Lv = Lv) (tv : Nat → Int) (ht : Tape Outer.r Lv tv) (k0 : Nat) (hk : k0 + 136 ≤ 1152921504606846976) :
    ∃ (a c x y : Int) (k' : Nat), Qf 200 a c x y ∧ k0 ≤ k' ∧ k' ≤ k0 + 136 ∧ ∀ b, Given Tryz.prog 4 #[.pointer (some ⟨b, 0, none⟩)] b Outer.r Lv k0 k' (.agg (rvZ a c)) := by
  obtain ⟨x, hx, g1⟩ := ht.next1 k0 6 (by omega) (by omega)
  have main := given_of (k := k0) (rest := []) hL tmRatio_ok (by kernel_rfl)
    (fun v k' => ∃ a c x y : Int, v = .agg (rvZ a c) ∧ Qf 200 a c x y ∧ k0 ≤ k' ∧ k' ≤ k0 + 136) (by
      refine tree_ite ?_
      refine ev_turn [.int .i64 (x), .int .i64 (((k0 + 1 : Nat) : Int))] rfl rfl (fun β _ => Given.turns (fun b => #[.pointer (some ⟨b, 0, none⟩), .int .i64 (6)]) (g1) (fun β => by simp [BTm.den, Tm.i, Tm.s, Tm.den, env, vInt, vBool, vStr, exI, SW.den, SV.den, Cell.den, densP, Piece.den, denV, hL]) (fun β => by simp [BTm.den, Tm.i, Tm.s, Tm.den, env, vInt, vBool, vStr, exI, SW.den, SV.den, Cell.den, densP, Piece.den, denV, hL]) (fun β => by simp [BTm.den, Tm.i, Tm.s, Tm.den, env, vInt, vBool, vStr, exI, SW.den, SV.den, Cell.den, densP, Piece.den, denV, hL]) (fun β => by simp [BTm.den, Tm.i, Tm.s, Tm.den, env, vInt, vBool, vStr, exI, SW.den, SV.den, Cell.den, densP, Piece.den, denV, hL]) β) ?_
      refine ev_nil ⟨fun h => tree_ite ?_, fun h => tree_leaf ?_⟩
      · obtain ⟨z1, k1, hz1, hk1, hk1', i1⟩ := mint_given Lv hL tv ht 200 (by omega) (k0 + 1) (by omega)
        obtain ⟨z2, k2, hz2, hk2, hk2', i2⟩ := mint_given Lv hL tv ht 200 (by omega) k1 (by omega)
        have hp : ∀ {n : Nat}, n < 2 ^ 200 → n < pw 32 := fun {n} h => short480 (Nat.le_trans (bl_le h) (by omega))
        have hab := rabs_any (decide (z1 < 0)) z1.natAbs (hp hz1)
        obtain ⟨u, hu⟩ : ∃ u, u = vz false z1.natAbs := ⟨_, rfl⟩
        have hua : u.natAbs = z1.natAbs := by rw [hu, vz_abs]
        have hu0 : 0 ≤ u := by rw [hu]; unfold vz; simp
        rw [← hu] at hab
        have hsg := rsign_any (decide (u < 0)) u.natAbs (by rw [hua]; exact hp hz1)
        have hsz := vsgn_zero (decide (u < 0)) u.natAbs
        obtain ⟨s, hs⟩ : ∃ s, s = sgn (vz (decide (u < 0)) u.natAbs) := ⟨_, rfl⟩
        rw [← hs] at hsg hsz
        refine ev_turn [.bool (decide (z1 < 0)), .agg (mgk 32 (z1 : Int).natAbs), .int .i64 (((k1 : Nat) : Int))] rfl rfl (fun β _ => Given.turns (fun b => #[.pointer (some ⟨b, 0, none⟩), .int .i64 200]) (i1) (fun β => by simp [BTm.den, Tm.i, Tm.s, Tm.den, env, vInt, vBool, vStr, exI, SW.den, SV.den, Cell.den, densP, Piece.den, denV, hL]) (fun β => by simp [BTm.den, Tm.i, Tm.s, Tm.den, env, vInt, vBool, vStr, exI, SW.den, SV.den, Cell.den, densP, Piece.den, denV, hL]) (fun β => by simp [BTm.den, Tm.i, Tm.s, Tm.den, env, vInt, vBool, vStr, exI, SW.den, SV.den, Cell.den, densP, Piece.den, denV, hL]) (fun β => by simp [BTm.den, Tm.i, Tm.s, Tm.den, env, vInt, vBool, vStr, exI, SW.den, SV.den, Cell.den, densP, Piece.den, denV, hL, rowCells_mgk, iv_list, ivZ]) β) ?_
        refine ev_call [.bool (decide (u < 0)), .agg (mgk 32 (u : Int).natAbs)] rfl rfl (pure_gives (hab)) (fun β => by simp [BTm.den, Tm.i, Tm.s, Tm.den, env, vInt, vBool, vStr, exI, SW.den, SV.den, Cell.den, densP, Piece.den, denV, rowCells_mgk, iv_list, rv_list, ivZ, rvZ, mgl_agg]) (fun β => by simp [BTm.den, Tm.i, Tm.s, Tm.den, env, vInt, vBool, vStr, exI, SW.den, SV.den, Cell.den, densP, Piece.den, denV, rowCells_mgk, iv_list, rv_list, ivZ, rvZ, mgl_agg]) ?_
        refine ev_call [.int .i64 s] rfl rfl (pure_gives (hsg)) (fun β => by simp [BTm.den, Tm.i, Tm.s, Tm.den, env, vInt, vBool, vStr, exI, SW.den, SV.den, Cell.den, densP, Piece.den, denV, rowCells_mgk, iv_list, rv_list, ivZ, rvZ, mgl_agg]) (fun β => by simp [BTm.den, Tm.i, Tm.s, Tm.den, env, vInt, vBool, vStr, exI, SW.den, SV.den, Cell.den, densP, Piece.den, denV, rowCells_mgk, iv_list, rv_list, ivZ, rvZ, mgl_agg]) ?_
        refine ev_nil ⟨fun h => tree_leaf ?_, fun h => tree_leaf ?_⟩
        · have o1 := rfromInt_any 1 (by omega)
          obtain ⟨a, c, he, hq⟩ := q_make z2 1 200 (by omega) hz2 (by decide) (by omega)
          have hm := (make_Z z2 1 (hp hz2) one_lt).2
          rw [he] at hm
          refine ev_call [.bool (decide (1 < 0)), .agg (mgk 32 (1 : Int).natAbs)] rfl rfl (pure_gives o1) (fun β => by simp [BTm.den, Tm.i, Tm.s, Tm.den, env, vInt, vBool, vStr, exI, SW.den, SV.den, Cell.den, densP, Piece.den, denV, denT]) (fun β => by simp [BTm.den, Tm.i, Tm.s, Tm.den, env, vInt, vBool, vStr, exI, SW.den, SV.den, Cell.den, densP, Piece.den, denV, denT, rowCells_mgk, iv_list, ivZ]) ?_
          refine ev_turn [.bool (decide (z2 < 0)), .agg (mgk 32 (z2 : Int).natAbs), .int .i64 (((k2 : Nat) : Int))] rfl rfl (fun β _ => Given.turns (fun b => #[.pointer (some ⟨b, 0, none⟩), .int .i64 200]) (i2) (fun β => by simp [BTm.den, Tm.i, Tm.s, Tm.den, env, vInt, vBool, vStr, exI, SW.den, SV.den, Cell.den, densP, Piece.den, denV, hL]) (fun β => by simp [BTm.den, Tm.i, Tm.s, Tm.den, env, vInt, vBool, vStr, exI, SW.den, SV.den, Cell.den, densP, Piece.den, denV, hL]) (fun β => by simp [BTm.den, Tm.i, Tm.s, Tm.den, env, vInt, vBool, vStr, exI, SW.den, SV.den, Cell.den, densP, Piece.den, denV, hL]) (fun β => by simp [BTm.den, Tm.i, Tm.s, Tm.den, env, vInt, vBool, vStr, exI, SW.den, SV.den, Cell.den, densP, Piece.den, denV, hL, rowCells_mgk, iv_list, ivZ]) β) ?_
          refine ev_call [.bool (decide (a < 0)), .agg (mgk 32 (a : Int).natAbs), .bool (decide (c < 0)), .agg (mgk 32 (c : Int).natAbs), .int .i64 0] rfl rfl (pure_gives (hm)) (fun β => by simp [BTm.den, Tm.i, Tm.s, Tm.den, env, vInt, vBool, vStr, exI, SW.den, SV.den, Cell.den, densP, Piece.den, denV, rowCells_mgk, iv_list, rv_list, ivZ, rvZ, mgl_agg]) (fun β => by simp [BTm.den, Tm.i, Tm.s, Tm.den, env, vInt, vBool, vStr, exI, SW.den, SV.den, Cell.den, densP, Piece.den, denV, rowCells_mgk, iv_list, rv_list, ivZ, rvZ, mgl_agg]) ?_
          refine ev_nil ⟨.agg (rvZ a c), k2, ⟨a, c, _, _, rfl, hq, by omega, by omega⟩, fun β => by simp [BTm.den, Tm.i, Tm.s, Tm.den, env, vInt, vBool, vStr, exI, SW.den, SV.den, Cell.den, densP, Piece.den, denV, rowCells_mgk, iv_list, rv_list, ivZ, rvZ, mgl_agg], _, rfl, fun β => by simp [BTm.den, Tm.i, Tm.s, Tm.den, env, vInt, vBool, vStr, exI, SW.den, SV.den, Cell.den, densP, Piece.den, denV, denT, hL]⟩
        · have h : s ≠ 0 := by simpa [BTm.den, Tm.i, Tm.s, Tm.den, env, vInt, vBool, vStr, exI] using h
          have hu1 : u ≠ 0 := fun e => h (hsz.2 (by rw [e]; rfl))
          obtain ⟨a, c, he, hq⟩ := q_make z2 u 200 hu1 hz2 (by rw [hua]; exact hz1) (by omega)
          have hm := (make_Z z2 u (hp hz2) (by rw [hua]; exact hp hz1)).2
          rw [he] at hm
          refine ev_turn [.bool (decide (z2 < 0)), .agg (mgk 32 (z2 : Int).natAbs), .int .i64 (((k2 : Nat) : Int))] rfl rfl (fun β _ => Given.turns (fun b => #[.pointer (some ⟨b, 0, none⟩), .int .i64 200]) (i2) (fun β => by simp [BTm.den, Tm.i, Tm.s, Tm.den, env, vInt, vBool, vStr, exI, SW.den, SV.den, Cell.den, densP, Piece.den, denV, hL]) (fun β => by simp [BTm.den, Tm.i, Tm.s, Tm.den, env, vInt, vBool, vStr, exI, SW.den, SV.den, Cell.den, densP, Piece.den, denV, hL]) (fun β => by simp [BTm.den, Tm.i, Tm.s, Tm.den, env, vInt, vBool, vStr, exI, SW.den, SV.den, Cell.den, densP, Piece.den, denV, hL]) (fun β => by simp [BTm.den, Tm.i, Tm.s, Tm.den, env, vInt, vBool, vStr, exI, SW.den, SV.den, Cell.den, densP, Piece.den, denV, hL, rowCells_mgk, iv_list, ivZ]) β) ?_
          refine ev_call [.bool (decide (a < 0)), .agg (mgk 32 (a : Int).natAbs), .bool (decide (c < 0)), .agg (mgk 32 (c : Int).natAbs), .int .i64 0] rfl rfl (pure_gives (hm)) (fun β => by simp [BTm.den, Tm.i, Tm.s, Tm.den, env, vInt, vBool, vStr, exI, SW.den, SV.den, Cell.den, densP, Piece.den, denV, rowCells_mgk, iv_list, rv_list, ivZ, rvZ, mgl_agg]) (fun β => by simp [BTm.den, Tm.i, Tm.s, Tm.den, env, vInt, vBool, vStr, exI, SW.den, SV.den, Cell.den, densP, Piece.den, denV, rowCells_mgk, iv_list, rv_list, ivZ, rvZ, mgl_agg]) ?_
          refine ev_nil ⟨.agg (rvZ a c), k2, ⟨a, c, _, _, rfl, hq, by omega, by omega⟩, fun β => by simp [BTm.den, Tm.i, Tm.s, Tm.den, env, vInt, vBool, vStr, exI, SW.den, SV.den, Cell.den, densP, Piece.den, denV, rowCells_mgk, iv_list, rv_list, ivZ, rvZ, mgl_agg], _, rfl, fun β => by simp [BTm.den, Tm.i, Tm.s, Tm.den, env, vInt, vBool, vStr, exI, SW.den, SV.den, Cell.den, densP, Piece.den, denV, denT, hL]⟩
      · obtain ⟨z1, hz1, g2⟩ := ht.next1 (k0 + 1) 601 (by omega) (by omega)
        obtain ⟨p1, hp1, f1⟩ := ht.pick1 [1, 1, 1, 1000, 1000003] 5 rfl (by omega) (k0 + 1 + 1) (by omega)
        obtain ⟨d1, hd1, f2⟩ := ht.pick1 [1, 1, 2, 3, 4, 7, 10, 12, 100, 365, 366, 1000, 1000000] 13 rfl (by omega) (k0 + 1 + 1 + 1) (by omega)
        have hx1 : -400001200 ≤ (-200 + z1) * p1 ∧ (-200 + z1) * p1 ≤ 400001200 := by
          simp only [List.mem_cons, List.not_mem_nil, or_false] at hp1
          rcases hp1 with h | h | h | h | h <;> rw [h] <;> omega
        have hy1 : 1 ≤ d1 ∧ d1 ≤ 1000000 := by
          simp only [List.mem_cons, List.not_mem_nil, or_false] at hd1
          omega
        obtain ⟨a1, b1, o1, q1⟩ := of_made ((-200 + z1) * p1) d1 40 (by omega) (by omega) (by omega) (by omega) (by omega) (by omega)
        refine ev_turn [.int .i64 (z1), .int .i64 (((k0 + 1 + 1 : Nat) : Int))] rfl rfl (fun β _ => Given.turns (fun b => #[.pointer (some ⟨b, 0, none⟩), .int .i64 (601)]) (g2) (fun β => by simp [BTm.den, Tm.i, Tm.s, Tm.den, env, vInt, vBool, vStr, exI, SW.den, SV.den, Cell.den, densP, Piece.den, denV, hL]) (fun β => by simp [BTm.den, Tm.i, Tm.s, Tm.den, env, vInt, vBool, vStr, exI, SW.den, SV.den, Cell.den, densP, Piece.den, denV, hL]) (fun β => by simp [BTm.den, Tm.i, Tm.s, Tm.den, env, vInt, vBool, vStr, exI, SW.den, SV.den, Cell.den, densP, Piece.den, denV, hL]) (fun β => by simp [BTm.den, Tm.i, Tm.s, Tm.den, env, vInt, vBool, vStr, exI, SW.den, SV.den, Cell.den, densP, Piece.den, denV, hL]) β) ?_
        refine ev_fits (-200 + z1) (by simp [BTm.den, Tm.i, Tm.s, Tm.den, env, vInt, vBool, vStr, exI]) (rng_i64 _ (by omega)) ?_
        refine ev_turn [.int .i64 (p1), .int .i64 (((k0 + 1 + 1 + 1 : Nat) : Int))] rfl rfl (fun β hβ => Given.turns2 (fun b g => #[.pointer (some ⟨b, 0, none⟩), .slice (some ⟨g, 0, none⟩) 5 5]) [.int .i64 1, .int .i64 1, .int .i64 1, .int .i64 1000, .int .i64 1000003] (by decide) (fun b g => f1 b g 5 3) (fun β => by simp [BTm.den, Tm.i, Tm.s, Tm.den, env, vInt, vBool, vStr, exI, SW.den, SV.den, Cell.den, densP, Piece.den, denV, hL]) (fun β => by simp [BTm.den, Tm.i, Tm.s, Tm.den, env, vInt, vBool, vStr, exI, SW.den, SV.den, Cell.den, densP, Piece.den, denV, hL]) (fun β => by simp [BTm.den, Tm.i, Tm.s, Tm.den, env, vInt, vBool, vStr, exI, SW.den, SV.den, Cell.den, densP, Piece.den, denV, hL]) (fun β => by simp [BTm.den, Tm.i, Tm.s, Tm.den, env, vInt, vBool, vStr, exI, SW.den, SV.den, Cell.den, densP, Piece.den, denV, hL]) (fun β => by simp [BTm.den, Tm.i, Tm.s, Tm.den, env, vInt, vBool, vStr, exI, SW.den, SV.den, Cell.den, densP, Piece.den, denV, hL]) β hβ) ?_
        refine ev_fits ((-200 + z1) * p1) (by simp [BTm.den, Tm.i, Tm.s, Tm.den, env, vInt, vBool, vStr, exI]) (rng_i64 _ (by omega)) ?_
        refine ev_turn [.int .i64 (d1), .int .i64 (((k0 + 1 + 1 + 1 + 1 : Nat) : Int))] rfl rfl (fun β hβ => Given.turns2 (fun b g => #[.pointer (some ⟨b, 0, none⟩), .slice (some ⟨g, 0, none⟩) 13 13]) [.int .i64 1, .int .i64 1, .int .i64 2, .int .i64 3, .int .i64 4, .int .i64 7, .int .i64 10, .int .i64 12, .int .i64 100, .int .i64 365, .int .i64 366, .int .i64 1000, .int .i64 1000000] (by decide) (fun b g => f2 b g 13 3) (fun β => by simp [BTm.den, Tm.i, Tm.s, Tm.den, env, vInt, vBool, vStr, exI, SW.den, SV.den, Cell.den, densP, Piece.den, denV, hL]) (fun β => by simp [BTm.den, Tm.i, Tm.s, Tm.den, env, vInt, vBool, vStr, exI, SW.den, SV.den, Cell.den, densP, Piece.den, denV, hL]) (fun β => by simp [BTm.den, Tm.i, Tm.s, Tm.den, env, vInt, vBool, vStr, exI, SW.den, SV.den, Cell.den, densP, Piece.den, denV, hL]) (fun β => by simp [BTm.den, Tm.i, Tm.s, Tm.den, env, vInt, vBool, vStr, exI, SW.den, SV.den, Cell.den, densP, Piece.den, denV, hL]) (fun β => by simp [BTm.den, Tm.i, Tm.s, Tm.den, env, vInt, vBool, vStr, exI, SW.den, SV.den, Cell.den, densP, Piece.den, denV, hL]) β hβ) ?_
        refine ev_call [.bool (decide (a1 < 0)), .agg (mgk 32 (a1 : Int).natAbs), .bool (decide (b1 < 0)), .agg (mgk 32 (b1 : Int).natAbs)] rfl rfl (pure_gives (o1)) (fun β => by simp [BTm.den, Tm.i, Tm.s, Tm.den, env, vInt, vBool, vStr, exI, SW.den, SV.den, Cell.den, densP, Piece.den, denV, rowCells_mgk, iv_list, rv_list, ivZ, rvZ, mgl_agg]) (fun β => by simp [BTm.den, Tm.i, Tm.s, Tm.den, env, vInt, vBool, vStr, exI, SW.den, SV.den, Cell.den, densP, Piece.den, denV, rowCells_mgk, iv_list, rv_list, ivZ, rvZ, mgl_agg]) ?_
        refine ev_nil ⟨.agg (rvZ a1 b1), k0 + 1 + 1 + 1 + 1, ⟨a1, b1, _, _, rfl, q1.up (by omega), by omega, by omega⟩, fun β => by simp [BTm.den, Tm.i, Tm.s, Tm.den, env, vInt, vBool, vStr, exI, SW.den, SV.den, Cell.den, densP, Piece.den, denV, rowCells_mgk, iv_list, rv_list, ivZ, rvZ, mgl_agg], _, rfl, fun β => by simp [BTm.den, Tm.i, Tm.s, Tm.den, env, vInt, vBool, vStr, exI, SW.den, SV.den, Cell.den, densP, Piece.den, denV, denT, hL]⟩)
  obtain ⟨v, k', ⟨a, c, x, y, rfl, h1, h2, h3⟩, hg⟩ := main
  refine ⟨a, c, x, y, k', h1, h2, h3, fun b => ?_⟩
  have := hg b
  simpa [ptrW, BTm.den, Tm.i, Tm.s, Tm.den, env, vInt, vBool, vStr, exI, SW.den, SV.den, Cell.den, densP, Piece.den, denV, denT, denT] using this
end Go.Proofs.YtfdlgeomaballaaGreat
end
