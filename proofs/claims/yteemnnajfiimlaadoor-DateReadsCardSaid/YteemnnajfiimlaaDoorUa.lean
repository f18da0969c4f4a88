/- The tape as a function from places to numbers: Next and Pick. -/
import Derived.Test.YteemnnajfiimlaaDoorTr
namespace Go.Proofs.YteemnnajfiimlaaDoor
open Go.RowKit
set_option linter.unusedVariables false

set_option maxHeartbeats 1000000 in
theorem tape_at (r : List (Nat × Obj)) (Lv : Value) (k : Nat) (hs : Slc r Lv) :
    ∃ z : Int, ∀ (b : Nat) (n : Int), 1 ≤ n ∧ n ≤ 4611686018427387904 → k + 1 ≤ 1152921504606846976 → Given Tryd.prog 34 #[.pointer (some ⟨b, 0, none⟩), .int .i64 n] b r Lv k (k + 1) (.int .i64 (foldv z n)) := by
  by_cases hk : k + 1 ≤ 1152921504606846976
  case neg => exact ⟨0, fun b n hn h => absurd h hk⟩
  obtain ⟨a, len, cap, rfl, hlen, hs⟩ := hs
  have hkk : (0 : Int) ≤ ((k : Nat) : Int) ∧ ((k : Nat) : Int) ≤ 1152921504606846975 := by omega
  by_cases hl : k < len
  · obtain ⟨bl, off, cs, T, fz, z, rfl, hm, hc, hz⟩ := hs k hl
    have hl' : ((k : Nat) : Int) < ((len : Nat) : Int) := by omega
    have hl'' : ¬ ((len : Nat) : Int) ≤ ((k : Nat) : Int) := by omega
    clear hs
    refine ⟨z, fun b n hn _ => Given.of fun w hS => ?_⟩
    go_enter Tryd.func34, Tryd.ntmps34
    go_wp2_with (first | (refine L_load (t := 3) rfl rfl ?_; refine ⟨_, run_load_cell hS _ _ rfl _ _ rfl _ _ (.inl (.head _)) _ Tryd.underlying3 rfl _ (Tk_at _ _), ?_⟩))
    (try simp only [Act.put]); (try simp only [List.setIfInBounds_toArray, List.set_cons_succ, List.set_cons_zero]); refine wp_region_w0 hS (by kernel_rfl) (by kernel_rfl) ?_
    repeat (first | (refine S_load (t := 3) rfl rfl rfl rfl ?_; refine ⟨_, fun _ hS' => run_load_cell hS' _ _ rfl _ _ rfl _ _ (.inl (.head _)) _ Tryd.underlying3 rfl _ (Tk_at _ _), ?_⟩; simp only [Act.put, List.setIfInBounds_toArray, List.set_cons_succ, List.set_cons_zero]) | (refine S_load (t := 32) rfl rfl rfl rfl ?_; refine ⟨_, fun _ hS' => run_load_cell hS' _ _ rfl _ _ rfl _ _ (.inl (.head _)) _ Tryd.underlying32 rfl _ (Tk_list _ _), ?_⟩; simp only [Act.put, List.setIfInBounds_toArray, List.set_cons_succ, List.set_cons_zero]) | (refine S_run rfl rfl ?_; apply Exists.intro; refine ⟨fun _ => ?_, ?_⟩; (focus (go_simp; (try go_bits); exact rfl)); simp only [Act.put, List.setIfInBounds_toArray, List.set_cons_succ, List.set_cons_zero]))
    refine S_end0 ?_; clear hS; intro _ hS
    go_wp2
    (try simp only [Act.put]); (try simp only [List.setIfInBounds_toArray, List.set_cons_succ, List.set_cons_zero]); refine wp_region_w0 hS (by kernel_rfl) (by kernel_rfl) ?_
    repeat (first
      | (refine S_load (t := 3) (o := ⟨some 31, _, _, _, _, _⟩) rfl rfl rfl rfl ?_; refine ⟨_, fun _ hS' => run_load_ro hS' _ _ rfl _ _ rfl _ _ fz hm _ Tryd.underlying3 rfl _ hc, ?_⟩; simp only [Act.put, List.setIfInBounds_toArray, List.set_cons_succ, List.set_cons_zero])
      | (refine S_load (t := 3) rfl rfl rfl rfl ?_; refine ⟨_, fun _ hS' => run_load_cell hS' _ _ rfl _ _ rfl _ _ (.inl (.head _)) _ Tryd.underlying3 rfl _ (Tk_at _ _), ?_⟩; simp only [Act.put, List.setIfInBounds_toArray, List.set_cons_succ, List.set_cons_zero]) | (refine S_load (t := 32) rfl rfl rfl rfl ?_; refine ⟨_, fun _ hS' => run_load_cell hS' _ _ rfl _ _ rfl _ _ (.inl (.head _)) _ Tryd.underlying32 rfl _ (Tk_list _ _), ?_⟩; simp only [Act.put, List.setIfInBounds_toArray, List.set_cons_succ, List.set_cons_zero]) | (refine S_run rfl rfl ?_; apply Exists.intro; refine ⟨fun _ => ?_, ?_⟩; (focus (go_simp; (try go_bits); exact rfl)); simp only [Act.put, List.setIfInBounds_toArray, List.set_cons_succ, List.set_cons_zero]))
    refine S_end0 ?_; clear hS; intro _ hS
    go_wp2_with (first | (refine L_load (t := 3) rfl rfl ?_; refine ⟨_, run_load_cell hS _ _ rfl _ _ rfl _ _ (.inl (.head _)) _ Tryd.underlying3 rfl _ (Tk_at _ _), ?_⟩) | (refine L_store (t := 3) hS rfl rfl ?_; refine ⟨_, _, Tk (.slice (some ⟨bl, off, none⟩) len cap) (k + 1), _, _, (.head), run_store_cell hS _ _ _ rfl _ _ rfl _ rfl _ _ _ (.head) size3 rfl rfl ?_ ?_, ?_⟩; (focus (rw [Tk_size]; omega)); (focus (exact Tk_put _ _)); clear hS; intro _ hS) | (go_at_call 35; (with_reducible refine Gives.use (fold_any _ _ hz hn) hS ?_); clear hS; intro _ hS))
    go_ret
    exact ⟨rfl, _, hS, .head _⟩
  · have hl' : ¬ ((k : Nat) : Int) < ((len : Nat) : Int) := by omega
    have hl'' : ((len : Nat) : Int) ≤ ((k : Nat) : Int) := by omega
    obtain ⟨z, hz0⟩ : ∃ z, (((k : Nat) : Int) * 7).tmod 11 = z := ⟨_, rfl⟩
    have hz1 : (((k : Nat) : Int) * 7) % 11 = z := by rw [← hz0, Int.tmod_eq_emod_of_nonneg (by omega)]
    have hz : -9223372036854775808 ≤ z ∧ z ≤ 9223372036854775807 := by omega
    clear hs
    refine ⟨z, fun b n hn _ => Given.of fun w hS => ?_⟩
    go_enter Tryd.func34, Tryd.ntmps34
    go_wp2_with (first | (refine L_load (t := 3) rfl rfl ?_; refine ⟨_, run_load_cell hS _ _ rfl _ _ rfl _ _ (.inl (.head _)) _ Tryd.underlying3 rfl _ (Tk_at _ _), ?_⟩))
    (try simp only [Act.put]); (try simp only [List.setIfInBounds_toArray, List.set_cons_succ, List.set_cons_zero]); refine wp_region_w0 hS (by kernel_rfl) (by kernel_rfl) ?_
    repeat (first | (refine S_load (t := 3) rfl rfl rfl rfl ?_; refine ⟨_, fun _ hS' => run_load_cell hS' _ _ rfl _ _ rfl _ _ (.inl (.head _)) _ Tryd.underlying3 rfl _ (Tk_at _ _), ?_⟩; simp only [Act.put, List.setIfInBounds_toArray, List.set_cons_succ, List.set_cons_zero]) | (refine S_load (t := 32) rfl rfl rfl rfl ?_; refine ⟨_, fun _ hS' => run_load_cell hS' _ _ rfl _ _ rfl _ _ (.inl (.head _)) _ Tryd.underlying32 rfl _ (Tk_list _ _), ?_⟩; simp only [Act.put, List.setIfInBounds_toArray, List.set_cons_succ, List.set_cons_zero]) | (refine S_run rfl rfl ?_; apply Exists.intro; refine ⟨fun _ => ?_, ?_⟩; (focus (go_simp; (try go_bits); exact rfl)); simp only [Act.put, List.setIfInBounds_toArray, List.set_cons_succ, List.set_cons_zero]))
    refine S_end0 ?_; clear hS; intro _ hS
    go_wp2_with (first | (refine L_load (t := 3) rfl rfl ?_; refine ⟨_, run_load_cell hS _ _ rfl _ _ rfl _ _ (.inl (.head _)) _ Tryd.underlying3 rfl _ (Tk_at _ _), ?_⟩) | (refine L_store (t := 3) hS rfl rfl ?_; refine ⟨_, _, Tk (.slice a len cap) (k + 1), _, _, (.head), run_store_cell hS _ _ _ rfl _ _ rfl _ rfl _ _ _ (.head) size3 rfl rfl ?_ ?_, ?_⟩; (focus (rw [Tk_size]; omega)); (focus (exact Tk_put _ _)); clear hS; intro _ hS) | (go_at_call 35; (with_reducible refine Gives.use (fold_any _ _ hz hn) hS ?_); clear hS; intro _ hS))
    go_ret
    exact ⟨rfl, _, hS, .head _⟩
/-- The list Lv in r reads as tv, from place to place. -/
def Tape (r : List (Nat × Obj)) (Lv : Value) (tv : Nat → Int) : Prop :=
  ∀ (k : Nat) (b : Nat) (n : Int), 1 ≤ n ∧ n ≤ 4611686018427387904 → k + 1 ≤ 1152921504606846976 → Given Tryd.prog 34 #[.pointer (some ⟨b, 0, none⟩), .int .i64 n] b r Lv k (k + 1) (.int .i64 (foldv (tv k) n))
theorem slc_tape {r : List (Nat × Obj)} {Lv : Value} (hs : Slc r Lv) : ∃ tv, Tape r Lv tv :=
  ⟨fun k => Classical.choose (tape_at r Lv k hs), fun k => Classical.choose_spec (tape_at r Lv k hs)⟩
theorem Given.more {P : Program} {f : FuncId} {args : Array Value} {b : Nat} {r r' : List (Nat × Obj)} {Lv : Value} {k k' : Nat} {v : Value} (h : Given P f args b r Lv k k' v) (hr : ∀ x ∈ r, x ∈ r') : Given P f args b r' Lv k k' v := fun w hb hr' => by
  refine (h w hb fun x hx => hr' x (hr x hx)).mono fun e w' ⟨he, l, hS, hm⟩ => ⟨he, l, ?_, hm⟩
  refine ⟨hS.os, hS.tape, hS.output, hS.size, hS.block, fun x hx => ?_, hS.own, hS.apart⟩
  obtain ⟨h1, h2⟩ := hr' x hx
  have hlt := (Array.getElem?_eq_some_iff.1 h1).1
  have hne : some b ≠ some x.1 := fun e => h2 (Option.some.inj e).symm
  exact ⟨hlt, hne, by rw [hS.block _ hlt hne]; exact h1⟩
set_option maxHeartbeats 1000000 in
theorem Tape.pick {r : List (Nat × Obj)} {Lv : Value} {tv : Nat → Int} (ht : Tape r Lv tv) (b g cap : Nat) (T : TypeId) (zs : List Int) (n : Nat) (hz : zs.length = n) (h0 : 1 ≤ n ∧ n ≤ 1000000) (k : Nat) (hk : k + 1 ≤ 1152921504606846976) :
    Given Tryd.prog 28 #[.pointer (some ⟨b, 0, none⟩), .slice (some ⟨g, 0, none⟩) n cap] b ((g, .cells (ints zs) T) :: r) Lv k (k + 1) (.int .i64 (zs.getD (foldv (tv k) ((n : Nat) : Int)).toNat 0)) := by
  have hn : 1 ≤ ((n : Nat) : Int) ∧ ((n : Nat) : Int) ≤ 4611686018427387904 := by omega
  have hn0 : (((n : Nat) : Int) == 0) = false := by simp; omega
  have hg := (ht k b _ hn hk).more (r' := (g, .cells (ints zs) T) :: r) fun x hx => .tail _ hx
  have hx := foldv_range (v := tv k) hn.1
  obtain ⟨x, hxe⟩ : ∃ x, x = foldv (tv k) ((n : Nat) : Int) := ⟨_, rfl⟩
  rw [← hxe] at hg hx ⊢
  clear hxe
  refine Given.of fun w hS => ?_
  have hm : (g, Obj.cells (ints zs) T) ∈ ((g, Obj.cells (ints zs) T) :: r) := .head _
  go_enter Tryd.func28, Tryd.ntmps28
  go_wp2_with (first | (go_at_call 34; (with_reducible refine (hg.use hS .head).mono ?_); clear hS; intro _ _ ⟨he, hS⟩; subst he) | (refine L_load (t := 3) rfl rfl ?_; refine ⟨_, run_load_cell hS _ _ rfl _ _ rfl _ _ (.inr hm) _ Tryd.underlying3 rfl _ (ints_at_int hz hx), ?_⟩))
  go_ret
  have hlt : x.toNat < zs.length := by omega
  refine ⟨?_, _, hS, .head _⟩
  rw [List.getD_eq_getElem?_getD, List.getElem?_eq_getElem hlt]
  rfl
end Go.Proofs.YteemnnajfiimlaaDoor
