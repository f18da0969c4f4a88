/- One of some texts is drawn. -/
import Derived.Test.YteemnnajfiimlaaDoorSxQ
namespace Go.Proofs.YteemnnajfiimlaaDoor
open Go.RowKit Go.Proofs.YteemnnajfiimlaaDoor.Sx

def strs (ss : List ByteArray) : Array Value := (ss.map Value.string).toArray
theorem strs_at_int {ss : List ByteArray} {n : Nat} {x : Int} (hz : ss.length = n) (hx : 0 ≤ x ∧ x < ((n : Nat) : Int)) : (strs ss)[x.toNat]? = some (.string (ss.getD x.toNat ByteArray.empty)) := by
  have h : x.toNat < ss.length := by omega
  simp [strs, List.getD_eq_getElem?_getD, List.getElem?_eq_getElem h]
theorem strs_mem {ss : List ByteArray} {n : Nat} {x : Int} (hz : ss.length = n) (hx : 0 ≤ x ∧ x < ((n : Nat) : Int)) : ss.getD x.toNat ByteArray.empty ∈ ss := by
  have h : x.toNat < ss.length := by omega
  rw [List.getD_eq_getElem?_getD, List.getElem?_eq_getElem h]
  exact List.getElem_mem h
set_option maxHeartbeats 1000000 in
theorem Tape.one {r : List (Nat × Obj)} {Lv : Value} {tv : Nat → Int} (ht : Tape r Lv tv) (b g cap : Nat) (T : TypeId) (zs : List ByteArray) (n : Nat) (hz : zs.length = n) (h0 : 1 ≤ n ∧ n ≤ 1000000) (k : Nat) (hk : k + 1 ≤ 1152921504606846976) :
    Given Tryd.prog 33 #[.pointer (some ⟨b, 0, none⟩), .slice (some ⟨g, 0, none⟩) n cap] b ((g, .cells (strs zs) T) :: r) Lv k (k + 1) (.string (zs.getD (foldv (tv k) ((n : Nat) : Int)).toNat ByteArray.empty)) := by
  have hn : 1 ≤ ((n : Nat) : Int) ∧ ((n : Nat) : Int) ≤ 4611686018427387904 := by omega
  have hn0 : (((n : Nat) : Int) == 0) = false := by simp; omega
  have hg := (ht k b _ hn hk).more (r' := (g, .cells (strs zs) T) :: r) fun x hx => .tail _ hx
  have hx := foldv_range (v := tv k) hn.1
  obtain ⟨x, hxe⟩ : ∃ x, x = foldv (tv k) ((n : Nat) : Int) := ⟨_, rfl⟩
  rw [← hxe] at hg hx ⊢
  clear hxe
  refine Given.of fun w hS => ?_
  have hm : (g, Obj.cells (strs zs) T) ∈ ((g, Obj.cells (strs zs) T) :: r) := .head _
  go_enter Tryd.func33, Tryd.ntmps33
  go_wp2_with (first | (go_at_call 34; (with_reducible refine (hg.use hS .head).mono ?_); clear hS; intro _ _ ⟨he, hS⟩; subst he) | (refine L_load (t := 9) rfl rfl ?_; refine ⟨_, run_load_cell hS _ _ rfl _ _ rfl _ _ (.inr hm) _ Tryd.underlying9 rfl _ (strs_at_int hz hx), ?_⟩))
  go_ret
  have hlt : x.toNat < zs.length := by omega
  refine ⟨?_, _, hS, .head _⟩
  rw [List.getD_eq_getElem?_getD, List.getElem?_eq_getElem hlt]
  rfl
theorem Tape.one1 {r : List (Nat × Obj)} {Lv : Value} {tv : Nat → Int} (ht : Tape r Lv tv) (zs : List ByteArray) (n : Nat) (hz : zs.length = n) (h0 : 1 ≤ n ∧ n ≤ 1000000) (k : Nat) (hk : k + 1 ≤ 1152921504606846976) :
    ∃ z, z ∈ zs ∧ ∀ b g cap T, Given Tryd.prog 33 #[.pointer (some ⟨b, 0, none⟩), .slice (some ⟨g, 0, none⟩) n cap] b ((g, .cells (strs zs) T) :: r) Lv k (k + 1) (.string z) :=
  ⟨_, strs_mem hz (foldv_range (by omega)), fun b g cap T => ht.one b g cap T zs n hz h0 k hk⟩
end Go.Proofs.YteemnnajfiimlaaDoor
