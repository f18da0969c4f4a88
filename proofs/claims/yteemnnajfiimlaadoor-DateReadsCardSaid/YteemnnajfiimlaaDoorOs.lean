/- Opening an argument that is a list of ints. -/
import Derived.Test.YteemnnajfiimlaaDoorTb
import Derived.ProofKit
import Derived.OpenShut
import Derived.Carry
namespace Go.Proofs.YteemnnajfiimlaaDoor
open Go.RowKit Go.ChangeShapes

theorem laidOut : laidOutB Tryd.prog = true := by kernel_rfl
theorem cells3 : Tryd.prog.cellsOf 3 = 1 := by kernel_rfl
theorem cell_heap {w : World} {b j : Nat} {v : Value} (h : w.cell? ⟨b, j, none⟩ = some v) : ∃ cs T fz, w.heap[b]? = some (.cells cs T fz) ∧ cs[j]? = some v := by
  unfold World.cell? at h
  split at h
  · rename_i cs T fz hb
    exact ⟨cs, T, fz, hb, by simpa using h⟩
  · cases h
theorem slc_open {H : Type} {enc : TypeId × Value → H} {W : World} {sp : Nat → Bool} {a0 : Option Addr} {len cap : Nat} {d : DataW H} {p : List MemPlace} (h0 : DataW.Trod enc Tryd.prog W 0 sp true 32 (.slice a0 len cap) d p) :
    ∃ r, (∀ x ∈ r, W.heap[x.1]? = some x.2) ∧ Slc r (.slice a0 len cap) := by
  obtain ⟨fuel, hf⟩ := h0
  rcases open_ints Tryd.underlying32 Tryd.underlying3 cells3 hf with ⟨hcs, hx⟩ | ⟨a, len', cap', zs, hcs, _, hl, hm, hz, hx, hcell, hwz⟩
  · simp [Value.cells] at hcs
    obtain ⟨rfl, rfl, rfl⟩ := hcs
    exact ⟨[], by simp, none, 0, 0, rfl, by omega, fun i hi => by omega⟩
  · simp [Value.cells] at hcs
    obtain ⟨rfl, rfl, rfl⟩ := hcs
    have hlz : len ≤ zs.length := by rw [hz]; split <;> omega
    by_cases h0 : len = 0
    · subst h0
      exact ⟨[], by simp, some a, 0, cap, rfl, by omega, fun i hi => by omega⟩
    obtain ⟨b, off, rfl, hc⟩ := ints_at hcell (by omega)
    obtain ⟨cs, T, fz, hb, hc0⟩ := cell_heap (hc 0 (by omega))
    refine ⟨[(b, .cells cs T fz)], ?_, some ⟨b, off, none⟩, len, cap, rfl, by simp only [maxLen] at hm; omega, fun i hi => ⟨b, off, cs, T, fz, zs.getD i 0, rfl, .head _, ?_, ?_⟩⟩
    · intro x hx
      obtain rfl := List.mem_singleton.1 hx
      exact hb
    · obtain ⟨cs', T', fz', hb', hc'⟩ := cell_heap (hc i (by omega))
      rw [hb] at hb'
      obtain ⟨rfl, _⟩ := Obj.cells.inj (Option.some.inj hb')
      exact hc'
    · have hi' : i < zs.length := by omega
      have : zs.getD i 0 = zs[i] := by simp [List.getD, hi']
      rw [this]
      exact bounds_i64 (hwz _ (List.getElem_mem hi'))
end Go.Proofs.YteemnnajfiimlaaDoor
