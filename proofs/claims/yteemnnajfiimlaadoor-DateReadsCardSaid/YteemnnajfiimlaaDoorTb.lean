/- What reads the tape of numbers: a call that turns the tape's own place alone. No function of the program is walked here. -/
import Derived.Test.YteemnnajfiimlaaDoorTypes
namespace Go.Proofs.YteemnnajfiimlaaDoor
open Go.RowKit

/-- The tape's variable: the list, and the place. -/
def Tk (Lv : Value) (k : Nat) : Array Value := #[Lv, .int .i64 ((k : Nat) : Int)]
theorem Tk_list (Lv : Value) (k : Nat) : (Tk Lv k)[0]? = some Lv := rfl
theorem Tk_at (Lv : Value) (k : Nat) : (Tk Lv k)[1]? = some (.int .i64 ((k : Nat) : Int)) := rfl
theorem Tk_size (Lv : Value) (k : Nat) : (Tk Lv k).size = 2 := rfl

theorem Tk_put (Lv : Value) (k : Nat) : (Tk Lv k).setIfInBounds 1 (.int .i64 (((k : Nat) : Int) + 1)) = Tk Lv (k + 1) := by simp [Tk]
theorem size3 : (Tryd.prog.info? 3).map (·.size) = some 1 := by kernel_rfl

/-- The list of ints Lv lies in the blocks of 'r'. -/
def Slc (r : List (Nat × Obj)) (Lv : Value) : Prop :=
  ∃ a len cap, Lv = .slice a len cap ∧ len ≤ 9223372036854775807 ∧ ∀ i, i < len → ∃ bl off cs T fz z, a = some ⟨bl, off, none⟩ ∧ (bl, Obj.cells cs T fz) ∈ r ∧ cs[off + i]? = some (.int .i64 z) ∧ -9223372036854775808 ≤ z ∧ z ≤ 9223372036854775807
theorem Slc.more {r r' : List (Nat × Obj)} {Lv : Value} (h : Slc r Lv) (hr : ∀ x ∈ r, x ∈ r') : Slc r' Lv := by
  obtain ⟨a, len, cap, h1, h2, h3⟩ := h
  refine ⟨a, len, cap, h1, h2, fun i hi => ?_⟩
  obtain ⟨bl, off, cs, T, fz, z, h4, h5, h6⟩ := h3 i hi
  exact ⟨bl, off, cs, T, fz, z, h4, hr _ h5, h6⟩

/-- A call that takes at most d numbers off the tape in block b, and returns one of the values V x with p x; 'ro': blocks that it reads besides. -/
def Draws {α : Type} (P : Program) (f : FuncId) (args : Array Value) (b d : Nat) (ro : List (Nat × Obj)) (V : α → Value) (p : α → Prop) : Prop :=
  ∀ w r Lv k, w.heap[b]? = some (.cells (Tk Lv k) 35) → (∀ x ∈ r, w.heap[x.1]? = some x.2 ∧ x.1 ≠ b) → (∀ x ∈ ro, x ∈ r) → Slc r Lv → k + d ≤ 1152921504606846976 →
    Calls P f args w fun e w' => ∃ x k' l, e = .returned (V x) ∧ p x ∧ k ≤ k' ∧ k' ≤ k + d ∧ St (some b) w w' r l ∧ (b, Obj.cells (Tk Lv k') 35) ∈ l

variable {c : Option Nat} {w0 w w' : World} {r l l' : List (Nat × Obj)} {P : Program}

theorem run_load_ro {o : Oper} {a : Act} (hS : St c w0 w r l) (t : TypeId) (x : Operand) (ho : o.op = .load t x) (b j : Nat) (hx : a.eval x = .pointer (some ⟨b, j, none⟩)) (cs : Array Value) (T : TypeId) (fz : Nat × Nat)
    (hm : (b, Obj.cells cs T fz) ∈ r) (d : TypeDesc) (hu : P.underlying t = some d) (hd : d.isRow = false) (v : Value) (hv : cs[j]? = some v) :
    (execOp a.eval o).run P w = .ok (.value v) w := by
  have hcell : w.cell? ⟨b, j, none⟩ = some v := by rw [cell_of_row w b j cs T fz (hS.get (.inr hm))]; exact hv
  have hagg : (isAgg t).run P w = .ok false w := by
    unfold isAgg
    rw [Sem.run_bind, run_underlying hu w]
    cases d <;> simp_all
  unfold execOp
  simp [ho, hx, Instr.loadAt, Instr.sureAddr, Sem.run_bind, loadVar, hagg, hcell]

/-- Behind what leaves all blocks but b as they are. -/
theorem St.but (h : St c w0 w r l) {b : Nat} {o o' : Obj} (hu : Upd l b o o' l') {r2 l2 : List (Nat × Obj)} (h2 : St (some b) w w' r2 l2) (hm : (b, o') ∈ l2) : St c w0 w' r l' := by
  have hown := (h.own _ hu.mem).1
  have hbw := h.lt hu.mem
  have hk : ∀ k, k < w.heap.size → k ≠ b → w'.heap[k]? = w.heap[k]? := fun k hk hne => h2.block k hk (fun e => hne (Option.some.inj e).symm)
  refine ⟨h2.os.trans h.os, h2.tape.trans h.tape, h2.output.trans h.output, Nat.le_trans h.size h2.size, fun k hk' hc => ?_, fun x hx => ?_, fun x hx => ?_, ?_⟩
  · rw [hk k (Nat.lt_of_lt_of_le hk' h.size) (fun e => by
      subst e
      rcases hown with hown | hown
      · simp only at hown; omega
      · exact hc hown)]
    exact h.block k hk' hc
  · refine ⟨(h.ro x hx).1, (h.ro x hx).2.1, ?_⟩
    rw [hk x.1 (Nat.lt_of_lt_of_le (h.ro x hx).1 h.size) (fun e => by
      have h1 := (h.ro x hx).1; have h2 := (h.ro x hx).2.1; rw [e] at h1 h2
      rcases hown with hown | hown
      · simp only at hown; omega
      · exact h2 hown)]
    exact (h.ro x hx).2.2
  · rcases hu.of_mem h.apart x hx with rfl | ⟨hx, hne⟩
    · exact ⟨hown, (h2.own _ hm).2⟩
    · exact ⟨(h.own x hx).1, by rw [hk x.1 (h.lt hx) hne]; exact (h.own x hx).2⟩
  · rw [pairwise_ids, hu.ids, ← pairwise_ids]; exact h.apart

theorem Draws.use {α : Type} {f : FuncId} {args : Array Value} {b d : Nat} {ro : List (Nat × Obj)} {V : α → Value} {p : α → Prop} (hg : Draws P f args b d ro V p) (h : St c w0 w r l) {Lv : Value} {k : Nat} {L : Nat → List (Nat × Obj)}
    (hro : ∀ x ∈ ro, x ∈ l ∧ x.1 ≠ b) (hs : Slc r Lv) (hk : k + d ≤ 1152921504606846976) (hu : ∀ k', Upd l b (.cells (Tk Lv k) 35) (.cells (Tk Lv k') 35) (L k')) {R : Ending → World → Prop}
    (hR : ∀ x k' w', p x → k ≤ k' → k' ≤ k + d → St c w0 w' r (L k') → R (.returned (V x)) w') : Calls P f args w R := by
  have hb := h.own _ (hu k).mem
  refine (hg w (ro ++ r) Lv k hb.2 (fun x hx => ?_) (fun x hx => List.mem_append_left _ hx) (hs.more fun x hx => List.mem_append_right _ hx) hk).mono fun e w' he => ?_
  · rcases List.mem_append.1 hx with hx | hx
    · exact ⟨(h.own _ (hro x hx).1).2, (hro x hx).2⟩
    · refine ⟨(h.ro x hx).2.2, fun e => ?_⟩
      have h1 := (h.ro x hx).1
      have h2 := (h.ro x hx).2.1
      rw [e] at h1 h2
      rcases hb.1 with hb | hb
      · simp only at hb; omega
      · exact h2 hb
  · obtain ⟨x, k', l2, rfl, hp, h1, h2, h3, h4⟩ := he
    exact hR x k' w' hp h1 h2 (h.but (hu k') h3 h4)

/-- The end of a function that draws. -/
theorem Draws.of {α : Type} {f : FuncId} {args : Array Value} {b d : Nat} {ro : List (Nat × Obj)} {V : α → Value} {p : α → Prop}
    (h : ∀ w r Lv k, St (some b) w w r [(b, .cells (Tk Lv k) 35)] → (∀ x ∈ ro, x ∈ r) → Slc r Lv → k + d ≤ 1152921504606846976 →
      Calls P f args w fun e w' => ∃ x k' l, e = .returned (V x) ∧ p x ∧ k ≤ k' ∧ k' ≤ k + d ∧ St (some b) w w' r l ∧ (b, Obj.cells (Tk Lv k') 35) ∈ l) : Draws P f args b d ro V p :=
  fun w r Lv k hb hr hro hs hk => h w r Lv k (St.start_may w b _ hb r hr) hro hs hk

/-- A number folded into the range from 0 to n - 1. -/
def foldv (v n : Int) : Int := if n ≤ 1 then 0 else v % n
theorem foldv_range {v n : Int} (h : 1 ≤ n) : 0 ≤ foldv v n ∧ foldv v n < n := by
  unfold foldv
  split
  · omega
  · exact ⟨Int.emod_nonneg _ (by omega), Int.emod_lt_of_pos _ (by omega)⟩
end Go.Proofs.YteemnnajfiimlaaDoor
