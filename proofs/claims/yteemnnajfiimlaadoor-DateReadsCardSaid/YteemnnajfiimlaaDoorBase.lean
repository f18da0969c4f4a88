/- Ground for the walks: what a call of a function of plain values keeps ('St': the world as it was below a block number, and the call's own blocks), and the walk's steps over it. No program is named here. -/
import Derived.WalkKit
import Derived.Deep.MidRow
import Derived.Laws.CopyOwn
import Derived.Deep.Quiet
import Derived.BigQuiet
import Derived.Test.YteemnnajfiimlaaDoorRegion
import Derived.Lib.Hide
import Derived.WalkSpells
namespace Go.Proofs.YteemnnajfiimlaaDoor
open Go.RowKit

/-- The world w, reached from w0: old blocks are as they were (but for block c), the blocks of 'r' read so, the blocks of 'l' read so and may be written. -/
structure St (c : Option Nat) (w0 w : World) (r l : List (Nat × Obj)) : Prop where
  os : w.os = w0.os
  tape : w.tape = w0.tape
  output : w.output = w0.output
  size : w0.heap.size ≤ w.heap.size
  block : ∀ k, k < w0.heap.size → c ≠ some k → w.heap[k]? = w0.heap[k]?
  ro : ∀ x ∈ r, x.1 < w0.heap.size ∧ c ≠ some x.1 ∧ w.heap[x.1]? = some x.2
  own : ∀ x ∈ l, (w0.heap.size ≤ x.1 ∨ c = some x.1) ∧ w.heap[x.1]? = some x.2
  apart : l.Pairwise (fun x y => x.1 ≠ y.1)

theorem St.start (w : World) : St none w w [] [] :=
  ⟨rfl, rfl, rfl, Nat.le_refl _, fun _ _ _ => rfl, by simp, by simp, .nil⟩

theorem St.start_ro (w : World) (r : List (Nat × Obj)) (h : ∀ x ∈ r, w.heap[x.1]? = some x.2) : St none w w r [] :=
  ⟨rfl, rfl, rfl, Nat.le_refl _, fun _ _ _ => rfl, fun x hx => ⟨(Array.getElem?_eq_some_iff.1 (h x hx)).1, by simp, h x hx⟩, by simp, .nil⟩

theorem St.start_may (w : World) (b : Nat) (o : Obj) (hb : w.heap[b]? = some o) (r : List (Nat × Obj)) (h : ∀ x ∈ r, w.heap[x.1]? = some x.2 ∧ x.1 ≠ b) : St (some b) w w r [(b, o)] :=
  ⟨rfl, rfl, rfl, Nat.le_refl _, fun _ _ _ => rfl, fun x hx => ⟨(Array.getElem?_eq_some_iff.1 (h x hx).1).1, fun e => (h x hx).2 (Option.some.inj e).symm, (h x hx).1⟩,
    fun x hx => by
      have : x = (b, o) := by simpa using hx
      subst this; exact ⟨.inr rfl, hb⟩, by simp⟩

theorem St.below {w0 w : World} {r l : List (Nat × Obj)} (h : St none w0 w r l) : Below w0.heap.size w0 w :=
  ⟨h.os, h.tape, h.output, h.size, fun k hk => h.block k hk (by simp)⟩

variable {c : Option Nat} {w0 w w' : World} {r l l' : List (Nat × Obj)}

theorem St.lt (h : St c w0 w r l) {x : Nat × Obj} (hx : x ∈ l) : x.1 < w.heap.size := (Array.getElem?_eq_some_iff.1 (h.own x hx).2).1

/-- Behind whatever leaves all blocks of w as they are. -/
theorem St.later (h : St c w0 w r l) (hb : Below w.heap.size w w') : St c w0 w' r l :=
  ⟨hb.os.trans h.os, hb.tape.trans h.tape, hb.output.trans h.output, Nat.le_trans h.size hb.size,
    fun k hk hc => (hb.block k (Nat.lt_of_lt_of_le hk h.size)).trans (h.block k hk hc),
    fun x hx => ⟨(h.ro x hx).1, (h.ro x hx).2.1, (hb.block x.1 (Nat.lt_of_lt_of_le (h.ro x hx).1 h.size)).trans (h.ro x hx).2.2⟩,
    fun x hx => ⟨(h.own x hx).1, (hb.block x.1 (h.lt hx)).trans (h.own x hx).2⟩, h.apart⟩

theorem St.drew (h : St c w0 w r l) : St c w0 w.drew r l := h.later ⟨rfl, rfl, rfl, Nat.le_refl _, fun _ _ => rfl⟩

theorem St.alloc (h : St c w0 w r l) (o : Obj) : St c w0 (w.alloc o) r ((w.heap.size, o) :: l) := by
  have h1 := h.later (w' := w.alloc o) ((Below.refl _ _).alloc (Nat.le_refl _) o)
  refine ⟨h1.os, h1.tape, h1.output, h1.size, h1.block, h1.ro, fun x hx => ?_, ?_⟩
  · rcases List.mem_cons.1 hx with rfl | hx
    · exact ⟨.inl h.size, heap_alloc_new w o⟩
    · exact h1.own x hx
  · exact List.pairwise_cons.2 ⟨fun y hy e => by have := h.lt hy; simp only at e; omega, h.apart⟩

/-- The entry of block b on the list l turns from o to o'. -/
inductive Upd : List (Nat × Obj) → Nat → Obj → Obj → List (Nat × Obj) → Prop where
  | head {b : Nat} {o o' : Obj} {l : List (Nat × Obj)} : Upd ((b, o) :: l) b o o' ((b, o') :: l)
  | tail {x : Nat × Obj} {b : Nat} {o o' : Obj} {l l' : List (Nat × Obj)} (h : Upd l b o o' l') : Upd (x :: l) b o o' (x :: l')

theorem Upd.mem {b : Nat} {o o' : Obj} (h : Upd l b o o' l') : (b, o) ∈ l := by
  induction h with
  | head => exact .head _
  | tail _ ih => exact .tail _ ih

theorem Upd.ids {b : Nat} {o o' : Obj} (h : Upd l b o o' l') : l'.map (·.1) = l.map (·.1) := by
  induction h with
  | head => rfl
  | tail _ ih => simp [ih]

theorem Upd.of_mem {b : Nat} {o o' : Obj} (h : Upd l b o o' l') (hp : l.Pairwise (fun x y => x.1 ≠ y.1)) : ∀ x ∈ l', x = (b, o') ∨ (x ∈ l ∧ x.1 ≠ b) := by
  induction h with
  | head =>
    intro x hx
    rcases List.mem_cons.1 hx with rfl | hx
    · exact .inl rfl
    · exact .inr ⟨.tail _ hx, fun e => (List.pairwise_cons.1 hp).1 x hx e.symm⟩
  | tail hu ih =>
    intro x hx
    rcases List.mem_cons.1 hx with rfl | hx
    · exact .inr ⟨.head _, fun e => (List.pairwise_cons.1 hp).1 _ hu.mem e⟩
    · rcases ih (List.pairwise_cons.1 hp).2 x hx with h | h
      · exact .inl h
      · exact .inr ⟨.tail _ h.1, h.2⟩

theorem pairwise_ids (l : List (Nat × Obj)) : l.Pairwise (fun x y => x.1 ≠ y.1) ↔ (l.map (·.1)).Nodup := by
  rw [List.Nodup, List.pairwise_map]

/-- One own block is written: whatever the new world is, it differs in that block alone. -/
theorem St.write (h : St c w0 w r l) {b : Nat} {o o' : Obj} (hu : Upd l b o o' l') (hos : w'.os = w.os) (htape : w'.tape = w.tape) (hout : w'.output = w.output) (hsize : w'.heap.size = w.heap.size)
    (hb : w'.heap[b]? = some o') (hk : ∀ k, k ≠ b → w'.heap[k]? = w.heap[k]?) : St c w0 w' r l' := by
  have hown := (h.own _ hu.mem).1
  refine ⟨hos.trans h.os, htape.trans h.tape, hout.trans h.output, by rw [hsize]; exact h.size, fun k hk' hc => ?_, fun x hx => ?_, fun x hx => ?_, ?_⟩
  · rw [hk k (fun e => by subst e; rcases hown with hown | hown; · simp only at hown; omega
                          · exact hc hown)]
    exact h.block k hk' hc
  · refine ⟨(h.ro x hx).1, (h.ro x hx).2.1, ?_⟩
    rw [hk x.1 (fun e => by
      have h1 := (h.ro x hx).1; have h2 := (h.ro x hx).2.1; rw [e] at h1 h2
      rcases hown with hown | hown
      · simp only at hown; omega
      · exact h2 hown)]
    exact (h.ro x hx).2.2
  · rcases hu.of_mem h.apart x hx with rfl | ⟨hx, hne⟩
    · exact ⟨hown, hb⟩
    · exact ⟨(h.own x hx).1, by rw [hk x.1 hne]; exact (h.own x hx).2⟩
  · rw [pairwise_ids, hu.ids, ← pairwise_ids]; exact h.apart

theorem St.setRow (h : St c w0 w r l) {b : Nat} {cs cs' : Array Value} {t : TypeId} (hu : Upd l b (.cells cs t) (.cells cs' t) l') : St c w0 (w.setRow b cs') r l' :=
  h.write hu rfl rfl rfl (by simp) (setRow_heap w b cs cs' t (0, 0) (h.own _ hu.mem).2) (fun k hk => setRow_other w b k cs' hk)

/-- What is read out of a block that is known. -/
theorem St.get (h : St c w0 w r l) {b : Nat} {o : Obj} (hm : (b, o) ∈ l ∨ (b, o) ∈ r) : w.heap[b]? = some o :=
  hm.elim (fun hm => (h.own _ hm).2) (fun hm => (h.ro _ hm).2.2)

/-! ### A function of plain values: whatever the world, it returns v, and nothing that was there turns. -/
def Gives (P : Program) (f : FuncId) (args : Array Value) (v : Value) : Prop :=
  ∀ w, Calls P f args w fun e w' => e = .returned v ∧ Below w.heap.size w w'

variable {P : Program}

theorem Gives.use {f : FuncId} {args : Array Value} {v : Value} (hg : Gives P f args v) (h : St c w0 w r l) {R : Ending → World → Prop} (hR : ∀ w', St c w0 w' r l → R (.returned v) w') : Calls P f args w R :=
  (hg w).mono fun _ w' ⟨he, hb⟩ => by subst he; exact hR w' (h.later hb)

theorem Gives.of_st {f : FuncId} {args : Array Value} {v : Value} (h : ∀ w, Calls P f args w fun e w' => e = .returned v ∧ ∃ l, St none w w' [] l) : Gives P f args v :=
  fun w => (h w).mono fun _ _ ⟨he, _, hs⟩ => ⟨he, hs.below⟩

/-! ### Steps at a plain region's list -/
section steps
variable {ops : Array Oper} {rest : List Oper} {o : Oper} {a : Act} {Q : Exit → Act → World → Prop}

theorem run_alloc_row (w : World) (cs : Array Value) (t : TypeId) : (newRow t cs).run P w = .ok ⟨w.heap.size, 0, none⟩ (w.alloc (.cells cs t)) := by
  simp [newRow]

theorem L_box (hS : St c w0 w r l) (hgd : o.guard = none) (t : TypeId) (x : Operand) (ho : o.op = .box t x) (v : Value) (hx : a.eval x = v) (cs : Array Value) (hv : v.cells = cs)
    (h : ∀ b w', St c w0 w' r ((b, .cells cs t) :: l) → wpList P ops Q rest (a.put o.dst (.pointer (some ⟨b, 0, none⟩))) w') : wpList P ops Q (o :: rest) a w :=
  wpList_plain hgd fun _ hK => by
    unfold Oper.wp execOp
    simp only [ho, hx, Instr.box, newVar, hv, Sem.run_bind, Sem.run_pure, run_alloc_row, Result.andThen_ok]
    exact hK _ _ (h _ _ (hS.alloc _))

theorem L_box_agg (hS : St c w0 w r l) (hgd : o.guard = none) {t : TypeId} {x : Operand} (ho : o.op = .box t x)
    (h : ∃ cs, a.eval x = .agg cs ∧ ∀ b w', St c w0 w' r ((b, .cells cs t) :: l) → wpList P ops Q rest (a.put o.dst (.pointer (some ⟨b, 0, none⟩))) w') : wpList P ops Q (o :: rest) a w :=
  let ⟨cs, hx, h⟩ := h
  L_box hS hgd t x ho _ hx cs rfl h

theorem L_alloc (hS : St c w0 w r l) (hgd : o.guard = none) (t : TypeId) (ho : o.op = .alloc t) (z : Value) (hz : (P.info? t).map (·.zero) = some (some z)) (cs : Array Value) (hv : z.cells = cs)
    (h : ∀ b w', St c w0 w' r ((b, .cells cs t) :: l) → wpList P ops Q rest (a.put o.dst (.pointer (some ⟨b, 0, none⟩))) w') : wpList P ops Q (o :: rest) a w :=
  wpList_plain hgd fun _ hK => by
    have hzv : ∀ w, (zeroValue t).run P w = .ok z w := by
      intro w
      cases hq : P.info? t with
      | none => simp [hq] at hz
      | some i => simp [hq] at hz; simp [zeroValue, typeInfo, hq, hz]
    unfold Oper.wp execOp
    simp only [ho, Instr.alloc, newVar, hv, Sem.run_bind, Sem.run_pure, run_alloc_row, Result.andThen_ok, hzv]
    exact hK _ _ (h _ _ (hS.alloc _))

theorem L_alloc_agg (hS : St c w0 w r l) (hgd : o.guard = none) {t : TypeId} (ho : o.op = .alloc t)
    (h : ∃ cs, (P.info? t).map (·.zero) = some (some (.agg cs)) ∧ ∀ b w', St c w0 w' r ((b, .cells cs t) :: l) → wpList P ops Q rest (a.put o.dst (.pointer (some ⟨b, 0, none⟩))) w') : wpList P ops Q (o :: rest) a w :=
  let ⟨cs, hz, h⟩ := h
  L_alloc hS hgd t ho _ hz cs rfl h

theorem run_load_cell (hS : St c w0 w r l) (t : TypeId) (x : Operand) (ho : o.op = .load t x) (b j : Nat) (hx : a.eval x = .pointer (some ⟨b, j, none⟩)) (cs : Array Value) (T : TypeId)
    (hm : (b, Obj.cells cs T) ∈ l ∨ (b, Obj.cells cs T) ∈ r) (d : TypeDesc) (hu : P.underlying t = some d) (hd : d.isRow = false) (v : Value) (hv : cs[j]? = some v) :
    (execOp a.eval o).run P w = .ok (.value v) w := by
  have hcell : w.cell? ⟨b, j, none⟩ = some v := by rw [cell_of_row w b j cs T (0, 0) (hS.get hm)]; exact hv
  have hagg : (isAgg t).run P w = .ok false w := by
    unfold isAgg
    rw [Sem.run_bind, run_underlying hu w]
    cases d <;> simp_all
  unfold execOp
  simp [ho, hx, Instr.loadAt, Instr.sureAddr, Sem.run_bind, loadVar, hagg, hcell]

theorem run_load_row (hS : St c w0 w r l) (t : TypeId) (x : Operand) (ho : o.op = .load t x) (b : Nat) (hx : a.eval x = .pointer (some ⟨b, 0, none⟩)) (cs : Array Value) (T : TypeId)
    (hm : (b, Obj.cells cs T) ∈ l ∨ (b, Obj.cells cs T) ∈ r) (d : TypeDesc) (hu : P.underlying t = some d) (hd : d.isRow = true) (hi : (P.info? t).map (·.size) = some cs.size) :
    (execOp a.eval o).run P w = .ok (.value (.agg cs)) w := by
  unfold execOp
  simp only [ho, hx, Instr.loadAt, Instr.sureAddr, Sem.run_bind, Sem.run_pure, Result.andThen_ok, run_loadVar_row w b T t cs (0, 0) d (hS.get hm) hu (by cases d <;> first | rfl | exact hd) hi]

theorem run_load_mid (hS : St c w0 w r l) (t : TypeId) (x : Operand) (ho : o.op = .load t x) (b j : Nat) (hx : a.eval x = .pointer (some ⟨b, j, none⟩)) (cs : Array Value) (T : TypeId)
    (hm : (b, Obj.cells cs T) ∈ l ∨ (b, Obj.cells cs T) ∈ r) (d : TypeDesc) (hu : P.underlying t = some d) (hd : d.isRow = true) (sub : Array Value) (hi : (P.info? t).map (·.size) = some sub.size)
    (hsub : ∀ k, k < sub.size → cs[j + k]? = sub[k]?) :
    (execOp a.eval o).run P w = .ok (.value (.agg sub)) w := by
  have hr : w.rangeAt b j sub.toList := fun k v hv => by
    have hk : k < sub.size := by
      have := (List.getElem?_eq_some_iff.1 hv).1
      simpa using this
    rw [cell_of_row w b (j + k) cs T (0, 0) (hS.get hm), hsub k hk]
    simpa using hv
  unfold execOp
  simp only [ho, hx, Instr.loadAt, Instr.sureAddr, Sem.run_bind, Sem.run_pure, Result.andThen_ok, run_loadVar_mid w b j t sub.toList d hr hu hd (by simpa using hi), Array.toArray_toList]

theorem run_build_row (w : World) (t : TypeId) (parts : Array (Nat × Operand)) (ho : o.op = .build t parts) (cs : Array Value) (h : P.built t (parts.map fun (i, x) => (i, a.eval x)).toList = some cs) :
    (execOp a.eval o).run P w = .ok (.value (.agg cs)) w := by
  unfold execOp
  simp only [ho, Sem.run_bind, run_build w t (parts.map fun (i, x) => (i, a.eval x)) cs h, Result.andThen_ok, Sem.run_pure]

/-- A step whose run is known. -/
theorem L_run (hgd : o.guard = none) (v : Value) (hrun : (execOp a.eval o).run P w = .ok (.value v) w) (h : wpList P ops Q rest (a.put o.dst v) w) : wpList P ops Q (o :: rest) a w :=
  wpList_plain hgd fun _ hK => by
    unfold Oper.wp
    rw [hrun]
    exact hK _ _ h

theorem L_want (hw : Region.wanted o (yielded ops a.tmps) = true) (v : Value) (hrun : (execOp a.eval o).run P w = .ok (.value v) w) (h : wpList P ops Q rest (a.put o.dst v) w) : wpList P ops Q (o :: rest) a w :=
  wpList_step fun _ hK => by
    rw [if_pos hw]
    unfold Oper.wp
    rw [hrun]
    exact hK _ _ h

theorem L_load (hw : Region.wanted o (yielded ops a.tmps) = true) {t : TypeId} {x : Operand} (_ho : o.op = .load t x) (h : ∃ v, (execOp a.eval o).run P w = .ok (.value v) w ∧ wpList P ops Q rest (a.put o.dst v) w) : wpList P ops Q (o :: rest) a w :=
  let ⟨v, hrun, h⟩ := h
  L_want hw v hrun h

theorem L_build (hgd : o.guard = none) {t : TypeId} {parts : List (Nat × Operand)} (ho : o.op = .build t parts.toArray) (h : ∃ cs, P.built t (parts.map fun x => (x.1, a.eval x.2)) = some cs ∧ wpList P ops Q rest (a.put o.dst (.agg cs)) w) : wpList P ops Q (o :: rest) a w :=
  let ⟨cs, hb, h⟩ := h
  L_run hgd _ (run_build_row w t _ ho cs (by simpa using hb)) h

theorem L_op (hw : Region.wanted o (yielded ops a.tmps) = true) {op : BinOp} {t t' : TypeId} {x y : Operand} (_ho : o.op = .binOp op t x y t') (h : ∃ v, (execOp a.eval o).run P w = .ok (.value v) w ∧ wpList P ops Q rest (a.put o.dst v) w) : wpList P ops Q (o :: rest) a w :=
  let ⟨v, hrun, h⟩ := h
  L_want hw v hrun h

theorem L_store (hS : St c w0 w r l) (hgd : o.guard = none) {t : TypeId} {x y : Operand} (_ho : o.op = .store t x y)
    (h : ∃ b cs cs' T l', Upd l b (.cells cs T) (.cells cs' T) l' ∧ (execOp a.eval o).run P w = .ok .skip (w.setRow b cs') ∧ ∀ w', St c w0 w' r l' → wpList P ops Q rest (a.put o.dst undef) w') : wpList P ops Q (o :: rest) a w :=
  let ⟨b, cs, cs', T, l', hu, hrun, h⟩ := h
  wpList_plain hgd fun _ hK => by
    unfold Oper.wp
    rw [hrun]
    exact hK _ _ (h _ (hS.setRow hu))

/-! ### Steps in a region whose order is open, at the classes 'St .. ·' -/
variable {ws fl : List Nat} {ls : List (List (Nat × Obj))} {k p : Nat}

/-- An operation that asks nothing of the world. -/
theorem S_run {cls : Nat → World → Prop} (hk : ws.contains k = false) (hw : Region.wanted o (yielded ops a.tmps) = true)
    (h : ∃ v, (∀ w, (execOp a.eval o).run P w = .ok (.value v) w) ∧ wpS P ops ws fl cls Q rest (k + 1) p (a.put o.dst v)) : wpS P ops ws fl cls Q (o :: rest) k p a := by
  unfold wpS
  rw [if_neg (by rw [hk]; exact Bool.false_ne_true)]
  obtain ⟨v, hv, h⟩ := h
  exact ⟨v, .inl ⟨hw, fun q _ w hC => by rw [hv w]; exact ⟨rfl, hC⟩⟩, h⟩

/-- A load that may come behind a writer: the same in every class from here on. -/
theorem S_float (hk : ws.contains k = false) (hw : Region.wanted o (yielded ops a.tmps) = true) {t : TypeId} {x : Operand} (_ho : o.op = .load t x)
    (h : ∃ v, (∀ q, p ≤ q → q ≤ ws.length → ∀ w, St c w0 w r (ls.getD q []) → (execOp a.eval o).run P w = .ok (.value v) w) ∧ wpS P ops ws fl (fun p w' => St c w0 w' r (ls.getD p [])) Q rest (k + 1) p (a.put o.dst v)) (hp : p ≤ ws.length) :
    wpS P ops ws fl (fun p w' => St c w0 w' r (ls.getD p [])) Q (o :: rest) k p a := by
  unfold wpS
  rw [if_neg (by rw [hk]; exact Bool.false_ne_true)]
  obtain ⟨v, hrun, h⟩ := h
  refine ⟨v, .inl ⟨hw, fun q hq w hC => ?_⟩, h⟩
  have hq' : p ≤ q ∧ q ≤ ws.length := by
    rcases hq with rfl | hq
    · exact ⟨Nat.le_refl _, hp⟩
    · exact hq.2
  rw [hrun q hq'.1 hq'.2 w hC]; exact ⟨rfl, hC⟩

/-- An operation that the guard passes over. -/
theorem S_skip {cls : Nat → World → Prop} (hk : ws.contains k = false) (hw : Region.wanted o (yielded ops a.tmps) = false)
    (h : wpS P ops ws fl cls Q rest (k + 1) p (a.put o.dst undef)) : wpS P ops ws fl cls Q (o :: rest) k p a := by
  unfold wpS
  rw [if_neg (by rw [hk]; exact Bool.false_ne_true)]
  exact ⟨undef, .inr ⟨hw, rfl⟩, h⟩

theorem S_load (hk : ws.contains k = false) (hf : fl.contains k = false) (hw : Region.wanted o (yielded ops a.tmps) = true) {t : TypeId} {x : Operand} (_ho : o.op = .load t x)
    (h : ∃ v, (∀ w, St c w0 w r (ls.getD p []) → (execOp a.eval o).run P w = .ok (.value v) w) ∧ wpS P ops ws fl (fun p w' => St c w0 w' r (ls.getD p [])) Q rest (k + 1) p (a.put o.dst v)) :
    wpS P ops ws fl (fun p w' => St c w0 w' r (ls.getD p [])) Q (o :: rest) k p a := by
  unfold wpS
  rw [if_neg (by rw [hk]; exact Bool.false_ne_true)]
  obtain ⟨v, hrun, h⟩ := h
  refine ⟨v, .inl ⟨hw, fun q hq w hC => ?_⟩, h⟩
  obtain rfl : q = p := hq.elim id (fun h => by rw [hf] at h; exact absurd h.1 Bool.false_ne_true)
  rw [hrun w hC]; exact ⟨rfl, hC⟩

theorem S_call (f : FuncId) {as : Array Operand} {ts : Array TypeId} (_ho : o.op = .call { callee := .value (.func f), args := as, argTypes := ts }) (hk : ws.contains k = false) (hf : fl.contains k = false) (hw : Region.wanted o (yielded ops a.tmps) = true)
    (h : ∃ args, (∀ w, (execOp a.eval o).run P w = .ok (.enter f args) w) ∧ ∃ v, Gives P f args v ∧ wpS P ops ws fl (fun p w' => St c w0 w' r (ls.getD p [])) Q rest (k + 1) p (a.put o.dst v)) : wpS P ops ws fl (fun p w' => St c w0 w' r (ls.getD p [])) Q (o :: rest) k p a := by
  unfold wpS
  rw [if_neg (by rw [hk]; exact Bool.false_ne_true)]
  obtain ⟨args, hrun, v, hg, h⟩ := h
  refine ⟨v, .inl ⟨hw, fun q hq w hC => ?_⟩, h⟩
  obtain rfl : q = p := hq.elim id (fun h => by rw [hf] at h; exact absurd h.1 Bool.false_ne_true)
  rw [hrun w]; exact ⟨rfl, hg.use hC fun w' h' => ⟨rfl, h'⟩⟩

theorem S_build {cls : Nat → World → Prop} (hk : ws.contains k = false) (hw : Region.wanted o (yielded ops a.tmps) = true) {t : TypeId} {parts : List (Nat × Operand)} (ho : o.op = .build t parts.toArray)
    (h : ∃ cs, P.built t (parts.map fun x => (x.1, a.eval x.2)) = some cs ∧ wpS P ops ws fl cls Q rest (k + 1) p (a.put o.dst (.agg cs))) : wpS P ops ws fl cls Q (o :: rest) k p a :=
  let ⟨cs, hb, h⟩ := h
  S_run hk hw ⟨_, fun w => run_build_row w t _ ho cs (by simpa using hb), h⟩

theorem S_op {cls : Nat → World → Prop} (hk : ws.contains k = false) (hw : Region.wanted o (yielded ops a.tmps) = true) {op : BinOp} {t t' : TypeId} {x y : Operand} (_ho : o.op = .binOp op t x y t')
    (h : ∃ v, (∀ w, (execOp a.eval o).run P w = .ok (.value v) w) ∧ wpS P ops ws fl cls Q rest (k + 1) p (a.put o.dst v)) : wpS P ops ws fl cls Q (o :: rest) k p a := S_run hk hw h

/-- A call that writes into own blocks: its contract in every world of the class. -/
theorem S_writes (hk : ws.contains k = true) (hw : Region.wanted o (yielded ops a.tmps) = true) (f : FuncId) (args : Array Value) (hrun : ∀ w, (execOp a.eval o).run P w = .ok (.enter f args) w)
    (v : Value) (hg : ∀ w, St c w0 w r (ls.getD p []) → Calls P f args w fun e w' => e = .returned v ∧ St c w0 w' r (ls.getD (p + 1) []))
    (h : wpS P ops ws fl (fun p w' => St c w0 w' r (ls.getD p [])) Q rest (k + 1) (p + 1) (a.put o.dst v)) : wpS P ops ws fl (fun p w' => St c w0 w' r (ls.getD p [])) Q (o :: rest) k p a := by
  unfold wpS
  rw [if_pos hk]
  exact ⟨hw, v, fun w hC => by rw [hrun w]; exact ⟨rfl, hg w hC⟩, h⟩

theorem run_store_cell (hS : St c w0 w r l) (t : TypeId) (x y : Operand) (ho : o.op = .store t x y) (b j : Nat) (hx : a.eval x = .pointer (some ⟨b, j, none⟩)) (v : Value) (hy : a.eval y = v) (cs cs' : Array Value) (T : TypeId)
    (hu : Upd l b (.cells cs T) (.cells cs' T) l') (hi : (P.info? t).map (·.size) = some 1) (h1 : v.oneCell' = true) (hvc : v.cells = #[v]) (hj : j < cs.size) (he : cs.setIfInBounds j v = cs') :
    (execOp a.eval o).run P w = .ok .skip (w.setRow b cs') := by
  have hg := (hS.own _ hu.mem).2
  have hcell : w.cell? ⟨b, j, none⟩ = some cs[j] := by rw [cell_of_row w b j cs T (0, 0) hg]; simp [hj]
  have hfro : w.frozen? ⟨b, j, none⟩ = false := by simp [World.frozen?, hg]
  have hadd : (⟨b, j, none⟩ : Addr).add 0 = ⟨b, j, none⟩ := rfl
  have hst : (storeVar t ⟨b, j, none⟩ v).run P w = .ok () (w.setRow b cs') := by
    cases hq : P.info? t with
    | none => simp [hq] at hi
    | some i =>
      have hs : i.size = 1 := by simpa [hq] using hi
      simp only [storeVar, hvc, sizeOf, typeInfo]
      simp [Sem.run_bind, storeCells, hadd, run_store P w _ v _ h1, hcell, hfro, setCell_eq_setRow w b j cs T (0, 0) v hg, he, hq, hs]
  unfold execOp
  simp only [ho, hx, hy, Instr.storeAt, Instr.sureAddr, Sem.run_bind, Sem.run_pure, Result.andThen_ok, hst]

theorem run_store_row (hS : St c w0 w r l) (t : TypeId) (x y : Operand) (ho : o.op = .store t x y) (b : Nat) (hx : a.eval x = .pointer (some ⟨b, 0, none⟩)) (cs cs' : Array Value) (hy : a.eval y = .agg cs') (T : TypeId)
    (hu : Upd l b (.cells cs T) (.cells cs' T) l') (hi : (P.info? t).map (·.size) = some cs'.size) (hs : cs.size = cs'.size) (h1 : cs'.all (·.oneCell') = true) :
    (execOp a.eval o).run P w = .ok .skip (w.setRow b cs') := by
  unfold execOp
  simp only [ho, hx, hy, Instr.storeAt, Instr.sureAddr, Sem.run_bind, Sem.run_pure, Result.andThen_ok, run_storeVar_row w b T t cs cs' (hS.own _ hu.mem).2 hi hs h1]

theorem S_store (hk : ws.contains k = true) (hw : Region.wanted o (yielded ops a.tmps) = true) {t : TypeId} {x y : Operand} (_ho : o.op = .store t x y)
    (h : ∃ b cs cs' T, Upd (ls.getD p []) b (.cells cs T) (.cells cs' T) (ls.getD (p + 1) []) ∧ (∀ w, St c w0 w r (ls.getD p []) → (execOp a.eval o).run P w = .ok .skip (w.setRow b cs')) ∧
      wpS P ops ws fl (fun p w' => St c w0 w' r (ls.getD p [])) Q rest (k + 1) (p + 1) (a.put o.dst undef)) : wpS P ops ws fl (fun p w' => St c w0 w' r (ls.getD p [])) Q (o :: rest) k p a := by
  unfold wpS
  rw [if_pos hk]
  obtain ⟨b, cs, cs', T, hu, hrun, h⟩ := h
  exact ⟨hw, undef, fun w hC => by rw [hrun w hC]; exact ⟨rfl, hC.setRow hu⟩, h⟩

/-- 'copy' of a part of a block over a whole other one. -/
theorem run_copy_over (hS : St c w0 w r l) (d s : Operand) (dT sT : TypeId) (ho : o.op = .call { callee := .builtin .copy, args := #[d, s], argTypes := #[dT, sT] }) (elem : TypeId) (hu : P.underlying dT = some (.slice elem)) (hsz : (P.info? elem).map (·.size) = some 1)
    (g dCap b off sCap n : Nat) (hd : a.eval d = .slice (some ⟨g, 0, none⟩) n dCap) (hs : a.eval s = .slice (some ⟨b, off, none⟩) n sCap) (cs cs' cs2 : Array Value) (T T2 : TypeId) (hup : Upd l g (.cells cs T) (.cells cs' T) l')
    (hm : (b, Obj.cells cs2 T2) ∈ l ∨ (b, Obj.cells cs2 T2) ∈ r) (h0 : cs.size = n) (h0' : cs'.size = n) (hsub : ∀ k, k < n → cs2[off + k]? = cs'[k]?) (h1 : cs'.all (·.oneCell') = true) :
    (execOp a.eval o).run P w = .ok (.value (goInt n)) (w.setRow g cs') := by
  have hrun := run_copy_row (P := P) w dT sT o.type elem g 0 n dCap ⟨b, off, none⟩ n sCap cs T cs'.toList hu hsz (hS.own _ hup.mem).2 (by simp [h0']) (fun j v hv => by
    have hj : j < n := by
      have := (List.getElem?_eq_some_iff.1 hv).1
      simpa [h0'] using this
    rw [Addr.add_mid, cell_of_row w b (off + j) cs2 T2 (0, 0) (hS.get hm), hsub j hj]
    simpa using hv) (by simp; omega) (fun v hv => (Array.all_eq_true_iff_forall_mem.1 h1) v (by simpa using hv))
  have e : (cs.toList.take 0 ++ cs'.toList ++ cs.toList.drop (0 + cs'.toList.length)).toArray = cs' := by
    have : cs.toList.drop cs'.size = [] := List.drop_of_length_le (by simp; omega)
    simp [this]
  rw [e] at hrun
  simp [execOp, ho, resolve, invoke, builtin, hd, hs, hrun, Result.andThen, h0']

theorem S_copy (hk : ws.contains k = true) (hw : Region.wanted o (yielded ops a.tmps) = true) {d s : Operand} {dT sT : TypeId} (_ho : o.op = .call { callee := .builtin .copy, args := #[d, s], argTypes := #[dT, sT] })
    (h : ∃ b cs cs' T v, Upd (ls.getD p []) b (.cells cs T) (.cells cs' T) (ls.getD (p + 1) []) ∧ (∀ w, St c w0 w r (ls.getD p []) → (execOp a.eval o).run P w = .ok (.value v) (w.setRow b cs')) ∧
      wpS P ops ws fl (fun p w' => St c w0 w' r (ls.getD p [])) Q rest (k + 1) (p + 1) (a.put o.dst v)) : wpS P ops ws fl (fun p w' => St c w0 w' r (ls.getD p [])) Q (o :: rest) k p a := by
  unfold wpS
  rw [if_pos hk]
  obtain ⟨b, cs, cs', T, v, hu, hrun, h⟩ := h
  exact ⟨hw, v, fun w hC => by rw [hrun w hC]; exact ⟨rfl, hC.setRow hu⟩, h⟩

theorem S_nil {cls : Nat → World → Prop} (h : ∀ w, cls p w → Q .normal a w) : wpS P ops ws fl cls Q [] k p a := h

theorem S_end0 {ls' : List (List (Nat × Obj))} (h : ∀ w, St c w0 w r l → Q .normal a w) : wpS P ops ws fl (fun p w' => St c w0 w' r ((l :: ls').getD p [])) Q [] k 0 a := h
theorem S_end1 {l0 : List (Nat × Obj)} {ls' : List (List (Nat × Obj))} (h : ∀ w, St c w0 w r l → Q .normal a w) : wpS P ops ws fl (fun p w' => St c w0 w' r ((l0 :: l :: ls').getD p [])) Q [] k (0 + 1) a := h
theorem S_end2 {l0 l1 : List (Nat × Obj)} {ls' : List (List (Nat × Obj))} (h : ∀ w, St c w0 w r l → Q .normal a w) : wpS P ops ws fl (fun p w' => St c w0 w' r ((l0 :: l1 :: l :: ls').getD p [])) Q [] k (0 + 1 + 1) a := h

/-- THE REGION: ws: the numbers of the operations that write (in their order); fl: of those that ask nothing of the world and that no writer waits for; ls: the own blocks ahead of the first writer, behind it, and so on. -/
theorem wp_region_st {id : Nat} {l : List Oper} (ws fl : List Nat) (ls : List (List (Nat × Obj))) (hS : St c w0 w r (ls.getD 0 [])) (hm : P.follows .mixedOrders = true) (hB : okS .any l.toArray ws fl = true)
    (h : wpS P l.toArray ws fl (fun p w' => St c w0 w' r (ls.getD p [])) Q l 0 0 a) : (Code.region id l.toArray true).wp P Q a w :=
  wp_region_s (cls := fun p w' => St c w0 w' r (ls.getD p [])) hm hB hS.drew h

/-- No operation writes. -/
theorem wp_region_w0 {id : Nat} {ops : List Oper} (hS : St c w0 w r l) (hm : P.follows .mixedOrders = true) (hB : okS .any ops.toArray [] [] = true)
    (h : wpS P ops.toArray [] [] (fun p w' => St c w0 w' r ([l].getD p [])) Q ops 0 0 a) : (Code.region id ops.toArray true).wp P Q a w :=
  wp_region_st [] [] [l] hS hm hB h

/-- One operation writes. -/
theorem wp_region_w1 {id : Nat} {ops : List Oper} (hS : St c w0 w r l) (n : Nat) (fl : List Nat) (l' : List (Nat × Obj)) (hm : P.follows .mixedOrders = true) (hB : okS .any ops.toArray [n] fl = true)
    (h : wpS P ops.toArray [n] fl (fun p w' => St c w0 w' r ([l, l'].getD p [])) Q ops 0 0 a) : (Code.region id ops.toArray true).wp P Q a w :=
  wp_region_st [n] fl [l, l'] hS hm hB h

/-- One operation writes: said by the entry that turns. -/
theorem wp_region_u1 {id : Nat} {ops : List Oper} (hS : St c w0 w r l) (n : Nat) (fl : List Nat) {b : Nat} {ob ob' : Obj} (_hu : Upd l b ob ob' l') (hm : P.follows .mixedOrders = true) (hB : okS .any ops.toArray [n] fl = true)
    (h : wpS P ops.toArray [n] fl (fun p w' => St c w0 w' r ([l, l'].getD p [])) Q ops 0 0 a) : (Code.region id ops.toArray true).wp P Q a w :=
  wp_region_st [n] fl [l, l'] hS hm hB h
/-- Two operations write. -/
theorem wp_region_u2 {id : Nat} {ops : List Oper} {l'' : List (Nat × Obj)} (hS : St c w0 w r l) (n n' : Nat) (fl : List Nat) {b b' : Nat} {ob ob' ob2 ob2' : Obj} (_hu : Upd l b ob ob' l') (_hu' : Upd l' b' ob2 ob2' l'') (hm : P.follows .mixedOrders = true) (hB : okS .any ops.toArray [n, n'] fl = true)
    (h : wpS P ops.toArray [n, n'] fl (fun p w' => St c w0 w' r ([l, l', l''].getD p [])) Q ops 0 0 a) : (Code.region id ops.toArray true).wp P Q a w :=
  wp_region_st [n, n'] fl [l, l', l''] hS hm hB h
end steps

end Go.Proofs.YteemnnajfiimlaaDoor
