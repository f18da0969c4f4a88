/- A region whose order is left open that ends in two new variables and the two stores into them ('x, y := f, g' of rows or structs). No program is named here. -/
import Derived.Test.YtfdlgeomaballaaGreatBase
import Derived.OrdersHeld
namespace Go.Proofs.YtfdlgeomaballaaGreat
open Go.RowKit
variable {P : Program} {c : Option Nat} {w0 w w' : World} {r l : List (Nat × Obj)} {Q : Exit → Act → World → Prop}

theorem St.drop {x : Nat × Obj} (h : St c w0 w r (x :: l)) : St c w0 w r l :=
  ⟨h.os, h.tape, h.output, h.size, h.block, h.ro, fun y hy => h.own y (.tail _ hy), (List.pairwise_cons.1 h.apart).2⟩
theorem St.swap {x y : Nat × Obj} (h : St c w0 w r (x :: y :: l)) : St c w0 w r (y :: x :: l) := by
  refine ⟨h.os, h.tape, h.output, h.size, h.block, h.ro, fun z hz => h.own z ?_, ?_⟩
  · rcases List.mem_cons.1 hz with rfl | hz
    · exact .tail _ (.head _)
    · rcases List.mem_cons.1 hz with rfl | hz
      · exact .head _
      · exact .tail _ (.tail _ hz)
  · have h1 := List.pairwise_cons.1 h.apart
    have h2 := List.pairwise_cons.1 h1.2
    refine List.pairwise_cons.2 ⟨fun z hz => ?_, List.pairwise_cons.2 ⟨fun z hz => h1.1 z (.tail _ hz), h2.2⟩⟩
    rcases List.mem_cons.1 hz with rfl | hz
    · exact fun e => h1.1 y (.head _) e.symm
    · exact h2.1 z hz

/-- The head of such a region, in the order of the text. -/
def wpHd (P : Program) (ops : Array Oper) (S : World → Prop) (K : Act → Prop) : List Oper → Act → Prop
  | [], a => K a
  | o :: rest, a => ∃ v, YieldsIf P ops S o v a ∧ wpHd P ops S K rest (a.put o.dst v)

theorem wpHd_cons {ops : Array Oper} {S : World → Prop} {K : Act → Prop} {o : Oper} {rest : List Oper} {a : Act} (h : ∃ v, YieldsIf P ops S o v a ∧ wpHd P ops S K rest (a.put o.dst v)) : wpHd P ops S K (o :: rest) a := h

def okHd (md : Region.Mode) (ops : Array Oper) : Nat → Nat → Array Bool → Bool
  | 0, k, listed => decide (Region.ready md ops listed = [k, k + 1]) && decide (Region.ready md ops (listed.setIfInBounds k true) = [k + 1]) && decide (Region.ready md ops (listed.setIfInBounds (k + 1) true) = [k]) &&
      decide (Region.ready md ops ((listed.setIfInBounds k true).setIfInBounds (k + 1) true) = [k + 2]) &&
      decide (Region.ready md ops (((listed.setIfInBounds k true).setIfInBounds (k + 1) true).setIfInBounds (k + 2) true) = [k + 3]) &&
      decide (Region.ready md ops ((((listed.setIfInBounds k true).setIfInBounds (k + 1) true).setIfInBounds (k + 2) true).setIfInBounds (k + 3) true) = [])
  | n + 1, k, listed => (Region.ready md ops listed).contains k && Region.free md ops listed k && okHd md ops n (k + 1) (listed.setIfInBounds k true)

/-- The two new variables and the two stores. -/
structure New (P : Program) (c : Option Nat) (w0 : World) (r l : List (Nat × Obj)) (Q : Exit → Act → World → Prop) (o1 o2 o3 o4 : Oper) (t1 t2 : TypeId) (z1 z2 cs1 cs2 : Array Value) (a : Act) : Prop where
  g1 : o1.guard = none
  g2 : o2.guard = none
  g3 : o3.guard = none
  g4 : o4.guard = none
  op1 : o1.op = .alloc t1
  op2 : o2.op = .alloc t2
  zero1 : (P.info? t1).map (·.zero) = some (some (.agg z1))
  zero2 : (P.info? t2).map (·.zero) = some (some (.agg z2))
  comm : ∀ v1 v2, (a.put o2.dst v2).put o1.dst v1 = (a.put o1.dst v1).put o2.dst v2
  run3 : ∀ b1 b2 w, St c w0 w r ((b2, .cells z2 t2) :: (b1, .cells z1 t1) :: l) → (execOp ((a.put o1.dst (.pointer (some ⟨b1, 0, none⟩))).put o2.dst (.pointer (some ⟨b2, 0, none⟩))).eval o3).run P w = .ok .skip (w.setRow b1 cs1)
  run4 : ∀ b1 b2 w, St c w0 w r ((b2, .cells z2 t2) :: (b1, .cells cs1 t1) :: l) → (execOp (((a.put o1.dst (.pointer (some ⟨b1, 0, none⟩))).put o2.dst (.pointer (some ⟨b2, 0, none⟩))).put o3.dst undef).eval o4).run P w = .ok .skip (w.setRow b2 cs2)
  rest : ∀ b1 b2 w, St c w0 w r ((b2, .cells cs2 t2) :: (b1, .cells cs1 t1) :: l) → Q .normal ((((a.put o1.dst (.pointer (some ⟨b1, 0, none⟩))).put o2.dst (.pointer (some ⟨b2, 0, none⟩))).put o3.dst undef).put o4.dst undef) w

theorem run_alloc_op {o : Oper} {a : Act} (w : World) (t : TypeId) (ho : o.op = .alloc t) (z : Array Value) (hz : (P.info? t).map (·.zero) = some (some (.agg z))) :
    (execOp a.eval o).run P w = .ok (.value (.pointer (some ⟨w.heap.size, 0, none⟩))) (w.alloc (.cells z t)) := by
  have hzv : ∀ w, (zeroValue t).run P w = .ok (.agg z) w := by
    intro w
    cases hq : P.info? t with
    | none => simp [hq] at hz
    | some i => simp [hq] at hz; simp [zeroValue, typeInfo, hq, hz]
  unfold execOp
  simp only [ho, Instr.alloc, newVar, Value.cells, Sem.run_bind, Sem.run_pure, run_alloc_row, Result.andThen_ok, hzv]

theorem wpOp_value {ops : Array Oper} {i : Nat} {o : Oper} {a : Act} {K : Act → World → Prop} {v : Value} (hi : ops[i]? = some o) (hg : o.guard = none) (hrun : (execOp a.eval o).run P w = .ok (.value v) w') (h : K (a.put o.dst v) w') : wpOp P ops Q i K a w := by
  unfold wpOp
  simp only [hi]
  rw [if_pos (by simp [Region.wanted, hg])]
  refine .inl ?_
  unfold Oper.wp
  rw [hrun]
  exact h
theorem wpOp_skip {ops : Array Oper} {i : Nat} {o : Oper} {a : Act} {K : Act → World → Prop} (hi : ops[i]? = some o) (hg : o.guard = none) (hrun : (execOp a.eval o).run P w = .ok .skip w') (h : K (a.put o.dst undef) w') : wpOp P ops Q i K a w := by
  unfold wpOp
  simp only [hi]
  rw [if_pos (by simp [Region.wanted, hg])]
  refine .inl ?_
  unfold Oper.wp
  rw [hrun]
  exact h

theorem wpAnyH_one {ops : Array Oper} {md : Region.Mode} {S : World → Prop} {i f : Nat} {listed : Array Bool} {a : Act} (hr : Region.ready md ops listed = [i])
    (h : wpOp P ops Q i (fun a' w' => S w' ∧ wpAnyH P md ops Q S f (listed.setIfInBounds i true) a' w') a w) : wpAnyH P md ops Q S (f + 1) listed a w :=
  wpAnyH_all hr (by simp) fun j hj => by
    have : j = i := by simpa using hj
    subst this; exact h

theorem wpAnyH_new {ops : Array Oper} {md : Region.Mode} {k : Nat} {o1 o2 o3 o4 : Oper} {t1 t2 : TypeId} {z1 z2 cs1 cs2 : Array Value} (h1 : ops[k]? = some o1) (h2 : ops[k + 1]? = some o2) (h3 : ops[k + 2]? = some o3) (h4 : ops[k + 3]? = some o4)
    {listed : Array Bool} {a : Act} (hS : St c w0 w r l) (hB : okHd md ops 0 k listed = true) (hN : New P c w0 r l Q o1 o2 o3 o4 t1 t2 z1 z2 cs1 cs2 a) : wpAnyH P md ops Q (fun w => St c w0 w r l) 4 listed a w := by
  simp only [okHd, Bool.and_eq_true, decide_eq_true_eq] at hB
  obtain ⟨⟨⟨⟨⟨r0, r1⟩, r2⟩, r3⟩, r4⟩, r5⟩ := hB
  -- behind both allocations
  have fin : ∀ b1 b2 w, St c w0 w r ((b2, .cells z2 t2) :: (b1, .cells z1 t1) :: l) →
      wpAnyH P md ops Q (fun w => St c w0 w r l) 2 ((listed.setIfInBounds k true).setIfInBounds (k + 1) true) ((a.put o1.dst (.pointer (some ⟨b1, 0, none⟩))).put o2.dst (.pointer (some ⟨b2, 0, none⟩))) w := fun b1 b2 w hS2 => by
    refine wpAnyH_one r3 (wpOp_skip h3 hN.g3 (hN.run3 b1 b2 w hS2) ?_)
    have hS3 := hS2.setRow (cs' := cs1) (.tail .head)
    refine ⟨hS3.drop.drop, wpAnyH_one r4 (wpOp_skip h4 hN.g4 (hN.run4 b1 b2 _ hS3) ?_)⟩
    have hS4 := hS3.setRow (cs' := cs2) .head
    exact ⟨hS4.drop.drop, wpAnyH_done r5 (hN.rest b1 b2 _ hS4) _⟩
  refine wpAnyH_all r0 (by simp) fun i hi => ?_
  have hi' : i = k ∨ i = k + 1 := by simpa using hi
  rcases hi' with rfl | rfl
  · refine wpOp_value h1 hN.g1 (run_alloc_op w t1 hN.op1 z1 hN.zero1) ?_
    have hS1 := hS.alloc (.cells z1 t1)
    refine ⟨hS1.drop, wpAnyH_one r1 (wpOp_value h2 hN.g2 (run_alloc_op _ t2 hN.op2 z2 hN.zero2) ?_)⟩
    have hS2 := hS1.alloc (.cells z2 t2)
    exact ⟨hS2.drop.drop, fin _ _ _ hS2⟩
  · refine wpOp_value h2 hN.g2 (run_alloc_op w t2 hN.op2 z2 hN.zero2) ?_
    have hS1 := hS.alloc (.cells z2 t2)
    refine ⟨hS1.drop, wpAnyH_one r2 (wpOp_value h1 hN.g1 (run_alloc_op _ t1 hN.op1 z1 hN.zero1) ?_)⟩
    have hS2 := hS1.alloc (.cells z1 t1)
    rw [hN.comm, Array.setIfInBounds_comm _ _ (by omega)]
    exact ⟨hS2.drop.drop, fin _ _ _ hS2.swap⟩

theorem wpAnyH_hd {ops : Array Oper} {o1 o2 o3 o4 : Oper} {t1 t2 : TypeId} {z1 z2 cs1 cs2 : Array Value} (hsel : Region.noSelect ops = true) (hQ : ∀ ch d v a w, Q (.panic ch) (a.put d v) w → Q (.panic ch) a w) :
    ∀ (hd : List Oper) (k : Nat) (listed : Array Bool) (a : Act) (w : World), (∀ j, j < hd.length → hd[j]? = ops[k + j]?) → ops[k + hd.length]? = some o1 → ops[k + hd.length + 1]? = some o2 → ops[k + hd.length + 2]? = some o3 → ops[k + hd.length + 3]? = some o4 →
    okHd .any ops hd.length k listed = true → St c w0 w r l → wpHd P ops (fun w => St c w0 w r l) (New P c w0 r l Q o1 o2 o3 o4 t1 t2 z1 z2 cs1 cs2) hd a →
    wpAnyH P .any ops Q (fun w => St c w0 w r l) (hd.length + 4) listed a w
  | [], k, listed, a, w, _, h1, h2, h3, h4, hB, hS, h => wpAnyH_new h1 h2 h3 h4 hS hB h
  | o :: hd, k, listed, a, w, hl, h1, h2, h3, h4, hB, hS, ⟨v, hy, h⟩ => by
    have h0 : ops[k]? = some o := by simpa using (hl 0 (by simp)).symm
    simp only [List.length_cons, okHd, Bool.and_eq_true] at hB
    obtain ⟨⟨hr, hf⟩, hB⟩ := hB
    have e : k + (o :: hd).length = k + 1 + hd.length := by simp only [List.length_cons]; omega
    rw [e] at h1 h2 h3 h4
    rw [show (o :: hd).length + 4 = hd.length + 4 + 1 by simp only [List.length_cons]]
    exact wpAnyH_take h0 hsel hf hr (fun _ _ _ => hQ _ _ _ _ _) hy hS
      (wpAnyH_hd hsel hQ hd (k + 1) _ _ w (fun j hj => by have := hl (j + 1) (by simp [hj]); simpa [Nat.add_assoc, Nat.add_comm 1 j] using this) h1 h2 h3 h4 hB hS h)

/-- THE REGION: n operations that read, two allocations, two stores. -/
theorem wp_region_2new {id : Nat} {a : Act} {hd : List Oper} {o1 o2 o3 o4 : Oper} (t1 t2 : TypeId) (z1 z2 cs1 cs2 : Array Value) (hS : St c w0 w r l) (hm : P.follows .mixedOrders = true) (hsel : Region.noSelect (hd ++ [o1, o2, o3, o4]).toArray = true)
    (hQ : ∀ ch d v a w, Q (.panic ch) (a.put d v) w → Q (.panic ch) a w) (hB : okHd .any (hd ++ [o1, o2, o3, o4]).toArray hd.length 0 (Array.replicate (hd ++ [o1, o2, o3, o4]).toArray.size false) = true)
    (h : wpHd P (hd ++ [o1, o2, o3, o4]).toArray (fun w => St c w0 w r l) (New P c w0 r l Q o1 o2 o3 o4 t1 t2 z1 z2 cs1 cs2) hd a) : (Code.region id (hd ++ [o1, o2, o3, o4]).toArray true).wp P Q a w := by
  refine wp_region_held (S := fun w => St c w0 w r l) hm ?_
  have := wpAnyH_hd (Q := Q) hsel hQ hd 0 (Array.replicate (hd ++ [o1, o2, o3, o4]).toArray.size false) a w.drew (fun j hj => by rw [Nat.zero_add, List.getElem?_toArray]; exact (List.getElem?_append_left hj).symm) (by simp) (by simp) (by simp) (by simp) hB hS.drew h
  simpa using this
end Go.Proofs.YtfdlgeomaballaaGreat
