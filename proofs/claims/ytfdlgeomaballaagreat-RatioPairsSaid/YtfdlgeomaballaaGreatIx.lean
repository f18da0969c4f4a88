/- One element of a row that is a value. -/
import Derived.Test.YtfdlgeomaballaaGreatTypes
import Derived.Test.YtfdlgeomaballaaGreatGd
namespace Go.Proofs.YtfdlgeomaballaaGreat
open Go.RowKit
variable {P : Program} {ops : Array Oper} {rest : List Oper} {o : Oper} {a : Act} {w : World} {Q : Exit → Act → World → Prop}
theorem run_index_cell {o : Oper} {a : Act} (w : World) (t : TypeId) (x y : Operand) (ho : o.op = .index t x y) (cs : Array Value) (hx : a.eval x = .agg cs) (i : Int) (k : Nat) (hy : a.eval y = .int .i64 i) (hi : i = ((k : Nat) : Int)) (n : Nat) (e : TypeId) (hu : P.underlying t = some (.array n e)) (hk : k < n)
    (d : TypeDesc) (hd : P.underlying e = some d) (hrow : d.isRow = false) (hs : (P.info? e).map (·.size) = some 1) (v : Value) (hv : cs[k]? = some v) : (execOp a.eval o).run P w = .ok (.value v) w := by
  subst hi
  have hagg : (isAgg e).run P w = .ok false w := by
    unfold isAgg
    rw [Sem.run_bind, run_underlying hd w]
    cases d <;> simp_all
  have hsz : (sizeOf e).run P w = .ok 1 w := by
    cases hq : P.info? e with
    | none => simp [hq] at hs
    | some q => simp [hq] at hs; simp [sizeOf, typeInfo, hq, hs]
  have h1 : (0 : Int) ≤ ((k : Nat) : Int) ∧ ((k : Nat) : Int) < ((n : Nat) : Int) := by omega
  unfold execOp
  simp [ho, hx, hy, Instr.index, asIntOf, run_underlying hu, h1, hsz, part, hagg, hv]
  intro h; omega
/-- A walk stops here: 'unfold Held' goes on. -/
def Held (p : Prop) : Prop := p
theorem L_hold (n : Nat) {op : Op} {ty : TypeId} {pos : String} {after : Array Edge} {g : Option (Nat × Bool)} (h : Held (wpList P ops Q (⟨some n, op, ty, pos, after, g⟩ :: rest) a w)) : wpList P ops Q (⟨some n, op, ty, pos, after, g⟩ :: rest) a w := h
theorem L_index (hgd : o.guard = none) {t : TypeId} {x y : Operand} (_ho : o.op = .index t x y) (h : ∃ v, (execOp a.eval o).run P w = .ok (.value v) w ∧ wpList P ops Q rest (a.put o.dst v) w) : wpList P ops Q (o :: rest) a w :=
  let ⟨v, hr, h⟩ := h
  L_run hgd v hr h
end Go.Proofs.YtfdlgeomaballaaGreat
