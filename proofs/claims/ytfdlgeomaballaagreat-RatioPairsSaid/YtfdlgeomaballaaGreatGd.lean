/- Guards for the arms of a walk: they pass at the operation that they name, and fail at once at any other. -/
import Derived.Test.YtfdlgeomaballaaGreatBase
namespace Go.Proofs.YtfdlgeomaballaaGreat
open Go.RowKit
variable {P : Program} {ops : Array Oper} {rest : List Oper} {a : Act} {w : World} {Q : Exit → Act → World → Prop} {d : Option Tmp} {op : Op} {ty : TypeId} {pos : String} {after : Array Edge} {g : Option (Nat × Bool)}
theorem L_slot (n : Nat) (h : wpList P ops Q (⟨some n, op, ty, pos, after, g⟩ :: rest) a w) : wpList P ops Q (⟨some n, op, ty, pos, after, g⟩ :: rest) a w := h
theorem L_alloc? {t : TypeId} (h : wpList P ops Q (⟨d, .alloc t, ty, pos, after, g⟩ :: rest) a w) : wpList P ops Q (⟨d, .alloc t, ty, pos, after, g⟩ :: rest) a w := h
theorem L_box? {t : TypeId} {x : Operand} (h : wpList P ops Q (⟨d, .box t x, ty, pos, after, g⟩ :: rest) a w) : wpList P ops Q (⟨d, .box t x, ty, pos, after, g⟩ :: rest) a w := h
theorem L_build? {t : TypeId} {x : Array (Nat × Operand)} (h : wpList P ops Q (⟨d, .build t x, ty, pos, after, g⟩ :: rest) a w) : wpList P ops Q (⟨d, .build t x, ty, pos, after, g⟩ :: rest) a w := h
theorem L_store? {t : TypeId} {y x : Operand} (h : wpList P ops Q (⟨d, .store t y x, ty, pos, after, g⟩ :: rest) a w) : wpList P ops Q (⟨d, .store t y x, ty, pos, after, g⟩ :: rest) a w := h
theorem L_storeAt (n : Nat) {t : TypeId} {x : Operand} (h : wpList P ops Q (⟨d, .store t (.tmp n) x, ty, pos, after, g⟩ :: rest) a w) : wpList P ops Q (⟨d, .store t (.tmp n) x, ty, pos, after, g⟩ :: rest) a w := h
theorem L_load? {t : TypeId} {x : Operand} (h : wpList P ops Q (⟨d, .load t x, ty, pos, after, g⟩ :: rest) a w) : wpList P ops Q (⟨d, .load t x, ty, pos, after, g⟩ :: rest) a w := h
variable {ws fl : List Nat} {cls : Nat → World → Prop} {k p : Nat}
theorem S_slot (n : Nat) (h : wpS P ops ws fl cls Q (⟨some n, op, ty, pos, after, g⟩ :: rest) k p a) : wpS P ops ws fl cls Q (⟨some n, op, ty, pos, after, g⟩ :: rest) k p a := h
end Go.Proofs.YtfdlgeomaballaaGreat
