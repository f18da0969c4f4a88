/- Opening and shutting an argument that is a ratio (two numbers). -/
import Derived.Test.YteemnnajfiimlaaDoorOp
namespace Go.Proofs.YteemnnajfiimlaaDoor
open Go.RowKit Go.ChangeShapes
set_option linter.unusedSimpArgs false
set_option linter.unusedVariables false
section
variable {H : Type} {enc : TypeId × Value → H} {w : World} {base : Nat} {spare : Nat → Bool} {held : Bool}

/-- The cells of a ratio. -/
def rv (s : Bool) (n : Nat) (t : Bool) (m : Nat) : Array Value := iv s n ++ iv t m
theorem rv_size (s t : Bool) (n m : Nat) : (rv s n t m).size = 66 := by simp [rv, iv_size]
def rvd (H : Type) (s : Bool) (n : Nat) (t : Bool) (m : Nat) : DataW H := .agg [ivd H s n, ivd H t m]
theorem rv_left (s t : Bool) (n m : Nat) : ((rv s n t m).toList.drop 0).take 33 = (iv s n).toList := by
  rw [rv, Array.toList_append, List.drop_zero, List.take_append_of_le_length (by simp [iv_size]), List.take_of_length_le (by simp [iv_size])]
theorem rv_right (s t : Bool) (n m : Nat) : ((rv s n t m).toList.drop 33).take 33 = (iv t m).toList := by
  have : (iv s n).toList.length = 33 := by simp [iv_size]
  rw [rv, Array.toList_append, ← this, List.drop_left, List.take_of_length_le (by simp [iv_size])]
end
end Go.Proofs.YteemnnajfiimlaaDoor
