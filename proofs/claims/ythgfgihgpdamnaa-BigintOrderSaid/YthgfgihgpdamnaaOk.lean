/- BigintOrder: the end. -/
import Derived.Test.YthgfgihgpdamnaaOr
namespace Go.Proofs.Ythgfgihgpdamnaa
open Go.RowKit
theorem pw_room8 {j K : Nat} (h : j + 3 ≤ 32 * K) : 8 * 2 ^ j ≤ pw K := by
  rw [pw_bits, show (8 : Nat) = 2 ^ 3 from rfl, ← Nat.pow_add]
  exact Nat.pow_le_pow_right (by omega) (by omega)
theorem order_any (a0 : Option Addr) (len cap : Nat) (r : List (Nat × Obj)) (hs : Slc r (.slice a0 len cap)) (w : World) (hr : ∀ x ∈ r, w.heap[x.1]? = some x.2) :
    Calls Try.prog 10 #[.slice a0 len cap] w fun e w' => e = .returned (.bool true) ∧ Below w.heap.size w w' :=
  order_walk a0 len cap r hs (2 ^ 900) (pw_room8 (by omega)) (fun b => make_int b 900 (by omega)) w hr
end Go.Proofs.Ythgfgihgpdamnaa
