/- BigintRing: the end. -/
import Derived.Test.YthgfgihgpdamnaaRi
namespace Go.Proofs.Ythgfgihgpdamnaa
open Go.RowKit
theorem ring_any (a0 : Option Addr) (len cap : Nat) (r : List (Nat × Obj)) (hs : Slc r (.slice a0 len cap)) (w : World) (hr : ∀ x ∈ r, w.heap[x.1]? = some x.2) :
    Calls Try.prog 7 #[.slice a0 len cap] w fun e w' => e = .returned (.bool true) ∧ Below w.heap.size w w' :=
  ring_walk a0 len cap r hs (2 ^ 330) (pw_room (by omega)) (fun b => make_int b 330 (by omega)) w hr
end Go.Proofs.Ythgfgihgpdamnaa
