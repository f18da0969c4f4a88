/- BigintGcd: the end. -/
import Derived.Test.YthgfgihgpdamnaaGw
namespace Go.Proofs.Ythgfgihgpdamnaa
open Go.RowKit
theorem Draws.weak {α : Type} {P : Program} {f : FuncId} {args : Array Value} {b d : Nat} {ro : List (Nat × Obj)} {V : α → Value} {p p' : α → Prop} (h : Draws P f args b d ro V p) (hp : ∀ x, p x → p' x) : Draws P f args b d ro V p' :=
  fun w r Lv k h1 h2 h3 h4 h5 => (h w r Lv k h1 h2 h3 h4 h5).mono fun _ _ ⟨x, k', l, he, hx, rest⟩ => ⟨x, k', l, he, hp x hx, rest⟩
theorem pow_mono {j k n : Nat} (h : j ≤ k) (hn : n < 2 ^ j) : n < 2 ^ k := Nat.lt_of_lt_of_le hn (Nat.pow_le_pow_right (by omega) h)
theorem pw_room2 {j K : Nat} (h : 2 * j + 3 ≤ 32 * K) : 2 ^ j * 2 ^ j * 8 ≤ pw K := by
  rw [pw_bits, show (8 : Nat) = 2 ^ 3 from rfl, ← Nat.pow_add, ← Nat.pow_add]
  exact Nat.pow_le_pow_right (by omega) (by omega)
theorem made_up {j : Nat} (b bits : Nat) (h1 : 1 ≤ bits) (h2 : bits ≤ j) (h3 : j ≤ 1024) : Draws Try.prog 42 #[.pointer (some ⟨b, 0, none⟩), .int .i64 ((bits : Nat) : Int)] b 67 [] (fun z : Int => .agg (ivZ z)) (fun z => z.natAbs < 2 ^ j) :=
  (make_int b bits ⟨h1, by omega⟩).weak fun _ hx => pow_mono h2 hx
theorem gcd_from (j : Nat) (h1 : 400 ≤ j) (h2 : 2 * j + 3 ≤ 32 * 32) (a0 : Option Addr) (len cap : Nat) (r : List (Nat × Obj)) (hs : Slc r (.slice a0 len cap)) (w : World) (hr : ∀ x ∈ r, w.heap[x.1]? = some x.2) :
    Calls Try.prog 9 #[.slice a0 len cap] w fun e w' => e = .returned (.bool true) ∧ Below w.heap.size w w' :=
  gcd_walk a0 len cap r hs (2 ^ j) (pw_room2 h2) (fun b => made_up b 400 (by omega) h1 (by omega)) (fun b => made_up b 300 (by omega) (by omega) (by omega)) w hr
theorem gcd_any (a0 : Option Addr) (len cap : Nat) (r : List (Nat × Obj)) (hs : Slc r (.slice a0 len cap)) (w : World) (hr : ∀ x ∈ r, w.heap[x.1]? = some x.2) :
    Calls Try.prog 9 #[.slice a0 len cap] w fun e w' => e = .returned (.bool true) ∧ Below w.heap.size w w' :=
  gcd_from 400 (by omega) (by omega) a0 len cap r hs w hr
end Go.Proofs.Ythgfgihgpdamnaa
