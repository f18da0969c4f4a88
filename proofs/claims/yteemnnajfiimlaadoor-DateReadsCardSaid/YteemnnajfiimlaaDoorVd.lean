/- What is drawn, by number. -/
import Derived.Test.YteemnnajfiimlaaDoorUb
namespace Go.Proofs.YteemnnajfiimlaaDoor
open Go.RowKit Go.Proofs.YteemnnajfiimlaaDoor.Sx

theorem Tape.next1 {r : List (Nat × Obj)} {Lv : Value} {tv : Nat → Int} (ht : Tape r Lv tv) (k : Nat) (n : Int) (hn : 1 ≤ n ∧ n ≤ 4611686018427387904) (hk : k + 1 ≤ 1152921504606846976) :
    ∃ z : Int, (0 ≤ z ∧ z < n) ∧ ∀ b, Given Tryd.prog 34 #[.pointer (some ⟨b, 0, none⟩), .int .i64 n] b r Lv k (k + 1) (.int .i64 z) := ⟨_, foldv_range hn.1, fun b => ht k b n hn hk⟩
end Go.Proofs.YteemnnajfiimlaaDoor
