/- The laws of dates over plain numbers and texts. -/
import Derived.Test.YteemnnajfiimlaaDoorSxQ
import Derived.Test.YteemnnajfiimlaaDoorJh
import Derived.Test.YteemnnajfiimlaaDoorJi
namespace Go.Proofs.YteemnnajfiimlaaDoor
open Go.RowKit Go.Proofs.YteemnnajfiimlaaDoor.Sx
set_option linter.unusedSimpArgs false
set_option linter.unusedVariables false

theorem civil_both (n : Int) : ∃ a b c e : Int, Gives Tryd.prog 13 #[.int .i64 n] (.tuple #[.int .i64 a, .int .i64 b, .int .i64 c, .int .i64 e]) ∧ Gives Tryd.prog 14 #[.int .i64 n] (.tuple #[.int .i64 a, .int .i64 b, .int .i64 c, .int .i64 e]) := by
  by_cases h : n < 0 ∨ 73048 < n
  · exact ⟨0, 0, 0, 50, civil_out_p n h, civil_out_d n h⟩
  · obtain ⟨y, m, d, hc⟩ := civil_of (n := n) (by omega) (by omega)
    exact ⟨y, m, d, 0, civil_p hc, civil_d hc⟩
theorem end_both (n : Int) : ∃ a e : Int, Gives Tryd.prog 21 #[.int .i64 n] (.tuple #[.int .i64 a, .int .i64 e]) ∧ Gives Tryd.prog 22 #[.int .i64 n] (.tuple #[.int .i64 a, .int .i64 e]) := by
  by_cases h : n < 0 ∨ 73048 < n
  · exact ⟨0, 50, end_out_p n h, end_out_d n h⟩
  · obtain ⟨y, m, d, hc⟩ := civil_of (n := n) (by omega) (by omega)
    exact ⟨_, 0, end_p hc, end_d hc⟩
theorem add_both (n k : Int) : ∃ a e : Int, Gives Tryd.prog 23 #[.int .i64 n, .int .i64 k] (.tuple #[.int .i64 a, .int .i64 e]) ∧ Gives Tryd.prog 24 #[.int .i64 n, .int .i64 k] (.tuple #[.int .i64 a, .int .i64 e]) := by
  by_cases h : n < 0 ∨ 73048 < n
  · exact ⟨0, 50, add_out_p n k h, add_out_d n k h⟩
  · obtain ⟨y, m, d, hc⟩ := civil_of (n := n) (by omega) (by omega)
    have g1 := add_p hc k
    have g2 := add_d hc k
    unfold addR at g1 g2
    split at g1
    · rename_i hk
      rw [if_pos hk] at g2
      exact ⟨_, 0, g1, g2⟩
    · rename_i hk
      rw [if_neg hk] at g2
      exact ⟨0, 51, g1, g2⟩
theorem format_both [Outer] (hT : HasTab) (n : Int) : ∃ (s : ByteArray) (e : Int), Reads Tryd.prog 31 #[.int .i64 n] (.tuple #[.string s, .int .i64 e]) ∧ Gives Tryd.prog 32 #[.int .i64 n] (.tuple #[.string s, .int .i64 e]) := by
  by_cases h : n < 0 ∨ 73048 < n
  · exact ⟨_, 50, format_out_p n h, format_out_d n h⟩
  · obtain ⟨y, m, d, hc⟩ := civil_of (n := n) (by omega) (by omega)
    exact ⟨_, 0, format_p hT hc, format_d hc⟩
theorem week_form (n : Int) : ∃ a e : Int, weekR n = .tuple #[.int .i64 a, .int .i64 e] := by unfold weekR; split <;> exact ⟨_, _, rfl⟩
theorem length_form (y m : Int) : ∃ a e : Int, lengthR y m = .tuple #[.int .i64 a, .int .i64 e] := by unfold lengthR; split <;> exact ⟨_, _, rfl⟩
theorem parse_form (l : List UInt8) : ∃ a e : Int, parseR l = .tuple #[.int .i64 a, .int .i64 e] := by
  unfold parseR; split
  · exact fromR_form _ _ _
  · exact ⟨_, _, rfl⟩

theorem c1 : IsCivil 8796 2024 1 31 := ⟨by decide, by decide, by decide, by decide, by decide, by decide +kernel, by decide +kernel⟩
theorem c2 : IsCivil 9190 2025 2 28 := ⟨by decide, by decide, by decide, by decide, by decide, by decide +kernel, by decide +kernel⟩
theorem known_reads [Outer] (hT : HasTab) : Reads Tryd.prog 25 #[] (.bool true) := fun w hr => by
  have g1 := from_p 2000 2 29
  rw [show fromR 2000 2 29 = .tuple #[.int .i64 59, .int .i64 0] by kernel_rfl] at g1
  have g2 := from_p 2100 2 29
  rw [show fromR 2100 2 29 = .tuple #[.int .i64 0, .int .i64 51] by kernel_rfl] at g2
  have g3 := week_p 0
  rw [show weekR 0 = .tuple #[.int .i64 5, .int .i64 0] by kernel_rfl] at g3
  have g4 := parse_p [50, 48, 50, 52, 45, 48, 49, 45, 51, 49]
  rw [show parseR [50, 48, 50, 52, 45, 48, 49, 45, 51, 49] = .tuple #[.int .i64 8796, .int .i64 0] by kernel_rfl] at g4
  have g5 := add_p c1 13
  rw [show addR 2024 1 31 13 = .tuple #[.int .i64 9190, .int .i64 0] by kernel_rfl] at g5
  have g6 := format_p hT c2
  rw [show textR 2025 2 28 = .tuple #[.string ⟨#[50, 48, 50, 53, 45, 48, 50, 45, 50, 56]⟩, .int .i64 0] by kernel_rfl] at g6
  have main : evDen Tryd.prog (fun ρ' => (∀ x ∈ tiKnown_asm, x.1.den (env ρ') = x.2) ∧ ∀ β, tiKnown_out.val.den (env ρ') β = .bool true) tiKnown_evs [] := by
    unfold tiKnown_evs
    refine ev_call [.int .i64 59, .int .i64 0] rfl rfl (pure_gives g1) (fun β => by simp [BTm.den, Tm.i, Tm.s, Tm.den, env, vInt, vBool, vStr, exI, SW.den, SV.den, Cell.den, densP, Piece.den, denV, denT]) (fun β => by simp [BTm.den, Tm.i, Tm.s, Tm.den, env, vInt, vBool, vStr, exI, SW.den, SV.den, Cell.den, densP, Piece.den, denV, denT]) ?_
    refine ev_call [.int .i64 0, .int .i64 51] rfl rfl (pure_gives g2) (fun β => by simp [BTm.den, Tm.i, Tm.s, Tm.den, env, vInt, vBool, vStr, exI, SW.den, SV.den, Cell.den, densP, Piece.den, denV, denT]) (fun β => by simp [BTm.den, Tm.i, Tm.s, Tm.den, env, vInt, vBool, vStr, exI, SW.den, SV.den, Cell.den, densP, Piece.den, denV, denT]) ?_
    refine ev_call [.int .i64 5, .int .i64 0] rfl rfl (pure_gives g3) (fun β => by simp [BTm.den, Tm.i, Tm.s, Tm.den, env, vInt, vBool, vStr, exI, SW.den, SV.den, Cell.den, densP, Piece.den, denV, denT]) (fun β => by simp [BTm.den, Tm.i, Tm.s, Tm.den, env, vInt, vBool, vStr, exI, SW.den, SV.den, Cell.den, densP, Piece.den, denV, denT]) ?_
    refine ev_call [.int .i64 8796, .int .i64 0] rfl rfl (pure_gives g4) (fun β => by simp [BTm.den, Tm.i, Tm.s, Tm.den, env, vInt, vBool, vStr, exI, SW.den, SV.den, Cell.den, densP, Piece.den, denV, denT]; rfl) (fun β => by simp [BTm.den, Tm.i, Tm.s, Tm.den, env, vInt, vBool, vStr, exI, SW.den, SV.den, Cell.den, densP, Piece.den, denV, denT]) ?_
    refine ev_call [.int .i64 9190, .int .i64 0] rfl rfl (pure_gives g5) (fun β => by simp [BTm.den, Tm.i, Tm.s, Tm.den, env, vInt, vBool, vStr, exI, SW.den, SV.den, Cell.den, densP, Piece.den, denV, denT]) (fun β => by simp [BTm.den, Tm.i, Tm.s, Tm.den, env, vInt, vBool, vStr, exI, SW.den, SV.den, Cell.den, densP, Piece.den, denV, denT]) ?_
    refine ev_turn [.string ⟨#[50, 48, 50, 53, 45, 48, 50, 45, 50, 56]⟩, .int .i64 0] rfl rfl (fun β _ => Reads.ev g6 (by simp [BTm.den, Tm.i, Tm.s, Tm.den, env, vInt, vBool, vStr, exI, SW.den, SV.den, Cell.den, densP, Piece.den, denV, denT]) (by simp [BTm.den, Tm.i, Tm.s, Tm.den, env, vInt, vBool, vStr, exI, SW.den, SV.den, Cell.den, densP, Piece.den, denV, denT])) ?_
    refine ev_nil ⟨by simp [tiKnown_asm, BTm.den, Tm.i, Tm.s, Tm.den, env, vInt, vBool, vStr, exI], fun β => ?_⟩
    simp [tiKnown_out, BTm.den, Tm.i, Tm.s, Tm.den, env, vInt, vBool, vStr, exI, SW.den, SV.den, Cell.den, densP, Piece.den, denV, denT]
  have h := reads_flat plain [] tiKnown_ok tiKnown_nx (by kernel_rfl) _ main w hr
  simpa [BTm.den, Tm.i, Tm.s, Tm.den, env, vInt, vBool, vStr, exI, SW.den, SV.den, Cell.den, densP, Piece.den, denV, denT] using h
set_option maxHeartbeats 2000000 in
theorem exact_reads [Outer] (hT : HasTab) (n y m d k : Int) (hy : -9223372036854775808 ≤ y ∧ y ≤ 9223372036854775807) :
    Reads Tryd.prog 3 #[.int .i64 n, .int .i64 y, .int .i64 m, .int .i64 d, .int .i64 k] (.bool true) := fun w hr => by
  obtain ⟨f1, f2, ef⟩ := fromR_form y m d
  have g1 := from_p y m d
  have g2 := from_d y m d
  rw [ef] at g1 g2
  obtain ⟨a, b, c, e, g3, g4⟩ := civil_both n
  have g5 := leap_p y hy
  have g6 := leap_d y hy
  obtain ⟨l1, l2, el⟩ := length_form y m
  have g7 := length_p y m
  have g8 := length_d y m
  rw [el] at g7 g8
  obtain ⟨w1, w2, ew⟩ := week_form n
  have g9 := week_p n
  have g10 := week_d n
  rw [ew] at g9 g10
  obtain ⟨x1, x2, g11, g12⟩ := end_both n
  obtain ⟨q1, q2, g13, g14⟩ := add_both n k
  have gk := known_reads hT
  generalize leapI y = L at g5 g6
  cases L
  · have main : evDen Tryd.prog (fun ρ' => (∀ x ∈ tiExactF_asm, x.1.den (env ρ') = x.2) ∧ ∀ β, tiExactF_out.val.den (env ρ') β = .bool true) tiExactF_evs [.int .i64 n, .int .i64 y, .int .i64 m, .int .i64 d, .int .i64 k] := by
      unfold tiExactF_evs
      refine ev_call [.int .i64 f1, .int .i64 f2] rfl rfl (pure_gives g1) (fun β => by simp [BTm.den, Tm.i, Tm.s, Tm.den, env, vInt, vBool, vStr, exI, SW.den, SV.den, Cell.den, densP, Piece.den, denV, denT]) (fun β => by simp [BTm.den, Tm.i, Tm.s, Tm.den, env, vInt, vBool, vStr, exI, SW.den, SV.den, Cell.den, densP, Piece.den, denV, denT]) ?_
      refine ev_call [.int .i64 f1, .int .i64 f2] rfl rfl (pure_gives g2) (fun β => by simp [BTm.den, Tm.i, Tm.s, Tm.den, env, vInt, vBool, vStr, exI, SW.den, SV.den, Cell.den, densP, Piece.den, denV, denT]) (fun β => by simp [BTm.den, Tm.i, Tm.s, Tm.den, env, vInt, vBool, vStr, exI, SW.den, SV.den, Cell.den, densP, Piece.den, denV, denT]) ?_
      refine ev_call [.int .i64 a, .int .i64 b, .int .i64 c, .int .i64 e] rfl rfl (pure_gives g3) (fun β => by simp [BTm.den, Tm.i, Tm.s, Tm.den, env, vInt, vBool, vStr, exI, SW.den, SV.den, Cell.den, densP, Piece.den, denV, denT]) (fun β => by simp [BTm.den, Tm.i, Tm.s, Tm.den, env, vInt, vBool, vStr, exI, SW.den, SV.den, Cell.den, densP, Piece.den, denV, denT]) ?_
      refine ev_call [.int .i64 a, .int .i64 b, .int .i64 c, .int .i64 e] rfl rfl (pure_gives g4) (fun β => by simp [BTm.den, Tm.i, Tm.s, Tm.den, env, vInt, vBool, vStr, exI, SW.den, SV.den, Cell.den, densP, Piece.den, denV, denT]) (fun β => by simp [BTm.den, Tm.i, Tm.s, Tm.den, env, vInt, vBool, vStr, exI, SW.den, SV.den, Cell.den, densP, Piece.den, denV, denT]) ?_
      refine ev_call [.bool false] rfl rfl (pure_gives g5) (fun β => by simp [BTm.den, Tm.i, Tm.s, Tm.den, env, vInt, vBool, vStr, exI, SW.den, SV.den, Cell.den, densP, Piece.den, denV, denT]) (fun β => by simp [BTm.den, Tm.i, Tm.s, Tm.den, env, vInt, vBool, vStr, exI, SW.den, SV.den, Cell.den, densP, Piece.den, denV, denT]) ?_
      refine ev_call [.bool false] rfl rfl (pure_gives g6) (fun β => by simp [BTm.den, Tm.i, Tm.s, Tm.den, env, vInt, vBool, vStr, exI, SW.den, SV.den, Cell.den, densP, Piece.den, denV, denT]) (fun β => by simp [BTm.den, Tm.i, Tm.s, Tm.den, env, vInt, vBool, vStr, exI, SW.den, SV.den, Cell.den, densP, Piece.den, denV, denT]) ?_
      refine ev_call [.int .i64 l1, .int .i64 l2] rfl rfl (pure_gives g7) (fun β => by simp [BTm.den, Tm.i, Tm.s, Tm.den, env, vInt, vBool, vStr, exI, SW.den, SV.den, Cell.den, densP, Piece.den, denV, denT]) (fun β => by simp [BTm.den, Tm.i, Tm.s, Tm.den, env, vInt, vBool, vStr, exI, SW.den, SV.den, Cell.den, densP, Piece.den, denV, denT]) ?_
      refine ev_call [.int .i64 l1, .int .i64 l2] rfl rfl (pure_gives g8) (fun β => by simp [BTm.den, Tm.i, Tm.s, Tm.den, env, vInt, vBool, vStr, exI, SW.den, SV.den, Cell.den, densP, Piece.den, denV, denT]) (fun β => by simp [BTm.den, Tm.i, Tm.s, Tm.den, env, vInt, vBool, vStr, exI, SW.den, SV.den, Cell.den, densP, Piece.den, denV, denT]) ?_
      refine ev_call [.int .i64 w1, .int .i64 w2] rfl rfl (pure_gives g9) (fun β => by simp [BTm.den, Tm.i, Tm.s, Tm.den, env, vInt, vBool, vStr, exI, SW.den, SV.den, Cell.den, densP, Piece.den, denV, denT]) (fun β => by simp [BTm.den, Tm.i, Tm.s, Tm.den, env, vInt, vBool, vStr, exI, SW.den, SV.den, Cell.den, densP, Piece.den, denV, denT]) ?_
      refine ev_call [.int .i64 w1, .int .i64 w2] rfl rfl (pure_gives g10) (fun β => by simp [BTm.den, Tm.i, Tm.s, Tm.den, env, vInt, vBool, vStr, exI, SW.den, SV.den, Cell.den, densP, Piece.den, denV, denT]) (fun β => by simp [BTm.den, Tm.i, Tm.s, Tm.den, env, vInt, vBool, vStr, exI, SW.den, SV.den, Cell.den, densP, Piece.den, denV, denT]) ?_
      refine ev_call [.int .i64 x1, .int .i64 x2] rfl rfl (pure_gives g11) (fun β => by simp [BTm.den, Tm.i, Tm.s, Tm.den, env, vInt, vBool, vStr, exI, SW.den, SV.den, Cell.den, densP, Piece.den, denV, denT]) (fun β => by simp [BTm.den, Tm.i, Tm.s, Tm.den, env, vInt, vBool, vStr, exI, SW.den, SV.den, Cell.den, densP, Piece.den, denV, denT]) ?_
      refine ev_call [.int .i64 x1, .int .i64 x2] rfl rfl (pure_gives g12) (fun β => by simp [BTm.den, Tm.i, Tm.s, Tm.den, env, vInt, vBool, vStr, exI, SW.den, SV.den, Cell.den, densP, Piece.den, denV, denT]) (fun β => by simp [BTm.den, Tm.i, Tm.s, Tm.den, env, vInt, vBool, vStr, exI, SW.den, SV.den, Cell.den, densP, Piece.den, denV, denT]) ?_
      refine ev_call [.int .i64 q1, .int .i64 q2] rfl rfl (pure_gives g13) (fun β => by simp [BTm.den, Tm.i, Tm.s, Tm.den, env, vInt, vBool, vStr, exI, SW.den, SV.den, Cell.den, densP, Piece.den, denV, denT]) (fun β => by simp [BTm.den, Tm.i, Tm.s, Tm.den, env, vInt, vBool, vStr, exI, SW.den, SV.den, Cell.den, densP, Piece.den, denV, denT]) ?_
      refine ev_call [.int .i64 q1, .int .i64 q2] rfl rfl (pure_gives g14) (fun β => by simp [BTm.den, Tm.i, Tm.s, Tm.den, env, vInt, vBool, vStr, exI, SW.den, SV.den, Cell.den, densP, Piece.den, denV, denT]) (fun β => by simp [BTm.den, Tm.i, Tm.s, Tm.den, env, vInt, vBool, vStr, exI, SW.den, SV.den, Cell.den, densP, Piece.den, denV, denT]) ?_
      refine ev_turn [.bool true] rfl rfl (fun β _ => Reads.ev gk (by simp [BTm.den, Tm.i, Tm.s, Tm.den, env, vInt, vBool, vStr, exI, SW.den, SV.den, Cell.den, densP, Piece.den, denV, denT]) (by simp [BTm.den, Tm.i, Tm.s, Tm.den, env, vInt, vBool, vStr, exI, SW.den, SV.den, Cell.den, densP, Piece.den, denV, denT])) ?_
      refine ev_nil ⟨by simp [tiExactF_asm, BTm.den, Tm.i, Tm.s, Tm.den, env, vInt, vBool, vStr, exI], fun β => ?_⟩
      simp [tiExactF_out, BTm.den, Tm.i, Tm.s, Tm.den, env, vInt, vBool, vStr, exI, SW.den, SV.den, Cell.den, densP, Piece.den, denV, denT]
    have h := reads_flat plain [.int .i64 n, .int .i64 y, .int .i64 m, .int .i64 d, .int .i64 k] tiExactF_ok tiExactF_nx (by kernel_rfl) _ main w hr
    simpa [intW, BTm.den, Tm.i, Tm.s, Tm.den, env, vInt, vBool, vStr, exI, SW.den, SV.den, Cell.den, densP, Piece.den, denV, denT] using h
  · have main : evDen Tryd.prog (fun ρ' => (∀ x ∈ tiExact_asm, x.1.den (env ρ') = x.2) ∧ ∀ β, tiExact_out.val.den (env ρ') β = .bool true) tiExact_evs [.int .i64 n, .int .i64 y, .int .i64 m, .int .i64 d, .int .i64 k] := by
      unfold tiExact_evs
      refine ev_call [.int .i64 f1, .int .i64 f2] rfl rfl (pure_gives g1) (fun β => by simp [BTm.den, Tm.i, Tm.s, Tm.den, env, vInt, vBool, vStr, exI, SW.den, SV.den, Cell.den, densP, Piece.den, denV, denT]) (fun β => by simp [BTm.den, Tm.i, Tm.s, Tm.den, env, vInt, vBool, vStr, exI, SW.den, SV.den, Cell.den, densP, Piece.den, denV, denT]) ?_
      refine ev_call [.int .i64 f1, .int .i64 f2] rfl rfl (pure_gives g2) (fun β => by simp [BTm.den, Tm.i, Tm.s, Tm.den, env, vInt, vBool, vStr, exI, SW.den, SV.den, Cell.den, densP, Piece.den, denV, denT]) (fun β => by simp [BTm.den, Tm.i, Tm.s, Tm.den, env, vInt, vBool, vStr, exI, SW.den, SV.den, Cell.den, densP, Piece.den, denV, denT]) ?_
      refine ev_call [.int .i64 a, .int .i64 b, .int .i64 c, .int .i64 e] rfl rfl (pure_gives g3) (fun β => by simp [BTm.den, Tm.i, Tm.s, Tm.den, env, vInt, vBool, vStr, exI, SW.den, SV.den, Cell.den, densP, Piece.den, denV, denT]) (fun β => by simp [BTm.den, Tm.i, Tm.s, Tm.den, env, vInt, vBool, vStr, exI, SW.den, SV.den, Cell.den, densP, Piece.den, denV, denT]) ?_
      refine ev_call [.int .i64 a, .int .i64 b, .int .i64 c, .int .i64 e] rfl rfl (pure_gives g4) (fun β => by simp [BTm.den, Tm.i, Tm.s, Tm.den, env, vInt, vBool, vStr, exI, SW.den, SV.den, Cell.den, densP, Piece.den, denV, denT]) (fun β => by simp [BTm.den, Tm.i, Tm.s, Tm.den, env, vInt, vBool, vStr, exI, SW.den, SV.den, Cell.den, densP, Piece.den, denV, denT]) ?_
      refine ev_call [.bool true] rfl rfl (pure_gives g5) (fun β => by simp [BTm.den, Tm.i, Tm.s, Tm.den, env, vInt, vBool, vStr, exI, SW.den, SV.den, Cell.den, densP, Piece.den, denV, denT]) (fun β => by simp [BTm.den, Tm.i, Tm.s, Tm.den, env, vInt, vBool, vStr, exI, SW.den, SV.den, Cell.den, densP, Piece.den, denV, denT]) ?_
      refine ev_call [.bool true] rfl rfl (pure_gives g6) (fun β => by simp [BTm.den, Tm.i, Tm.s, Tm.den, env, vInt, vBool, vStr, exI, SW.den, SV.den, Cell.den, densP, Piece.den, denV, denT]) (fun β => by simp [BTm.den, Tm.i, Tm.s, Tm.den, env, vInt, vBool, vStr, exI, SW.den, SV.den, Cell.den, densP, Piece.den, denV, denT]) ?_
      refine ev_call [.int .i64 l1, .int .i64 l2] rfl rfl (pure_gives g7) (fun β => by simp [BTm.den, Tm.i, Tm.s, Tm.den, env, vInt, vBool, vStr, exI, SW.den, SV.den, Cell.den, densP, Piece.den, denV, denT]) (fun β => by simp [BTm.den, Tm.i, Tm.s, Tm.den, env, vInt, vBool, vStr, exI, SW.den, SV.den, Cell.den, densP, Piece.den, denV, denT]) ?_
      refine ev_call [.int .i64 l1, .int .i64 l2] rfl rfl (pure_gives g8) (fun β => by simp [BTm.den, Tm.i, Tm.s, Tm.den, env, vInt, vBool, vStr, exI, SW.den, SV.den, Cell.den, densP, Piece.den, denV, denT]) (fun β => by simp [BTm.den, Tm.i, Tm.s, Tm.den, env, vInt, vBool, vStr, exI, SW.den, SV.den, Cell.den, densP, Piece.den, denV, denT]) ?_
      refine ev_call [.int .i64 w1, .int .i64 w2] rfl rfl (pure_gives g9) (fun β => by simp [BTm.den, Tm.i, Tm.s, Tm.den, env, vInt, vBool, vStr, exI, SW.den, SV.den, Cell.den, densP, Piece.den, denV, denT]) (fun β => by simp [BTm.den, Tm.i, Tm.s, Tm.den, env, vInt, vBool, vStr, exI, SW.den, SV.den, Cell.den, densP, Piece.den, denV, denT]) ?_
      refine ev_call [.int .i64 w1, .int .i64 w2] rfl rfl (pure_gives g10) (fun β => by simp [BTm.den, Tm.i, Tm.s, Tm.den, env, vInt, vBool, vStr, exI, SW.den, SV.den, Cell.den, densP, Piece.den, denV, denT]) (fun β => by simp [BTm.den, Tm.i, Tm.s, Tm.den, env, vInt, vBool, vStr, exI, SW.den, SV.den, Cell.den, densP, Piece.den, denV, denT]) ?_
      refine ev_call [.int .i64 x1, .int .i64 x2] rfl rfl (pure_gives g11) (fun β => by simp [BTm.den, Tm.i, Tm.s, Tm.den, env, vInt, vBool, vStr, exI, SW.den, SV.den, Cell.den, densP, Piece.den, denV, denT]) (fun β => by simp [BTm.den, Tm.i, Tm.s, Tm.den, env, vInt, vBool, vStr, exI, SW.den, SV.den, Cell.den, densP, Piece.den, denV, denT]) ?_
      refine ev_call [.int .i64 x1, .int .i64 x2] rfl rfl (pure_gives g12) (fun β => by simp [BTm.den, Tm.i, Tm.s, Tm.den, env, vInt, vBool, vStr, exI, SW.den, SV.den, Cell.den, densP, Piece.den, denV, denT]) (fun β => by simp [BTm.den, Tm.i, Tm.s, Tm.den, env, vInt, vBool, vStr, exI, SW.den, SV.den, Cell.den, densP, Piece.den, denV, denT]) ?_
      refine ev_call [.int .i64 q1, .int .i64 q2] rfl rfl (pure_gives g13) (fun β => by simp [BTm.den, Tm.i, Tm.s, Tm.den, env, vInt, vBool, vStr, exI, SW.den, SV.den, Cell.den, densP, Piece.den, denV, denT]) (fun β => by simp [BTm.den, Tm.i, Tm.s, Tm.den, env, vInt, vBool, vStr, exI, SW.den, SV.den, Cell.den, densP, Piece.den, denV, denT]) ?_
      refine ev_call [.int .i64 q1, .int .i64 q2] rfl rfl (pure_gives g14) (fun β => by simp [BTm.den, Tm.i, Tm.s, Tm.den, env, vInt, vBool, vStr, exI, SW.den, SV.den, Cell.den, densP, Piece.den, denV, denT]) (fun β => by simp [BTm.den, Tm.i, Tm.s, Tm.den, env, vInt, vBool, vStr, exI, SW.den, SV.den, Cell.den, densP, Piece.den, denV, denT]) ?_
      refine ev_turn [.bool true] rfl rfl (fun β _ => Reads.ev gk (by simp [BTm.den, Tm.i, Tm.s, Tm.den, env, vInt, vBool, vStr, exI, SW.den, SV.den, Cell.den, densP, Piece.den, denV, denT]) (by simp [BTm.den, Tm.i, Tm.s, Tm.den, env, vInt, vBool, vStr, exI, SW.den, SV.den, Cell.den, densP, Piece.den, denV, denT])) ?_
      refine ev_nil ⟨by simp [tiExact_asm, BTm.den, Tm.i, Tm.s, Tm.den, env, vInt, vBool, vStr, exI], fun β => ?_⟩
      simp [tiExact_out, BTm.den, Tm.i, Tm.s, Tm.den, env, vInt, vBool, vStr, exI, SW.den, SV.den, Cell.den, densP, Piece.den, denV, denT]
    have h := reads_flat plain [.int .i64 n, .int .i64 y, .int .i64 m, .int .i64 d, .int .i64 k] tiExact_ok tiExact_nx (by kernel_rfl) _ main w hr
    simpa [intW, BTm.den, Tm.i, Tm.s, Tm.den, env, vInt, vBool, vStr, exI, SW.den, SV.den, Cell.den, densP, Piece.den, denV, denT] using h
theorem texts_reads [Outer] (hT : HasTab) (s : ByteArray) (n : Int) (hs : s.size ≤ 9223372036854775807) :
    Reads Tryd.prog 5 #[.string s, .int .i64 n] (.bool true) := fun w hr => by
  obtain ⟨l, rfl⟩ : ∃ l, s = bs l := ⟨_, (bs_L s).symm⟩
  obtain ⟨p1, p2, ep⟩ := parse_form l
  have g1 := parse_p l
  have g2 := parse_d l
  rw [ep] at g1 g2
  obtain ⟨t, e, g3, g4⟩ := format_both hT n
  have gk := known_reads hT
  have main : evDen Tryd.prog (fun ρ' => (∀ x ∈ tiTexts_asm, x.1.den (env ρ') = x.2) ∧ ∀ β, tiTexts_out.val.den (env ρ') β = .bool true) tiTexts_evs [.string (bs l), .int .i64 n] := by
    unfold tiTexts_evs
    refine ev_call [.int .i64 p1, .int .i64 p2] rfl rfl (pure_gives g1) (fun β => by simp [BTm.den, Tm.i, Tm.s, Tm.den, env, vInt, vBool, vStr, exI, SW.den, SV.den, Cell.den, densP, Piece.den, denV, denT]) (fun β => by simp [BTm.den, Tm.i, Tm.s, Tm.den, env, vInt, vBool, vStr, exI, SW.den, SV.den, Cell.den, densP, Piece.den, denV, denT]) ?_
    refine ev_call [.int .i64 p1, .int .i64 p2] rfl rfl (pure_gives g2) (fun β => by simp [BTm.den, Tm.i, Tm.s, Tm.den, env, vInt, vBool, vStr, exI, SW.den, SV.den, Cell.den, densP, Piece.den, denV, denT]) (fun β => by simp [BTm.den, Tm.i, Tm.s, Tm.den, env, vInt, vBool, vStr, exI, SW.den, SV.den, Cell.den, densP, Piece.den, denV, denT]) ?_
    refine ev_turn [.string t, .int .i64 e] rfl rfl (fun β _ => Reads.ev g3 (by simp [BTm.den, Tm.i, Tm.s, Tm.den, env, vInt, vBool, vStr, exI, SW.den, SV.den, Cell.den, densP, Piece.den, denV, denT]) (by simp [BTm.den, Tm.i, Tm.s, Tm.den, env, vInt, vBool, vStr, exI, SW.den, SV.den, Cell.den, densP, Piece.den, denV, denT])) ?_
    refine ev_call [.string t, .int .i64 e] rfl rfl (pure_gives g4) (fun β => by simp [BTm.den, Tm.i, Tm.s, Tm.den, env, vInt, vBool, vStr, exI, SW.den, SV.den, Cell.den, densP, Piece.den, denV, denT]) (fun β => by simp [BTm.den, Tm.i, Tm.s, Tm.den, env, vInt, vBool, vStr, exI, SW.den, SV.den, Cell.den, densP, Piece.den, denV, denT]) ?_
    refine ev_turn [.bool true] rfl rfl (fun β _ => Reads.ev gk (by simp [BTm.den, Tm.i, Tm.s, Tm.den, env, vInt, vBool, vStr, exI, SW.den, SV.den, Cell.den, densP, Piece.den, denV, denT]) (by simp [BTm.den, Tm.i, Tm.s, Tm.den, env, vInt, vBool, vStr, exI, SW.den, SV.den, Cell.den, densP, Piece.den, denV, denT])) ?_
    refine ev_nil ⟨by simp [tiTexts_asm, BTm.den, Tm.i, Tm.s, Tm.den, env, vInt, vBool, vStr, exI], fun β => ?_⟩
    simp [tiTexts_out, BTm.den, Tm.i, Tm.s, Tm.den, env, vInt, vBool, vStr, exI, SW.den, SV.den, Cell.den, densP, Piece.den, denV, denT]
  have h := reads_flat plain [.string (bs l), .int .i64 n] tiTexts_ok tiTexts_nx (by kernel_rfl) _ main w hr
  simpa [intW, strW, BTm.den, Tm.i, Tm.s, Tm.den, env, vInt, vBool, vStr, exI, SW.den, SV.den, Cell.den, densP, Piece.den, denV, denT] using h
theorem weeks_reads [Outer] (hT : HasTab) (n : Int) (hn : -9223372036854775808 ≤ n ∧ n ≤ 9223372036854775807) :
    Reads Tryd.prog 8 #[.int .i64 n] (.bool true) := fun w hr => by
  have g0 := fold_any n 73048 hn (by omega)
  have b := foldv_range (v := n) (n := 73048) (by omega)
  generalize foldv n 73048 = z at g0 b
  have g1 := week_p z
  have g2 := week_p (z + 1)
  unfold weekR at g1 g2
  rw [if_pos (by omega)] at g1 g2
  have gk := known_reads hT
  have e : ((z + 5) % 7 + 1).tmod 7 = (z + 1 + 5) % 7 := by rw [Int.tmod_eq_emod_of_nonneg (by omega)]; omega
  have b1 : 0 ≤ (z + 5) % 7 ∧ (z + 5) % 7 < 7 := by omega
  have b2 : 0 ≤ (z + 1 + 5) % 7 ∧ (z + 1 + 5) % 7 < 7 := by omega
  generalize (z + 5) % 7 = u at *
  generalize (z + 1 + 5) % 7 = v at *
  have main : evDen Tryd.prog (fun ρ' => (∀ x ∈ tiWeeks_asm, x.1.den (env ρ') = x.2) ∧ ∀ β, tiWeeks_out.val.den (env ρ') β = .bool true) tiWeeks_evs [.int .i64 n] := by
    unfold tiWeeks_evs
    refine ev_call [.int .i64 z] rfl rfl (pure_gives g0) (fun β => by simp [BTm.den, Tm.i, Tm.s, Tm.den, env, vInt, vBool, vStr, exI, SW.den, SV.den, Cell.den, densP, Piece.den, denV, denT]) (fun β => by simp [BTm.den, Tm.i, Tm.s, Tm.den, env, vInt, vBool, vStr, exI, SW.den, SV.den, Cell.den, densP, Piece.den, denV, denT]) ?_
    refine ev_call [.int .i64 u, .int .i64 0] rfl rfl (pure_gives g1) (fun β => by simp [BTm.den, Tm.i, Tm.s, Tm.den, env, vInt, vBool, vStr, exI, SW.den, SV.den, Cell.den, densP, Piece.den, denV, denT]) (fun β => by simp [BTm.den, Tm.i, Tm.s, Tm.den, env, vInt, vBool, vStr, exI, SW.den, SV.den, Cell.den, densP, Piece.den, denV, denT]) ?_
    refine ev_fits (z + 1) (by simp [BTm.den, Tm.i, Tm.s, Tm.den, env, vInt, vBool, vStr, exI]) (rng_i64 _ (by omega)) ?_
    refine ev_call [.int .i64 v, .int .i64 0] rfl rfl (pure_gives g2) (fun β => by simp [BTm.den, Tm.i, Tm.s, Tm.den, env, vInt, vBool, vStr, exI, SW.den, SV.den, Cell.den, densP, Piece.den, denV, denT]) (fun β => by simp [BTm.den, Tm.i, Tm.s, Tm.den, env, vInt, vBool, vStr, exI, SW.den, SV.den, Cell.den, densP, Piece.den, denV, denT]) ?_
    refine ev_turn [.bool true] rfl rfl (fun β _ => Reads.ev gk (by simp [BTm.den, Tm.i, Tm.s, Tm.den, env, vInt, vBool, vStr, exI, SW.den, SV.den, Cell.den, densP, Piece.den, denV, denT]) (by simp [BTm.den, Tm.i, Tm.s, Tm.den, env, vInt, vBool, vStr, exI, SW.den, SV.den, Cell.den, densP, Piece.den, denV, denT])) ?_
    refine ev_fits (u + 1) (by simp [BTm.den, Tm.i, Tm.s, Tm.den, env, vInt, vBool, vStr, exI]) (rng_i64 _ (by omega)) ?_
    refine ev_fits v (by simp [BTm.den, Tm.i, Tm.s, Tm.den, env, vInt, vBool, vStr, exI, e]) (rng_i64 _ (by omega)) ?_
    refine ev_nil ⟨by simp [tiWeeks_asm, BTm.den, Tm.i, Tm.s, Tm.den, env, vInt, vBool, vStr, exI]; omega, fun β => ?_⟩
    simp [tiWeeks_out, BTm.den, Tm.i, Tm.s, Tm.den, env, vInt, vBool, vStr, exI, SW.den, SV.den, Cell.den, densP, Piece.den, denV, denT, e]
  have h := reads_flat plain [.int .i64 n] tiWeeks_ok tiWeeks_nx (by kernel_rfl) _ main w hr
  simpa [intW, BTm.den, Tm.i, Tm.s, Tm.den, env, vInt, vBool, vStr, exI, SW.den, SV.den, Cell.den, densP, Piece.den, denV, denT] using h
/-- The first day behind the end of a month. -/
theorem IsCivil.next {n y m d : Int} (h : IsCivil n y m d) (hn : endZ y m + 1 ≤ 73048) : ∃ y' m', IsCivil (endZ y m + 1) y' m' 1 ∧ ((m < 12 ∧ y' = y ∧ m' = m + 1) ∨ (m = 12 ∧ y' = y + 1 ∧ m' = 1)) := by
  have y1 := h.y1; have y2 := h.y2; have m1 := h.m1; have m2 := h.m2
  have b := ml_ge (leapI y) m1 m2
  by_cases hm : m < 12
  · have b2 := ml_ge (leapI y) (m := m + 1) (by omega) (by omega)
    have e := mb_step (leapI y) m
    refine ⟨y, m + 1, ⟨y1, y2, by omega, by omega, by omega, by omega, ?_⟩, .inl ⟨hm, rfl, rfl⟩⟩
    unfold endZ; omega
  · have hm : m = 12 := by omega
    subst hm
    have e := ny_step (y := y) (by omega)
    have e2 := mb_step (leapI y) 12
    rw [show (12 : Int) + 1 = 13 by rfl, mb_13] at e2
    have hy : y ≠ 2199 := by
      intro he; subst he
      have : endZ 2199 12 = 73048 := by decide +kernel
      omega
    have b2 := ml_ge (leapI (y + 1)) (m := 1) (by omega) (by omega)
    refine ⟨y + 1, 1, ⟨by omega, by omega, by omega, by omega, by omega, by omega, ?_⟩, .inr ⟨rfl, rfl, rfl⟩⟩
    rw [mb_1]; unfold endZ; omega
theorem ends_reads [Outer] (hT : HasTab) (n : Int) (hn : -9223372036854775808 ≤ n ∧ n ≤ 9223372036854775807) :
    Reads Tryd.prog 10 #[.int .i64 n] (.bool true) := fun w hr => by
  have g0 := fold_any n 73017 hn (by omega)
  have b := foldv_range (v := n) (n := 73017) (by omega)
  generalize foldv n 73017 = z at g0 b
  obtain ⟨y, m, d, hc⟩ := civil_of (n := z) (by omega) (by omega)
  have b1 := ml_ge (leapI y) hc.m1 hc.m2
  have hb : endZ y m < z + 31 ∧ z ≤ endZ y m := by
    have := hc.e; have := hc.d1; have := hc.d2
    unfold endZ; omega
  obtain ⟨y', m', hc', _⟩ := hc.next (by omega)
  have g1 := end_p hc
  have g2 := civil_p hc
  have g3 := civil_p hc.last
  have g4 := civil_p hc'
  have g5 := length_p y m
  unfold lengthR at g5
  rw [if_pos ⟨hc.y1, hc.y2, hc.m1, hc.m2⟩] at g5
  have gk := known_reads hT
  generalize endZ y m = x at *
  generalize ml (leapI y) m = k at *
  have main : evDen Tryd.prog (fun ρ' => (∀ x ∈ tiEnds_asm, x.1.den (env ρ') = x.2) ∧ ∀ β, tiEnds_out.val.den (env ρ') β = .bool true) tiEnds_evs [.int .i64 n] := by
    unfold tiEnds_evs
    refine ev_call [.int .i64 z] rfl rfl (pure_gives g0) (fun β => by simp [BTm.den, Tm.i, Tm.s, Tm.den, env, vInt, vBool, vStr, exI, SW.den, SV.den, Cell.den, densP, Piece.den, denV, denT]) (fun β => by simp [BTm.den, Tm.i, Tm.s, Tm.den, env, vInt, vBool, vStr, exI, SW.den, SV.den, Cell.den, densP, Piece.den, denV, denT]) ?_
    refine ev_call [.int .i64 x, .int .i64 0] rfl rfl (pure_gives g1) (fun β => by simp [BTm.den, Tm.i, Tm.s, Tm.den, env, vInt, vBool, vStr, exI, SW.den, SV.den, Cell.den, densP, Piece.den, denV, denT]) (fun β => by simp [BTm.den, Tm.i, Tm.s, Tm.den, env, vInt, vBool, vStr, exI, SW.den, SV.den, Cell.den, densP, Piece.den, denV, denT, ok2]) ?_
    refine ev_call [.int .i64 y, .int .i64 m, .int .i64 d, .int .i64 0] rfl rfl (pure_gives g2) (fun β => by simp [BTm.den, Tm.i, Tm.s, Tm.den, env, vInt, vBool, vStr, exI, SW.den, SV.den, Cell.den, densP, Piece.den, denV, denT]) (fun β => by simp [BTm.den, Tm.i, Tm.s, Tm.den, env, vInt, vBool, vStr, exI, SW.den, SV.den, Cell.den, densP, Piece.den, denV, denT, civilV]) ?_
    refine ev_call [.int .i64 y, .int .i64 m, .int .i64 k, .int .i64 0] rfl rfl (pure_gives g3) (fun β => by simp [BTm.den, Tm.i, Tm.s, Tm.den, env, vInt, vBool, vStr, exI, SW.den, SV.den, Cell.den, densP, Piece.den, denV, denT]) (fun β => by simp [BTm.den, Tm.i, Tm.s, Tm.den, env, vInt, vBool, vStr, exI, SW.den, SV.den, Cell.den, densP, Piece.den, denV, denT, civilV]) ?_
    refine ev_fits (x + 1) (by simp [BTm.den, Tm.i, Tm.s, Tm.den, env, vInt, vBool, vStr, exI]) (rng_i64 _ (by omega)) ?_
    refine ev_call [.int .i64 y', .int .i64 m', .int .i64 1, .int .i64 0] rfl rfl (pure_gives g4) (fun β => by simp [BTm.den, Tm.i, Tm.s, Tm.den, env, vInt, vBool, vStr, exI, SW.den, SV.den, Cell.den, densP, Piece.den, denV, denT]) (fun β => by simp [BTm.den, Tm.i, Tm.s, Tm.den, env, vInt, vBool, vStr, exI, SW.den, SV.den, Cell.den, densP, Piece.den, denV, denT, civilV]) ?_
    refine ev_call [.int .i64 k, .int .i64 0] rfl rfl (pure_gives g5) (fun β => by simp [BTm.den, Tm.i, Tm.s, Tm.den, env, vInt, vBool, vStr, exI, SW.den, SV.den, Cell.den, densP, Piece.den, denV, denT]) (fun β => by simp [BTm.den, Tm.i, Tm.s, Tm.den, env, vInt, vBool, vStr, exI, SW.den, SV.den, Cell.den, densP, Piece.den, denV, denT]) ?_
    refine ev_turn [.bool true] rfl rfl (fun β _ => Reads.ev gk (by simp [BTm.den, Tm.i, Tm.s, Tm.den, env, vInt, vBool, vStr, exI, SW.den, SV.den, Cell.den, densP, Piece.den, denV, denT]) (by simp [BTm.den, Tm.i, Tm.s, Tm.den, env, vInt, vBool, vStr, exI, SW.den, SV.den, Cell.den, densP, Piece.den, denV, denT])) ?_
    refine ev_nil ⟨by simp [tiEnds_asm, BTm.den, Tm.i, Tm.s, Tm.den, env, vInt, vBool, vStr, exI], fun β => ?_⟩
    simp [tiEnds_out, BTm.den, Tm.i, Tm.s, Tm.den, env, vInt, vBool, vStr, exI, SW.den, SV.den, Cell.den, densP, Piece.den, denV, denT]; omega
  have h := reads_flat plain [.int .i64 n] tiEnds_ok tiEnds_nx (by kernel_rfl) _ main w hr
  simpa [intW, BTm.den, Tm.i, Tm.s, Tm.den, env, vInt, vBool, vStr, exI, SW.den, SV.den, Cell.den, densP, Piece.den, denV, denT] using h
end Go.Proofs.YteemnnajfiimlaaDoor
