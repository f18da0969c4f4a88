/- Both calendars' steps: leap years, days before a year and a month, lengths. -/
import Derived.Test.YteemnnajfiimlaaDoorSxP
import Derived.Test.YteemnnajfiimlaaDoorJa
import Derived.Test.YteemnnajfiimlaaDoorJd
namespace Go.Proofs.YteemnnajfiimlaaDoor
open Go.RowKit Go.Proofs.YteemnnajfiimlaaDoor.Sx
set_option linter.unusedSimpArgs false
set_option linter.unusedVariables false

theorem leap_p (y : Int) (hy : -9223372036854775808 ≤ y ∧ y ≤ 9223372036854775807) : Gives Tryd.prog 15 #[.int .i64 y] (.bool (leapI y)) := by
  have a := Int.tmod_lt_of_pos y (b := 4) (by omega)
  have b := Int.tmod_lt_of_pos y (b := 100) (by omega)
  have c := Int.tmod_lt_of_pos y (b := 400) (by omega)
  have a' := Int.lt_tmod_of_pos y (b := 4) (by omega)
  have b' := Int.lt_tmod_of_pos y (b := 100) (by omega)
  have c' := Int.lt_tmod_of_pos y (b := 400) (by omega)
  have main : tpLeap.den Tryd.prog (fun ρ' ret => ∀ β, ret.val.den (env ρ') β = .bool (leapI y)) [.int .i64 y] := by
    refine tree_ite ?_
    refine ev_fits (y.tmod 4) (by simp [BTm.den, Tm.i, Tm.s, Tm.den, env, vInt, vBool, vStr, exI]) (rng_i64 _ (by omega)) ?_
    refine ev_nil ⟨fun h => tree_ite ?_, fun h => tree_leaf (ev_nil fun β => ?_)⟩
    · have h : y.tmod 4 = 0 := by simpa [BTm.den, Tm.i, Tm.s, Tm.den, env, vInt, vBool, vStr, exI] using h
      refine ev_fits (y.tmod 100) (by simp [BTm.den, Tm.i, Tm.s, Tm.den, env, vInt, vBool, vStr, exI]) (rng_i64 _ (by omega)) ?_
      refine ev_nil ⟨fun h2 => tree_leaf ?_, fun h2 => tree_leaf (ev_nil fun β => ?_)⟩
      · have h2 : y.tmod 100 = 0 := by simpa [BTm.den, Tm.i, Tm.s, Tm.den, env, vInt, vBool, vStr, exI] using h2
        refine ev_fits (y.tmod 400) (by simp [BTm.den, Tm.i, Tm.s, Tm.den, env, vInt, vBool, vStr, exI]) (rng_i64 _ (by omega)) ?_
        refine ev_nil fun β => ?_
        simp [BTm.den, Tm.i, Tm.s, Tm.den, env, vInt, vBool, vStr, exI, SW.den, SV.den, Cell.den, densP, Piece.den, denV, denT, leapI, h, h2]
        rfl
      · have h2 : ¬ y.tmod 100 = 0 := by simpa [BTm.den, Tm.i, Tm.s, Tm.den, env, vInt, vBool, vStr, exI] using h2
        simp [BTm.den, Tm.i, Tm.s, Tm.den, env, vInt, vBool, vStr, exI, SW.den, SV.den, Cell.den, densP, Piece.den, denV, denT, leapI, h, h2]
    · have h : ¬ y.tmod 4 = 0 := by simpa [BTm.den, Tm.i, Tm.s, Tm.den, env, vInt, vBool, vStr, exI] using h
      simp [BTm.den, Tm.i, Tm.s, Tm.den, env, vInt, vBool, vStr, exI, SW.den, SV.den, Cell.den, densP, Piece.den, denV, denT, leapI, h]
  have h := pure_of plain [.int .i64 y] tpLeap_ok (by kernel_rfl) _ main
  refine gives_pure ?_
  simpa [intW, BTm.den, Tm.i, Tm.s, Tm.den, env, vInt, vBool, vStr, exI, SW.den, SV.den, Cell.den, densP, Piece.den, denV, denT] using h
theorem leap_d (y : Int) (hy : -9223372036854775808 ≤ y ∧ y ≤ 9223372036854775807) : Gives Tryd.prog 16 #[.int .i64 y] (.bool (leapI y)) := by
  have a := Int.tmod_lt_of_pos y (b := 4) (by omega)
  have b := Int.tmod_lt_of_pos y (b := 100) (by omega)
  have c := Int.tmod_lt_of_pos y (b := 400) (by omega)
  have a' := Int.lt_tmod_of_pos y (b := 4) (by omega)
  have b' := Int.lt_tmod_of_pos y (b := 100) (by omega)
  have c' := Int.lt_tmod_of_pos y (b := 400) (by omega)
  have main : tdLeap.den Tryd.prog (fun ρ' ret => ∀ β, ret.val.den (env ρ') β = .bool (leapI y)) [.int .i64 y] := by
    refine tree_ite ?_
    refine ev_fits (y.tmod 4) (by simp [BTm.den, Tm.i, Tm.s, Tm.den, env, vInt, vBool, vStr, exI]) (rng_i64 _ (by omega)) ?_
    refine ev_nil ⟨fun h => tree_ite ?_, fun h => tree_leaf (ev_nil fun β => ?_)⟩
    · have h : y.tmod 4 = 0 := by simpa [BTm.den, Tm.i, Tm.s, Tm.den, env, vInt, vBool, vStr, exI] using h
      refine ev_fits (y.tmod 100) (by simp [BTm.den, Tm.i, Tm.s, Tm.den, env, vInt, vBool, vStr, exI]) (rng_i64 _ (by omega)) ?_
      refine ev_nil ⟨fun h2 => tree_leaf ?_, fun h2 => tree_leaf (ev_nil fun β => ?_)⟩
      · have h2 : y.tmod 100 = 0 := by simpa [BTm.den, Tm.i, Tm.s, Tm.den, env, vInt, vBool, vStr, exI] using h2
        refine ev_fits (y.tmod 400) (by simp [BTm.den, Tm.i, Tm.s, Tm.den, env, vInt, vBool, vStr, exI]) (rng_i64 _ (by omega)) ?_
        refine ev_nil fun β => ?_
        simp [BTm.den, Tm.i, Tm.s, Tm.den, env, vInt, vBool, vStr, exI, SW.den, SV.den, Cell.den, densP, Piece.den, denV, denT, leapI, h, h2]
        rfl
      · have h2 : ¬ y.tmod 100 = 0 := by simpa [BTm.den, Tm.i, Tm.s, Tm.den, env, vInt, vBool, vStr, exI] using h2
        simp [BTm.den, Tm.i, Tm.s, Tm.den, env, vInt, vBool, vStr, exI, SW.den, SV.den, Cell.den, densP, Piece.den, denV, denT, leapI, h, h2]
    · have h : ¬ y.tmod 4 = 0 := by simpa [BTm.den, Tm.i, Tm.s, Tm.den, env, vInt, vBool, vStr, exI] using h
      simp [BTm.den, Tm.i, Tm.s, Tm.den, env, vInt, vBool, vStr, exI, SW.den, SV.den, Cell.den, densP, Piece.den, denV, denT, leapI, h]
  have h := pure_of plain [.int .i64 y] tdLeap_ok (by kernel_rfl) _ main
  refine gives_pure ?_
  simpa [intW, BTm.den, Tm.i, Tm.s, Tm.den, env, vInt, vBool, vStr, exI, SW.den, SV.den, Cell.den, densP, Piece.den, denV, denT] using h
set_option maxHeartbeats 2000000 in
theorem before_p (y m : Int) (hy : -9223372036854775808 ≤ y ∧ y ≤ 9223372036854775807) : Gives Tryd.prog 41 #[.int .i64 y, .int .i64 m] (.int .i64 (mb (leapI y) m)) := by
  have g := leap_p y hy
  have main : tpBefore.den Tryd.prog (fun ρ' ret => ∀ β, ret.val.den (env ρ') β = .int .i64 (mb (leapI y) m)) [.int .i64 y, .int .i64 m] := by
    unfold tpBefore
    generalize leapI y = l at g
    repeat' first
      | refine tree_leaf (ev_nil fun β => ?_)
      | refine tree_ite (ev_nil ⟨fun h => ?_, fun h => ?_⟩)
      | refine tree_ite (ev_call [.bool l] rfl rfl (pure_gives g) (fun β => by simp [BTm.den, Tm.i, Tm.s, Tm.den, env, vInt, vBool, vStr, exI, SW.den, SV.den, Cell.den, densP, Piece.den, denV, denT]) (fun β => by simp [BTm.den, Tm.i, Tm.s, Tm.den, env, vInt, vBool, vStr, exI, SW.den, SV.den, Cell.den, densP, Piece.den, denV, denT]) ?_)
      | refine ev_nil ⟨fun h => ?_, fun h => ?_⟩
    all_goals simp [BTm.den, Tm.i, Tm.s, Tm.den, env, vInt, vBool, vStr, exI] at *
    all_goals simp [BTm.den, Tm.i, Tm.s, Tm.den, env, vInt, vBool, vStr, exI, SW.den, SV.den, Cell.den, densP, Piece.den, denV, denT, mb, *, Bool.toInt]
  have h := pure_of plain [.int .i64 y, .int .i64 m] tpBefore_ok (by kernel_rfl) _ main
  refine gives_pure ?_
  simpa [intW, BTm.den, Tm.i, Tm.s, Tm.den, env, vInt, vBool, vStr, exI, SW.den, SV.den, Cell.den, densP, Piece.den, denV, denT] using h
theorem newYear_p (y : Int) (hy : 1 ≤ y ∧ y ≤ 1000000) : Gives Tryd.prog 39 #[.int .i64 y] (.int .i64 (ny y)) := by
  have a : (y - 1).tdiv 4 = (y - 1) / 4 := Int.tdiv_eq_ediv_of_nonneg (by omega)
  have b : (y - 1).tdiv 100 = (y - 1) / 100 := Int.tdiv_eq_ediv_of_nonneg (by omega)
  have c : (y - 1).tdiv 400 = (y - 1) / 400 := Int.tdiv_eq_ediv_of_nonneg (by omega)
  have main : tpNewYear.den Tryd.prog (fun ρ' ret => ∀ β, ret.val.den (env ρ') β = .int .i64 (ny y)) [.int .i64 y] := by
    refine tree_leaf ?_
    refine ev_fits (y - 2000) (by simp [BTm.den, Tm.i, Tm.s, Tm.den, env, vInt, vBool, vStr, exI]) (rng_i64 _ (by omega)) ?_
    refine ev_fits (365 * (y - 2000)) (by simp [BTm.den, Tm.i, Tm.s, Tm.den, env, vInt, vBool, vStr, exI]) (rng_i64 _ (by omega)) ?_
    refine ev_fits (y - 1) (by simp [BTm.den, Tm.i, Tm.s, Tm.den, env, vInt, vBool, vStr, exI]) (rng_i64 _ (by omega)) ?_
    refine ev_fits ((y - 1) / 4) (by simp [BTm.den, Tm.i, Tm.s, Tm.den, env, vInt, vBool, vStr, exI, a]) (rng_i64 _ (by omega)) ?_
    refine ev_fits ((y - 1) / 100) (by simp [BTm.den, Tm.i, Tm.s, Tm.den, env, vInt, vBool, vStr, exI, b]) (rng_i64 _ (by omega)) ?_
    refine ev_fits ((y - 1) / 4 - (y - 1) / 100) (by simp [BTm.den, Tm.i, Tm.s, Tm.den, env, vInt, vBool, vStr, exI, a, b]) (rng_i64 _ (by omega)) ?_
    refine ev_fits ((y - 1) / 400) (by simp [BTm.den, Tm.i, Tm.s, Tm.den, env, vInt, vBool, vStr, exI, c]) (rng_i64 _ (by omega)) ?_
    refine ev_fits ((y - 1) / 4 - (y - 1) / 100 + (y - 1) / 400) (by simp [BTm.den, Tm.i, Tm.s, Tm.den, env, vInt, vBool, vStr, exI, a, b, c]) (rng_i64 _ (by omega)) ?_
    refine ev_fits (365 * (y - 2000) + ((y - 1) / 4 - (y - 1) / 100 + (y - 1) / 400)) (by simp [BTm.den, Tm.i, Tm.s, Tm.den, env, vInt, vBool, vStr, exI, a, b, c]) (rng_i64 _ (by omega)) ?_
    refine ev_fits (ny y) (by simp [BTm.den, Tm.i, Tm.s, Tm.den, env, vInt, vBool, vStr, exI, a, b, c, ny]) (rng_i64 _ (by unfold ny; omega)) ?_
    refine ev_nil fun β => ?_
    simp [BTm.den, Tm.i, Tm.s, Tm.den, env, vInt, vBool, vStr, exI, SW.den, SV.den, Cell.den, densP, Piece.den, denV, denT, a, b, c, ny]
  have h := pure_of plain [.int .i64 y] tpNewYear_ok (by kernel_rfl) _ main
  refine gives_pure ?_
  simpa [intW, BTm.den, Tm.i, Tm.s, Tm.den, env, vInt, vBool, vStr, exI, SW.den, SV.den, Cell.den, densP, Piece.den, denV, denT] using h
theorem ny_bound {y : Int} (hy : 1 ≤ y ∧ y ≤ 1000000) : -1000000 ≤ ny y ∧ ny y ≤ 1000000000 := by unfold ny; omega
theorem first_p (y m : Int) (hy : 1 ≤ y ∧ y ≤ 1000000) : Gives Tryd.prog 36 #[.int .i64 y, .int .i64 m] (.int .i64 (ny y + mb (leapI y) m)) := by
  have h1 := ny_bound hy
  have h2 := mb_bound (leapI y) m
  have main : tpFirst.den Tryd.prog (fun ρ' ret => ∀ β, ret.val.den (env ρ') β = .int .i64 (ny y + mb (leapI y) m)) [.int .i64 y, .int .i64 m] := by
    refine tree_leaf ?_
    refine ev_call [.int .i64 (ny y)] rfl rfl (pure_gives (newYear_p y hy)) (fun β => by simp [BTm.den, Tm.i, Tm.s, Tm.den, env, vInt, vBool, vStr, exI, SW.den, SV.den, Cell.den, densP, Piece.den, denV, rowCells_mgk, iv_list, mgl_agg]) (fun β => by simp [BTm.den, Tm.i, Tm.s, Tm.den, env, vInt, vBool, vStr, exI, SW.den, SV.den, Cell.den, densP, Piece.den, denV, rowCells_mgk, iv_list, mgl_agg]) ?_
    refine ev_call [.int .i64 (mb (leapI y) m)] rfl rfl (pure_gives (before_p y m (by omega))) (fun β => by simp [BTm.den, Tm.i, Tm.s, Tm.den, env, vInt, vBool, vStr, exI, SW.den, SV.den, Cell.den, densP, Piece.den, denV, rowCells_mgk, iv_list, mgl_agg]) (fun β => by simp [BTm.den, Tm.i, Tm.s, Tm.den, env, vInt, vBool, vStr, exI, SW.den, SV.den, Cell.den, densP, Piece.den, denV, rowCells_mgk, iv_list, mgl_agg]) ?_
    refine ev_fits (ny y + mb (leapI y) m) (by simp [BTm.den, Tm.i, Tm.s, Tm.den, env, vInt, vBool, vStr, exI]) (rng_i64 _ (by omega)) ?_
    refine ev_nil fun β => ?_
    simp [BTm.den, Tm.i, Tm.s, Tm.den, env, vInt, vBool, vStr, exI, SW.den, SV.den, Cell.den, densP, Piece.den, denV, denT]
  have h := pure_of plain [.int .i64 y, .int .i64 m] tpFirst_ok (by kernel_rfl) _ main
  refine gives_pure ?_
  simpa [intW, BTm.den, Tm.i, Tm.s, Tm.den, env, vInt, vBool, vStr, exI, SW.den, SV.den, Cell.den, densP, Piece.den, denV, denT] using h
theorem days_d (y : Int) (hy : -9223372036854775808 ≤ y ∧ y ≤ 9223372036854775807) : Gives Tryd.prog 37 #[.int .i64 y] (.int .i64 (365 + (leapI y).toInt)) := by
  have main : tdDays.den Tryd.prog (fun ρ' ret => ∀ β, ret.val.den (env ρ') β = .int .i64 (365 + (leapI y).toInt)) [.int .i64 y] := by
    refine tree_ite ?_
    refine ev_call [.bool (leapI y)] rfl rfl (pure_gives (leap_d y hy)) (fun β => by simp [BTm.den, Tm.i, Tm.s, Tm.den, env, vInt, vBool, vStr, exI, SW.den, SV.den, Cell.den, densP, Piece.den, denV, rowCells_mgk, iv_list, mgl_agg]) (fun β => by simp [BTm.den, Tm.i, Tm.s, Tm.den, env, vInt, vBool, vStr, exI, SW.den, SV.den, Cell.den, densP, Piece.den, denV, rowCells_mgk, iv_list, mgl_agg]) ?_
    refine ev_nil ⟨fun h => tree_leaf (ev_nil fun β => ?_), fun h => tree_leaf (ev_nil fun β => ?_)⟩
    · have h : leapI y = true := by simpa [BTm.den, Tm.i, Tm.s, Tm.den, env, vInt, vBool, vStr, exI] using h
      simp [BTm.den, Tm.i, Tm.s, Tm.den, env, vInt, vBool, vStr, exI, SW.den, SV.den, Cell.den, densP, Piece.den, denV, denT, h, Bool.toInt]
    · have h : leapI y = false := by simpa [BTm.den, Tm.i, Tm.s, Tm.den, env, vInt, vBool, vStr, exI] using h
      simp [BTm.den, Tm.i, Tm.s, Tm.den, env, vInt, vBool, vStr, exI, SW.den, SV.den, Cell.den, densP, Piece.den, denV, denT, h, Bool.toInt]
  have h := pure_of plain [.int .i64 y] tdDays_ok (by kernel_rfl) _ main
  refine gives_pure ?_
  simpa [intW, BTm.den, Tm.i, Tm.s, Tm.den, env, vInt, vBool, vStr, exI, SW.den, SV.den, Cell.den, densP, Piece.den, denV, denT] using h
theorem ml_eq (l : Bool) {m : Int} (hm : 1 ≤ m ∧ m ≤ 12) : ml l m = if m = 2 then 28 + l.toInt else if m = 4 then 30 else if m = 6 then 30 else if m = 9 then 30 else if m = 11 then 30 else 31 := by
  rcases month_cases hm.1 hm.2 with rfl | rfl | rfl | rfl | rfl | rfl | rfl | rfl | rfl | rfl | rfl | rfl <;> cases l <;> decide
theorem len_d (y m : Int) (hy : -9223372036854775808 ≤ y ∧ y ≤ 9223372036854775807) (hm : 1 ≤ m ∧ m ≤ 12) : Gives Tryd.prog 38 #[.int .i64 y, .int .i64 m] (.int .i64 (ml (leapI y) m)) := by
  have g := days_d y hy
  have e := ml_eq (leapI y) hm
  have b := lt01 (leapI y)
  have main : tdLen.den Tryd.prog (fun ρ' ret => ∀ β, ret.val.den (env ρ') β = .int .i64 (ml (leapI y) m)) [.int .i64 y, .int .i64 m] := by
    rw [e]
    generalize (leapI y).toInt = z at *
    unfold tdLen
    repeat' first
      | refine tree_leaf (ev_nil fun β => ?_)
      | refine tree_ite (ev_nil ⟨fun h => ?_, fun h => ?_⟩)
      | refine tree_leaf (ev_call [.int .i64 (365 + z)] rfl rfl (pure_gives g) (fun β => by simp [BTm.den, Tm.i, Tm.s, Tm.den, env, vInt, vBool, vStr, exI, SW.den, SV.den, Cell.den, densP, Piece.den, denV, denT]) (fun β => by simp [BTm.den, Tm.i, Tm.s, Tm.den, env, vInt, vBool, vStr, exI, SW.den, SV.den, Cell.den, densP, Piece.den, denV, denT]) (ev_fits (28 + z) (by simp [BTm.den, Tm.i, Tm.s, Tm.den, env, vInt, vBool, vStr, exI]; omega) (rng_i64 _ (by omega)) (ev_nil fun β => ?_)))
    all_goals simp [BTm.den, Tm.i, Tm.s, Tm.den, env, vInt, vBool, vStr, exI] at *
    all_goals simp [BTm.den, Tm.i, Tm.s, Tm.den, env, vInt, vBool, vStr, exI, SW.den, SV.den, Cell.den, densP, Piece.den, denV, denT, *]
    omega
  have h := pure_of plain [.int .i64 y, .int .i64 m] tdLen_ok (by kernel_rfl) _ main
  refine gives_pure ?_
  simpa [intW, BTm.den, Tm.i, Tm.s, Tm.den, env, vInt, vBool, vStr, exI, SW.den, SV.den, Cell.den, densP, Piece.den, denV, denT] using h
end Go.Proofs.YteemnnajfiimlaaDoor
