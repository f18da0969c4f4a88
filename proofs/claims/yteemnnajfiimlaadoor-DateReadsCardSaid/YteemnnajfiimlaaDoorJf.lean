/- Ends of months, months added: both sides. -/
import Derived.Test.YteemnnajfiimlaaDoorJe
namespace Go.Proofs.YteemnnajfiimlaaDoor
open Go.RowKit Go.Proofs.YteemnnajfiimlaaDoor.Sx
set_option linter.unusedSimpArgs false
set_option linter.unusedVariables false

def err2 (e : Int) : Value := .tuple #[.int .i64 0, .int .i64 e]
def ok2 (z : Int) : Value := .tuple #[.int .i64 z, .int .i64 0]
theorem end_out_p (n : Int) (h : n < 0 ∨ 73048 < n) : Gives Tryd.prog 21 #[.int .i64 n] (err2 50) := by
  have g := civil_out_p n h
  have main : tpMonthEnd.den Tryd.prog (fun ρ' ret => ∀ β, ret.val.den (env ρ') β = err2 50) [.int .i64 n] := by
    refine tree_ite ?_
    refine ev_call [.int .i64 0, .int .i64 0, .int .i64 0, .int .i64 50] rfl rfl (pure_gives g) (fun β => by simp [BTm.den, Tm.i, Tm.s, Tm.den, env, vInt, vBool, vStr, exI, SW.den, SV.den, Cell.den, densP, Piece.den, denV, denT]) (fun β => by simp [BTm.den, Tm.i, Tm.s, Tm.den, env, vInt, vBool, vStr, exI, SW.den, SV.den, Cell.den, densP, Piece.den, denV, denT, civilErr]) ?_
    refine ev_nil (way_false (by simp [BTm.den, Tm.i, Tm.s, Tm.den, env, vInt, vBool, vStr, exI]) (tree_leaf (ev_nil fun β => ?_)))
    simp [BTm.den, Tm.i, Tm.s, Tm.den, env, vInt, vBool, vStr, exI, SW.den, SV.den, Cell.den, densP, Piece.den, denV, denT, err2]
  have h := pure_of plain [.int .i64 n] tpMonthEnd_ok (by kernel_rfl) _ main
  refine gives_pure ?_
  simpa [intW, BTm.den, Tm.i, Tm.s, Tm.den, env, vInt, vBool, vStr, exI, SW.den, SV.den, Cell.den, densP, Piece.den, denV, denT] using h
theorem end_out_d (n : Int) (h : n < 0 ∨ 73048 < n) : Gives Tryd.prog 22 #[.int .i64 n] (err2 50) := by
  have g := civil_out_d n h
  have main : tdMonthEnd.den Tryd.prog (fun ρ' ret => ∀ β, ret.val.den (env ρ') β = err2 50) [.int .i64 n] := by
    refine tree_ite ?_
    refine ev_call [.int .i64 0, .int .i64 0, .int .i64 0, .int .i64 50] rfl rfl (pure_gives g) (fun β => by simp [BTm.den, Tm.i, Tm.s, Tm.den, env, vInt, vBool, vStr, exI, SW.den, SV.den, Cell.den, densP, Piece.den, denV, denT]) (fun β => by simp [BTm.den, Tm.i, Tm.s, Tm.den, env, vInt, vBool, vStr, exI, SW.den, SV.den, Cell.den, densP, Piece.den, denV, denT, civilErr]) ?_
    refine ev_nil (way_false (by simp [BTm.den, Tm.i, Tm.s, Tm.den, env, vInt, vBool, vStr, exI]) (tree_leaf (ev_nil fun β => ?_)))
    simp [BTm.den, Tm.i, Tm.s, Tm.den, env, vInt, vBool, vStr, exI, SW.den, SV.den, Cell.den, densP, Piece.den, denV, denT, err2]
  have h := pure_of plain [.int .i64 n] tdMonthEnd_ok (by kernel_rfl) _ main
  refine gives_pure ?_
  simpa [intW, BTm.den, Tm.i, Tm.s, Tm.den, env, vInt, vBool, vStr, exI, SW.den, SV.den, Cell.den, densP, Piece.den, denV, denT] using h
/-- The last day of a month. -/
def endZ (y m : Int) : Int := ny y + mb (leapI y) m + ml (leapI y) m - 1
theorem IsCivil.last {n y m d : Int} (h : IsCivil n y m d) : IsCivil (endZ y m) y m (ml (leapI y) m) := by
  have := ml_ge (leapI y) h.m1 h.m2
  exact ⟨h.y1, h.y2, h.m1, h.m2, by omega, by omega, rfl⟩
theorem end_p {n y m d : Int} (h : IsCivil n y m d) : Gives Tryd.prog 21 #[.int .i64 n] (ok2 (endZ y m)) := by
  have g := civil_p h
  have y1 := h.y1; have y2 := h.y2; have m1 := h.m1; have m2 := h.m2
  have b := h.last.range
  have e : ny y + mb (leapI y) (m + 1) - 1 = endZ y m := by unfold endZ; rw [mb_step]; omega
  have main : tpMonthEnd.den Tryd.prog (fun ρ' ret => ∀ β, ret.val.den (env ρ') β = ok2 (endZ y m)) [.int .i64 n] := by
    refine tree_ite ?_
    refine ev_call [.int .i64 y, .int .i64 m, .int .i64 d, .int .i64 0] rfl rfl (pure_gives g) (fun β => by simp [BTm.den, Tm.i, Tm.s, Tm.den, env, vInt, vBool, vStr, exI, SW.den, SV.den, Cell.den, densP, Piece.den, denV, denT]) (fun β => by simp [BTm.den, Tm.i, Tm.s, Tm.den, env, vInt, vBool, vStr, exI, SW.den, SV.den, Cell.den, densP, Piece.den, denV, denT, civilV]) ?_
    refine ev_nil (way_true (by simp [BTm.den, Tm.i, Tm.s, Tm.den, env, vInt, vBool, vStr, exI]) (tree_leaf ?_))
    refine ev_fits (m + 1) (by simp [BTm.den, Tm.i, Tm.s, Tm.den, env, vInt, vBool, vStr, exI]) (rng_i64 _ (by omega)) ?_
    refine ev_call [.int .i64 (ny y + mb (leapI y) (m + 1))] rfl rfl (pure_gives (first_p y (m + 1) (by omega))) (fun β => by simp [BTm.den, Tm.i, Tm.s, Tm.den, env, vInt, vBool, vStr, exI, SW.den, SV.den, Cell.den, densP, Piece.den, denV, rowCells_mgk, iv_list, mgl_agg]) (fun β => by simp [BTm.den, Tm.i, Tm.s, Tm.den, env, vInt, vBool, vStr, exI, SW.den, SV.den, Cell.den, densP, Piece.den, denV, rowCells_mgk, iv_list, mgl_agg]) ?_
    refine ev_fits (endZ y m) (by simp [BTm.den, Tm.i, Tm.s, Tm.den, env, vInt, vBool, vStr, exI, e]) (rng_i64 _ (by omega)) ?_
    refine ev_nil fun β => ?_
    simp [BTm.den, Tm.i, Tm.s, Tm.den, env, vInt, vBool, vStr, exI, SW.den, SV.den, Cell.den, densP, Piece.den, denV, denT, ok2, e]
  have h := pure_of plain [.int .i64 n] tpMonthEnd_ok (by kernel_rfl) _ main
  refine gives_pure ?_
  simpa [intW, BTm.den, Tm.i, Tm.s, Tm.den, env, vInt, vBool, vStr, exI, SW.den, SV.den, Cell.den, densP, Piece.den, denV, denT] using h
theorem end_d {n y m d : Int} (h : IsCivil n y m d) : Gives Tryd.prog 22 #[.int .i64 n] (ok2 (endZ y m)) := by
  have g := civil_d h
  have y1 := h.y1; have y2 := h.y2; have m1 := h.m1; have m2 := h.m2
  have g2 := from_d y m (ml (leapI y) m)
  rw [fromR_civil h.last] at g2
  have main : tdMonthEnd.den Tryd.prog (fun ρ' ret => ∀ β, ret.val.den (env ρ') β = ok2 (endZ y m)) [.int .i64 n] := by
    refine tree_ite ?_
    refine ev_call [.int .i64 y, .int .i64 m, .int .i64 d, .int .i64 0] rfl rfl (pure_gives g) (fun β => by simp [BTm.den, Tm.i, Tm.s, Tm.den, env, vInt, vBool, vStr, exI, SW.den, SV.den, Cell.den, densP, Piece.den, denV, denT]) (fun β => by simp [BTm.den, Tm.i, Tm.s, Tm.den, env, vInt, vBool, vStr, exI, SW.den, SV.den, Cell.den, densP, Piece.den, denV, denT, civilV]) ?_
    refine ev_nil (way_true (by simp [BTm.den, Tm.i, Tm.s, Tm.den, env, vInt, vBool, vStr, exI]) (tree_leaf ?_))
    refine ev_call [.int .i64 (ml (leapI y) m)] rfl rfl (pure_gives (len_d y m (by omega) (by omega))) (fun β => by simp [BTm.den, Tm.i, Tm.s, Tm.den, env, vInt, vBool, vStr, exI, SW.den, SV.den, Cell.den, densP, Piece.den, denV, rowCells_mgk, iv_list, mgl_agg]) (fun β => by simp [BTm.den, Tm.i, Tm.s, Tm.den, env, vInt, vBool, vStr, exI, SW.den, SV.den, Cell.den, densP, Piece.den, denV, rowCells_mgk, iv_list, mgl_agg]) ?_
    refine ev_call [.int .i64 (endZ y m), .int .i64 0] rfl rfl (pure_gives g2) (fun β => by simp [BTm.den, Tm.i, Tm.s, Tm.den, env, vInt, vBool, vStr, exI, SW.den, SV.den, Cell.den, densP, Piece.den, denV, rowCells_mgk, iv_list, mgl_agg]) (fun β => by simp [BTm.den, Tm.i, Tm.s, Tm.den, env, vInt, vBool, vStr, exI, SW.den, SV.den, Cell.den, densP, Piece.den, denV, rowCells_mgk, iv_list, mgl_agg]) ?_
    refine ev_nil fun β => ?_
    simp [BTm.den, Tm.i, Tm.s, Tm.den, env, vInt, vBool, vStr, exI, SW.den, SV.den, Cell.den, densP, Piece.den, denV, denT, ok2]
  have h := pure_of plain [.int .i64 n] tdMonthEnd_ok (by kernel_rfl) _ main
  refine gives_pure ?_
  simpa [intW, BTm.den, Tm.i, Tm.s, Tm.den, env, vInt, vBool, vStr, exI, SW.den, SV.den, Cell.den, densP, Piece.den, denV, denT] using h

/-- The number of a month, from the first one on. -/
def moZ (y m : Int) : Int := 12 * (y - 2000) + m - 1
def minZ (a b : Int) : Int := if b < a then b else a
/-- The day of a month by number, or its last one. -/
def inMo (k d : Int) : Int := ny (2000 + k / 12) + mb (leapI (2000 + k / 12)) (k % 12 + 1) + minZ d (ml (leapI (2000 + k / 12)) (k % 12 + 1)) - 1
def addR (y m d a : Int) : Value := if 0 ≤ moZ y m + a ∧ moZ y m + a < 2400 then ok2 (inMo (moZ y m + a) d) else err2 51
theorem inMo_civil {k d : Int} (h : 0 ≤ k ∧ k < 2400) (hd : 1 ≤ d) : IsCivil (inMo k d) (2000 + k / 12) (k % 12 + 1) (minZ d (ml (leapI (2000 + k / 12)) (k % 12 + 1))) := by
  have b := ml_ge (leapI (2000 + k / 12)) (m := k % 12 + 1) (by omega) (by omega)
  refine ⟨by omega, by omega, by omega, by omega, ?_, ?_, rfl⟩ <;> unfold minZ <;> split <;> omega
theorem add_out_p (n a : Int) (h : n < 0 ∨ 73048 < n) : Gives Tryd.prog 23 #[.int .i64 n, .int .i64 a] (err2 50) := by
  have g := civil_out_p n h
  have main : tpAddMonths.den Tryd.prog (fun ρ' ret => ∀ β, ret.val.den (env ρ') β = err2 50) [.int .i64 n, .int .i64 a] := by
    refine tree_ite ?_
    refine ev_call [.int .i64 0, .int .i64 0, .int .i64 0, .int .i64 50] rfl rfl (pure_gives g) (fun β => by simp [BTm.den, Tm.i, Tm.s, Tm.den, env, vInt, vBool, vStr, exI, SW.den, SV.den, Cell.den, densP, Piece.den, denV, denT]) (fun β => by simp [BTm.den, Tm.i, Tm.s, Tm.den, env, vInt, vBool, vStr, exI, SW.den, SV.den, Cell.den, densP, Piece.den, denV, denT, civilErr]) ?_
    refine ev_nil (way_false (by simp [BTm.den, Tm.i, Tm.s, Tm.den, env, vInt, vBool, vStr, exI]) (tree_leaf (ev_nil fun β => ?_)))
    simp [BTm.den, Tm.i, Tm.s, Tm.den, env, vInt, vBool, vStr, exI, SW.den, SV.den, Cell.den, densP, Piece.den, denV, denT, err2]
  have h := pure_of plain [.int .i64 n, .int .i64 a] tpAddMonths_ok (by kernel_rfl) _ main
  refine gives_pure ?_
  simpa [intW, BTm.den, Tm.i, Tm.s, Tm.den, env, vInt, vBool, vStr, exI, SW.den, SV.den, Cell.den, densP, Piece.den, denV, denT] using h
theorem add_out_d (n a : Int) (h : n < 0 ∨ 73048 < n) : Gives Tryd.prog 24 #[.int .i64 n, .int .i64 a] (err2 50) := by
  have g := civil_out_d n h
  have main : tdAddMonths.den Tryd.prog (fun ρ' ret => ∀ β, ret.val.den (env ρ') β = err2 50) [.int .i64 n, .int .i64 a] := by
    refine tree_ite ?_
    refine ev_call [.int .i64 0, .int .i64 0, .int .i64 0, .int .i64 50] rfl rfl (pure_gives g) (fun β => by simp [BTm.den, Tm.i, Tm.s, Tm.den, env, vInt, vBool, vStr, exI, SW.den, SV.den, Cell.den, densP, Piece.den, denV, denT]) (fun β => by simp [BTm.den, Tm.i, Tm.s, Tm.den, env, vInt, vBool, vStr, exI, SW.den, SV.den, Cell.den, densP, Piece.den, denV, denT, civilErr]) ?_
    refine ev_nil (way_false (by simp [BTm.den, Tm.i, Tm.s, Tm.den, env, vInt, vBool, vStr, exI]) (tree_leaf (ev_nil fun β => ?_)))
    simp [BTm.den, Tm.i, Tm.s, Tm.den, env, vInt, vBool, vStr, exI, SW.den, SV.den, Cell.den, densP, Piece.den, denV, denT, err2]
  have h := pure_of plain [.int .i64 n, .int .i64 a] tdAddMonths_ok (by kernel_rfl) _ main
  refine gives_pure ?_
  simpa [intW, BTm.den, Tm.i, Tm.s, Tm.den, env, vInt, vBool, vStr, exI, SW.den, SV.den, Cell.den, densP, Piece.den, denV, denT] using h
theorem add_p {n y m d : Int} (h : IsCivil n y m d) (a : Int) : Gives Tryd.prog 23 #[.int .i64 n, .int .i64 a] (addR y m d a) := by
  have g := civil_p h
  have y1 := h.y1; have y2 := h.y2; have m1 := h.m1; have m2 := h.m2
  have e1 : (y - 2000) * 12 + m - 1 = moZ y m := by unfold moZ; omega
  have b1 : 0 ≤ moZ y m ∧ moZ y m < 2400 := by unfold moZ; omega
  have main : tpAddMonths.den Tryd.prog (fun ρ' ret => ∀ β, ret.val.den (env ρ') β = addR y m d a) [.int .i64 n, .int .i64 a] := by
    unfold addR
    generalize moZ y m = z at e1 b1
    refine tree_ite ?_
    refine ev_call [.int .i64 y, .int .i64 m, .int .i64 d, .int .i64 0] rfl rfl (pure_gives g) (fun β => by simp [BTm.den, Tm.i, Tm.s, Tm.den, env, vInt, vBool, vStr, exI, SW.den, SV.den, Cell.den, densP, Piece.den, denV, denT]) (fun β => by simp [BTm.den, Tm.i, Tm.s, Tm.den, env, vInt, vBool, vStr, exI, SW.den, SV.den, Cell.den, densP, Piece.den, denV, denT, civilV]) ?_
    refine ev_nil (way_true (by simp [BTm.den, Tm.i, Tm.s, Tm.den, env, vInt, vBool, vStr, exI]) (tree_ite ?_))
    refine ev_fits (y - 2000) (by simp [BTm.den, Tm.i, Tm.s, Tm.den, env, vInt, vBool, vStr, exI]) (rng_i64 _ (by omega)) ?_
    refine ev_fits ((y - 2000) * 12) (by simp [BTm.den, Tm.i, Tm.s, Tm.den, env, vInt, vBool, vStr, exI]) (rng_i64 _ (by omega)) ?_
    refine ev_fits ((y - 2000) * 12 + m) (by simp [BTm.den, Tm.i, Tm.s, Tm.den, env, vInt, vBool, vStr, exI]) (rng_i64 _ (by omega)) ?_
    refine ev_fits z (by simp [BTm.den, Tm.i, Tm.s, Tm.den, env, vInt, vBool, vStr, exI, e1]) (rng_i64 _ (by omega)) ?_
    refine ev_fits (0 - z) (by simp [BTm.den, Tm.i, Tm.s, Tm.den, env, vInt, vBool, vStr, exI, e1]) (rng_i64 _ (by omega)) ?_
    refine ev_nil ⟨fun h1 => tree_leaf (ev_nil fun β => ?_), fun h1 => tree_ite ?_⟩
    · have h1 : a < -z := by simpa [BTm.den, Tm.i, Tm.s, Tm.den, env, vInt, vBool, vStr, exI, e1] using h1
      rw [if_neg (by omega)]; simp [BTm.den, Tm.i, Tm.s, Tm.den, env, vInt, vBool, vStr, exI, SW.den, SV.den, Cell.den, densP, Piece.den, denV, denT, err2]
    have h1 : ¬ a < -z := by simpa [BTm.den, Tm.i, Tm.s, Tm.den, env, vInt, vBool, vStr, exI, e1] using h1
    refine ev_fits (2400 - z) (by simp [BTm.den, Tm.i, Tm.s, Tm.den, env, vInt, vBool, vStr, exI, e1]) (rng_i64 _ (by omega)) ?_
    refine ev_nil ⟨fun h2 => tree_leaf ?_, fun h2 => tree_leaf (ev_nil fun β => ?_)⟩
    · have h2 : a < 2400 - z := by simpa [BTm.den, Tm.i, Tm.s, Tm.den, env, vInt, vBool, vStr, exI, e1] using h2
      rw [if_pos (by omega)]
      have hk : 0 ≤ z + a ∧ z + a < 2400 := by omega
      have q1 : (z + a).tdiv 12 = (z + a) / 12 := Int.tdiv_eq_ediv_of_nonneg (by omega)
      have q2 : (z + a).tmod 12 = (z + a) % 12 := Int.tmod_eq_emod_of_nonneg (by omega)
      have c := inMo_civil hk h.d1
      have hr := c.range
      unfold inMo at c ⊢
      refine ev_fits (z + a) (by simp [BTm.den, Tm.i, Tm.s, Tm.den, env, vInt, vBool, vStr, exI, e1]) (rng_i64 _ (by omega)) ?_
      refine ev_fits ((z + a) / 12) (by simp [BTm.den, Tm.i, Tm.s, Tm.den, env, vInt, vBool, vStr, exI, e1, q1]) (rng_i64 _ (by omega)) ?_
      refine ev_fits (2000 + (z + a) / 12) (by simp [BTm.den, Tm.i, Tm.s, Tm.den, env, vInt, vBool, vStr, exI, e1, q1]) (rng_i64 _ (by omega)) ?_
      refine ev_fits ((z + a) % 12) (by simp [BTm.den, Tm.i, Tm.s, Tm.den, env, vInt, vBool, vStr, exI, e1, q2]) (rng_i64 _ (by omega)) ?_
      refine ev_fits ((z + a) % 12 + 1) (by simp [BTm.den, Tm.i, Tm.s, Tm.den, env, vInt, vBool, vStr, exI, e1, q2]) (rng_i64 _ (by omega)) ?_
      have y3 : 2000 ≤ 2000 + (z + a) / 12 ∧ 2000 + (z + a) / 12 ≤ 2199 := by omega
      have m3 : 1 ≤ (z + a) % 12 + 1 ∧ (z + a) % 12 + 1 ≤ 12 := by omega
      generalize e3 : 2000 + (z + a) / 12 = yy at *
      generalize e4 : (z + a) % 12 + 1 = mm at *
      have b2 := mb_bound (leapI yy) mm
      have b3 := mb_bound (leapI yy) (mm + 1)
      have b4 := ny_bound (y := yy) (by omega)
      have b5 := mb_step (leapI yy) mm
      have b6 := ml_ge (leapI y) h.m1 h.m2
      have d1 := h.d1; have d2 := h.d2
      have fin : (if ny yy + mb (leapI yy) (mm + 1) < ny yy + mb (leapI yy) mm + d then ny yy + mb (leapI yy) (mm + 1) else ny yy + mb (leapI yy) mm + d) - 1 = ny yy + mb (leapI yy) mm + minZ d (ml (leapI yy) mm) - 1 := by
        unfold minZ
        split <;> split <;> omega
      refine ev_call [.int .i64 (ny yy + mb (leapI yy) mm)] rfl rfl (pure_gives (first_p yy mm (by omega))) (fun β => by simp [BTm.den, Tm.i, Tm.s, Tm.den, env, vInt, vBool, vStr, exI, SW.den, SV.den, Cell.den, densP, Piece.den, denV, denT, e1, q1, q2, e3, e4]) (fun β => by simp [BTm.den, Tm.i, Tm.s, Tm.den, env, vInt, vBool, vStr, exI, SW.den, SV.den, Cell.den, densP, Piece.den, denV, denT]) ?_
      refine ev_fits (ny yy + mb (leapI yy) mm + d) (by simp [BTm.den, Tm.i, Tm.s, Tm.den, env, vInt, vBool, vStr, exI]) (rng_i64 _ (by omega)) ?_
      refine ev_fits (mm + 1) (by simp [BTm.den, Tm.i, Tm.s, Tm.den, env, vInt, vBool, vStr, exI, e1, q2, e4]) (rng_i64 _ (by omega)) ?_
      refine ev_call [.int .i64 (ny yy + mb (leapI yy) (mm + 1))] rfl rfl (pure_gives (first_p yy (mm + 1) (by omega))) (fun β => by simp [BTm.den, Tm.i, Tm.s, Tm.den, env, vInt, vBool, vStr, exI, SW.den, SV.den, Cell.den, densP, Piece.den, denV, denT, e1, q1, q2, e3, e4]) (fun β => by simp [BTm.den, Tm.i, Tm.s, Tm.den, env, vInt, vBool, vStr, exI, SW.den, SV.den, Cell.den, densP, Piece.den, denV, denT]) ?_
      refine ev_fits _ rfl (rng_i64 _ ?_) ?_
      · have hh := hr
        unfold inMo at hh
        rw [e3, e4] at hh
        simp only [BTm.den, Tm.i, Tm.s, Tm.den, env, vInt, vBool, vStr, exI, List.cons_append, List.nil_append, List.getD_cons_succ, List.getD_cons_zero] at *
        rw [fin]; omega
      refine ev_nil fun β => ?_
      simp [BTm.den, Tm.i, Tm.s, Tm.den, env, vInt, vBool, vStr, exI, SW.den, SV.den, Cell.den, densP, Piece.den, denV, denT, ok2]
      unfold minZ
      split <;> split <;> omega
    · have h2 : ¬ a < 2400 - z := by simpa [BTm.den, Tm.i, Tm.s, Tm.den, env, vInt, vBool, vStr, exI, e1] using h2
      rw [if_neg (by omega)]; simp [BTm.den, Tm.i, Tm.s, Tm.den, env, vInt, vBool, vStr, exI, SW.den, SV.den, Cell.den, densP, Piece.den, denV, denT, err2]
  have h := pure_of plain [.int .i64 n, .int .i64 a] tpAddMonths_ok (by kernel_rfl) _ main
  refine gives_pure ?_
  simpa [intW, BTm.den, Tm.i, Tm.s, Tm.den, env, vInt, vBool, vStr, exI, SW.den, SV.den, Cell.den, densP, Piece.den, denV, denT] using h
theorem add_d {n y m d : Int} (h : IsCivil n y m d) (a : Int) : Gives Tryd.prog 24 #[.int .i64 n, .int .i64 a] (addR y m d a) := by
  have g := civil_d h
  have y1 := h.y1; have y2 := h.y2; have m1 := h.m1; have m2 := h.m2
  have e1 : 12 * (y - 2000) + m - 1 = moZ y m := rfl
  have b1 : 0 ≤ moZ y m ∧ moZ y m < 2400 := by unfold moZ; omega
  have main : tdAddMonths.den Tryd.prog (fun ρ' ret => ∀ β, ret.val.den (env ρ') β = addR y m d a) [.int .i64 n, .int .i64 a] := by
    unfold addR
    generalize moZ y m = z at e1 b1
    refine tree_ite ?_
    refine ev_call [.int .i64 y, .int .i64 m, .int .i64 d, .int .i64 0] rfl rfl (pure_gives g) (fun β => by simp [BTm.den, Tm.i, Tm.s, Tm.den, env, vInt, vBool, vStr, exI, SW.den, SV.den, Cell.den, densP, Piece.den, denV, denT]) (fun β => by simp [BTm.den, Tm.i, Tm.s, Tm.den, env, vInt, vBool, vStr, exI, SW.den, SV.den, Cell.den, densP, Piece.den, denV, denT, civilV]) ?_
    refine ev_nil (way_true (by simp [BTm.den, Tm.i, Tm.s, Tm.den, env, vInt, vBool, vStr, exI]) ?_)
    refine tree_ite (ev_nil ⟨fun h1 => tree_leaf (ev_nil fun β => ?_), fun h1 => ?_⟩)
    · have h1 : a < -2400 := by simpa [BTm.den, Tm.i, Tm.s, Tm.den, env, vInt, vBool, vStr, exI] using h1
      rw [if_neg (by omega)]; simp [BTm.den, Tm.i, Tm.s, Tm.den, env, vInt, vBool, vStr, exI, SW.den, SV.den, Cell.den, densP, Piece.den, denV, denT, err2]
    have h1 : ¬ a < -2400 := by simpa [BTm.den, Tm.i, Tm.s, Tm.den, env, vInt, vBool, vStr, exI] using h1
    refine tree_ite (ev_nil ⟨fun h2 => tree_leaf (ev_nil fun β => ?_), fun h2 => tree_ite ?_⟩)
    · have h2 : 2400 < a := by simpa [BTm.den, Tm.i, Tm.s, Tm.den, env, vInt, vBool, vStr, exI] using h2
      rw [if_neg (by omega)]; simp [BTm.den, Tm.i, Tm.s, Tm.den, env, vInt, vBool, vStr, exI, SW.den, SV.den, Cell.den, densP, Piece.den, denV, denT, err2]
    have h2 : ¬ 2400 < a := by simpa [BTm.den, Tm.i, Tm.s, Tm.den, env, vInt, vBool, vStr, exI] using h2
    refine ev_fits (y - 2000) (by simp [BTm.den, Tm.i, Tm.s, Tm.den, env, vInt, vBool, vStr, exI]) (rng_i64 _ (by omega)) ?_
    refine ev_fits (12 * (y - 2000)) (by simp [BTm.den, Tm.i, Tm.s, Tm.den, env, vInt, vBool, vStr, exI]) (rng_i64 _ (by omega)) ?_
    refine ev_fits (12 * (y - 2000) + m) (by simp [BTm.den, Tm.i, Tm.s, Tm.den, env, vInt, vBool, vStr, exI]) (rng_i64 _ (by omega)) ?_
    refine ev_fits z (by simp [BTm.den, Tm.i, Tm.s, Tm.den, env, vInt, vBool, vStr, exI, e1]) (rng_i64 _ (by omega)) ?_
    refine ev_fits (z + a) (by simp [BTm.den, Tm.i, Tm.s, Tm.den, env, vInt, vBool, vStr, exI, e1]) (rng_i64 _ (by omega)) ?_
    refine ev_nil ⟨fun h3 => tree_leaf (ev_nil fun β => ?_), fun h3 => ?_⟩
    · have h3 : z + a < 0 := by simpa [BTm.den, Tm.i, Tm.s, Tm.den, env, vInt, vBool, vStr, exI, e1] using h3
      rw [if_neg (by omega)]; simp [BTm.den, Tm.i, Tm.s, Tm.den, env, vInt, vBool, vStr, exI, SW.den, SV.den, Cell.den, densP, Piece.den, denV, denT, err2]
    have h3 : ¬ z + a < 0 := by simpa [BTm.den, Tm.i, Tm.s, Tm.den, env, vInt, vBool, vStr, exI, e1] using h3
    refine tree_ite (ev_nil ⟨fun h4 => tree_leaf ?_, fun h4 => tree_leaf (ev_nil fun β => ?_)⟩)
    · have h4 : z + a < 2400 := by simpa [BTm.den, Tm.i, Tm.s, Tm.den, env, vInt, vBool, vStr, exI, e1] using h4
      rw [if_pos (by omega)]
      have hk : 0 ≤ z + a ∧ z + a < 2400 := by omega
      have q1 : (z + a).tdiv 12 = (z + a) / 12 := Int.tdiv_eq_ediv_of_nonneg (by omega)
      have q2 : (z + a).tmod 12 = (z + a) % 12 := Int.tmod_eq_emod_of_nonneg (by omega)
      have c := inMo_civil hk h.d1
      have gf := from_d (2000 + (z + a) / 12) ((z + a) % 12 + 1) (minZ d (ml (leapI (2000 + (z + a) / 12)) ((z + a) % 12 + 1)))
      rw [fromR_civil c] at gf
      refine ev_fits ((z + a) / 12) (by simp [BTm.den, Tm.i, Tm.s, Tm.den, env, vInt, vBool, vStr, exI, e1, q1]) (rng_i64 _ (by omega)) ?_
      refine ev_fits (2000 + (z + a) / 12) (by simp [BTm.den, Tm.i, Tm.s, Tm.den, env, vInt, vBool, vStr, exI, e1, q1]) (rng_i64 _ (by omega)) ?_
      refine ev_fits ((z + a) % 12) (by simp [BTm.den, Tm.i, Tm.s, Tm.den, env, vInt, vBool, vStr, exI, e1, q2]) (rng_i64 _ (by omega)) ?_
      refine ev_fits ((z + a) % 12 + 1) (by simp [BTm.den, Tm.i, Tm.s, Tm.den, env, vInt, vBool, vStr, exI, e1, q2]) (rng_i64 _ (by omega)) ?_
      have y3 : 2000 ≤ 2000 + (z + a) / 12 ∧ 2000 + (z + a) / 12 ≤ 2199 := by omega
      have m3 : 1 ≤ (z + a) % 12 + 1 ∧ (z + a) % 12 + 1 ≤ 12 := by omega
      generalize inMo (z + a) d = v at *
      clear c
      generalize e3 : 2000 + (z + a) / 12 = yy at *
      generalize e4 : (z + a) % 12 + 1 = mm at *
      refine ev_call [.int .i64 (ml (leapI yy) mm)] rfl rfl (pure_gives (len_d yy mm (by omega) (by omega))) (fun β => by simp [BTm.den, Tm.i, Tm.s, Tm.den, env, vInt, vBool, vStr, exI, SW.den, SV.den, Cell.den, densP, Piece.den, denV, denT, e1, q1, q2, e3, e4]) (fun β => by simp [BTm.den, Tm.i, Tm.s, Tm.den, env, vInt, vBool, vStr, exI, SW.den, SV.den, Cell.den, densP, Piece.den, denV, denT]) ?_
      refine ev_call [.int .i64 v, .int .i64 0] rfl rfl (pure_gives gf) (fun β => by simp [BTm.den, Tm.i, Tm.s, Tm.den, env, vInt, vBool, vStr, exI, SW.den, SV.den, Cell.den, densP, Piece.den, denV, denT, e1, q1, q2, e3, e4, minZ]) (fun β => by simp [BTm.den, Tm.i, Tm.s, Tm.den, env, vInt, vBool, vStr, exI, SW.den, SV.den, Cell.den, densP, Piece.den, denV, denT]) ?_
      refine ev_nil fun β => ?_
      simp [BTm.den, Tm.i, Tm.s, Tm.den, env, vInt, vBool, vStr, exI, SW.den, SV.den, Cell.den, densP, Piece.den, denV, denT, ok2]
    · have h4 : ¬ z + a < 2400 := by simpa [BTm.den, Tm.i, Tm.s, Tm.den, env, vInt, vBool, vStr, exI, e1] using h4
      rw [if_neg (by omega)]; simp [BTm.den, Tm.i, Tm.s, Tm.den, env, vInt, vBool, vStr, exI, SW.den, SV.den, Cell.den, densP, Piece.den, denV, denT, err2]
  have h := pure_of plain [.int .i64 n, .int .i64 a] tdAddMonths_ok (by kernel_rfl) _ main
  refine gives_pure ?_
  simpa [intW, BTm.den, Tm.i, Tm.s, Tm.den, env, vInt, vBool, vStr, exI, SW.den, SV.den, Cell.den, densP, Piece.den, denV, denT] using h
end Go.Proofs.YteemnnajfiimlaaDoor
