/- Dates and numbers, of both sides. -/
import Derived.Test.YteemnnajfiimlaaDoorJb
namespace Go.Proofs.YteemnnajfiimlaaDoor
open Go.RowKit Go.Proofs.YteemnnajfiimlaaDoor.Sx
set_option linter.unusedSimpArgs false
set_option linter.unusedVariables false

def lengthR (y m : Int) : Value := if 2000 ≤ y ∧ y ≤ 2199 ∧ 1 ≤ m ∧ m ≤ 12 then .tuple #[.int .i64 (ml (leapI y) m), .int .i64 0] else .tuple #[.int .i64 0, .int .i64 51]
theorem length_p (y m : Int) : Gives Tryd.prog 17 #[.int .i64 y, .int .i64 m] (lengthR y m) := by
  have main : tpLength.den Tryd.prog (fun ρ' ret => ∀ β, ret.val.den (env ρ') β = lengthR y m) [.int .i64 y, .int .i64 m] := by
    refine tree_ite (ev_nil ⟨fun h => tree_leaf (ev_nil fun β => ?_), fun h => ?_⟩)
    · have h : y < 2000 := by simpa [BTm.den, Tm.i, Tm.s, Tm.den, env, vInt, vBool, vStr, exI] using h
      unfold lengthR; rw [if_neg (by omega)]; simp [BTm.den, Tm.i, Tm.s, Tm.den, env, vInt, vBool, vStr, exI, SW.den, SV.den, Cell.den, densP, Piece.den, denV, denT]
    have h : ¬ y < 2000 := by simpa [BTm.den, Tm.i, Tm.s, Tm.den, env, vInt, vBool, vStr, exI] using h
    refine tree_ite (ev_nil ⟨fun h2 => tree_leaf (ev_nil fun β => ?_), fun h2 => ?_⟩)
    · have h2 : 2199 < y := by simpa [BTm.den, Tm.i, Tm.s, Tm.den, env, vInt, vBool, vStr, exI] using h2
      unfold lengthR; rw [if_neg (by omega)]; simp [BTm.den, Tm.i, Tm.s, Tm.den, env, vInt, vBool, vStr, exI, SW.den, SV.den, Cell.den, densP, Piece.den, denV, denT]
    have h2 : ¬ 2199 < y := by simpa [BTm.den, Tm.i, Tm.s, Tm.den, env, vInt, vBool, vStr, exI] using h2
    refine tree_ite (ev_nil ⟨fun h3 => tree_leaf (ev_nil fun β => ?_), fun h3 => ?_⟩)
    · have h3 : m < 1 := by simpa [BTm.den, Tm.i, Tm.s, Tm.den, env, vInt, vBool, vStr, exI] using h3
      unfold lengthR; rw [if_neg (by omega)]; simp [BTm.den, Tm.i, Tm.s, Tm.den, env, vInt, vBool, vStr, exI, SW.den, SV.den, Cell.den, densP, Piece.den, denV, denT]
    have h3 : ¬ m < 1 := by simpa [BTm.den, Tm.i, Tm.s, Tm.den, env, vInt, vBool, vStr, exI] using h3
    refine tree_ite (ev_nil ⟨fun h4 => tree_leaf (ev_nil fun β => ?_), fun h4 => tree_leaf ?_⟩)
    · have h4 : 12 < m := by simpa [BTm.den, Tm.i, Tm.s, Tm.den, env, vInt, vBool, vStr, exI] using h4
      unfold lengthR; rw [if_neg (by omega)]; simp [BTm.den, Tm.i, Tm.s, Tm.den, env, vInt, vBool, vStr, exI, SW.den, SV.den, Cell.den, densP, Piece.den, denV, denT]
    have h4 : ¬ 12 < m := by simpa [BTm.den, Tm.i, Tm.s, Tm.den, env, vInt, vBool, vStr, exI] using h4
    have b1 := mb_bound (leapI y) (m + 1)
    have b2 := mb_bound (leapI y) m
    refine ev_fits (m + 1) (by simp [BTm.den, Tm.i, Tm.s, Tm.den, env, vInt, vBool, vStr, exI]) (rng_i64 _ (by omega)) ?_
    refine ev_call [.int .i64 (mb (leapI y) (m + 1))] rfl rfl (pure_gives (before_p y (m + 1) (by omega))) (fun β => by simp [BTm.den, Tm.i, Tm.s, Tm.den, env, vInt, vBool, vStr, exI, SW.den, SV.den, Cell.den, densP, Piece.den, denV, rowCells_mgk, iv_list, mgl_agg]) (fun β => by simp [BTm.den, Tm.i, Tm.s, Tm.den, env, vInt, vBool, vStr, exI, SW.den, SV.den, Cell.den, densP, Piece.den, denV, rowCells_mgk, iv_list, mgl_agg]) ?_
    refine ev_call [.int .i64 (mb (leapI y) m)] rfl rfl (pure_gives (before_p y m (by omega))) (fun β => by simp [BTm.den, Tm.i, Tm.s, Tm.den, env, vInt, vBool, vStr, exI, SW.den, SV.den, Cell.den, densP, Piece.den, denV, rowCells_mgk, iv_list, mgl_agg]) (fun β => by simp [BTm.den, Tm.i, Tm.s, Tm.den, env, vInt, vBool, vStr, exI, SW.den, SV.den, Cell.den, densP, Piece.den, denV, rowCells_mgk, iv_list, mgl_agg]) ?_
    refine ev_fits (mb (leapI y) (m + 1) - mb (leapI y) m) (by simp [BTm.den, Tm.i, Tm.s, Tm.den, env, vInt, vBool, vStr, exI]) (rng_i64 _ (by omega)) ?_
    refine ev_nil fun β => ?_
    unfold lengthR; rw [if_pos (by omega)]; simp [BTm.den, Tm.i, Tm.s, Tm.den, env, vInt, vBool, vStr, exI, SW.den, SV.den, Cell.den, densP, Piece.den, denV, denT, ml]
  have h := pure_of plain [.int .i64 y, .int .i64 m] tpLength_ok (by kernel_rfl) _ main
  refine gives_pure ?_
  simpa [intW, BTm.den, Tm.i, Tm.s, Tm.den, env, vInt, vBool, vStr, exI, SW.den, SV.den, Cell.den, densP, Piece.den, denV, denT] using h
theorem length_d (y m : Int) : Gives Tryd.prog 18 #[.int .i64 y, .int .i64 m] (lengthR y m) := by
  have main : tdLength.den Tryd.prog (fun ρ' ret => ∀ β, ret.val.den (env ρ') β = lengthR y m) [.int .i64 y, .int .i64 m] := by
    refine tree_ite (ev_nil ⟨fun h => tree_leaf (ev_nil fun β => ?_), fun h => ?_⟩)
    · have h : y < 2000 := by simpa [BTm.den, Tm.i, Tm.s, Tm.den, env, vInt, vBool, vStr, exI] using h
      unfold lengthR; rw [if_neg (by omega)]; simp [BTm.den, Tm.i, Tm.s, Tm.den, env, vInt, vBool, vStr, exI, SW.den, SV.den, Cell.den, densP, Piece.den, denV, denT]
    have h : ¬ y < 2000 := by simpa [BTm.den, Tm.i, Tm.s, Tm.den, env, vInt, vBool, vStr, exI] using h
    refine tree_ite (ev_nil ⟨fun h2 => tree_leaf (ev_nil fun β => ?_), fun h2 => ?_⟩)
    · have h2 : 2199 < y := by simpa [BTm.den, Tm.i, Tm.s, Tm.den, env, vInt, vBool, vStr, exI] using h2
      unfold lengthR; rw [if_neg (by omega)]; simp [BTm.den, Tm.i, Tm.s, Tm.den, env, vInt, vBool, vStr, exI, SW.den, SV.den, Cell.den, densP, Piece.den, denV, denT]
    have h2 : ¬ 2199 < y := by simpa [BTm.den, Tm.i, Tm.s, Tm.den, env, vInt, vBool, vStr, exI] using h2
    refine tree_ite (ev_nil ⟨fun h3 => tree_leaf (ev_nil fun β => ?_), fun h3 => ?_⟩)
    · have h3 : m < 1 := by simpa [BTm.den, Tm.i, Tm.s, Tm.den, env, vInt, vBool, vStr, exI] using h3
      unfold lengthR; rw [if_neg (by omega)]; simp [BTm.den, Tm.i, Tm.s, Tm.den, env, vInt, vBool, vStr, exI, SW.den, SV.den, Cell.den, densP, Piece.den, denV, denT]
    have h3 : ¬ m < 1 := by simpa [BTm.den, Tm.i, Tm.s, Tm.den, env, vInt, vBool, vStr, exI] using h3
    refine tree_ite (ev_nil ⟨fun h4 => tree_leaf (ev_nil fun β => ?_), fun h4 => tree_leaf ?_⟩)
    · have h4 : 12 < m := by simpa [BTm.den, Tm.i, Tm.s, Tm.den, env, vInt, vBool, vStr, exI] using h4
      unfold lengthR; rw [if_neg (by omega)]; simp [BTm.den, Tm.i, Tm.s, Tm.den, env, vInt, vBool, vStr, exI, SW.den, SV.den, Cell.den, densP, Piece.den, denV, denT]
    have h4 : ¬ 12 < m := by simpa [BTm.den, Tm.i, Tm.s, Tm.den, env, vInt, vBool, vStr, exI] using h4
    refine ev_call [.int .i64 (ml (leapI y) m)] rfl rfl (pure_gives (len_d y m (by omega) (by omega))) (fun β => by simp [BTm.den, Tm.i, Tm.s, Tm.den, env, vInt, vBool, vStr, exI, SW.den, SV.den, Cell.den, densP, Piece.den, denV, rowCells_mgk, iv_list, mgl_agg]) (fun β => by simp [BTm.den, Tm.i, Tm.s, Tm.den, env, vInt, vBool, vStr, exI, SW.den, SV.den, Cell.den, densP, Piece.den, denV, rowCells_mgk, iv_list, mgl_agg]) ?_
    refine ev_nil fun β => ?_
    unfold lengthR; rw [if_pos (by omega)]; simp [BTm.den, Tm.i, Tm.s, Tm.den, env, vInt, vBool, vStr, exI, SW.den, SV.den, Cell.den, densP, Piece.den, denV, denT]
  have h := pure_of plain [.int .i64 y, .int .i64 m] tdLength_ok (by kernel_rfl) _ main
  refine gives_pure ?_
  simpa [intW, BTm.den, Tm.i, Tm.s, Tm.den, env, vInt, vBool, vStr, exI, SW.den, SV.den, Cell.den, densP, Piece.den, denV, denT] using h

/-- Is there such a date. -/
def dateOk (y m d : Int) : Prop := 2000 ≤ y ∧ y ≤ 2199 ∧ 1 ≤ m ∧ m ≤ 12 ∧ 1 ≤ d ∧ d ≤ ml (leapI y) m
instance (y m d : Int) : Decidable (dateOk y m d) := by unfold dateOk; infer_instance
theorem dateOk.civil {y m d : Int} (h : dateOk y m d) : IsCivil (ny y + mb (leapI y) m + d - 1) y m d := ⟨h.1, h.2.1, h.2.2.1, h.2.2.2.1, h.2.2.2.2.1, h.2.2.2.2.2, rfl⟩
theorem IsCivil.ok {n y m d : Int} (h : IsCivil n y m d) : dateOk y m d := ⟨h.y1, h.y2, h.m1, h.m2, h.d1, h.d2⟩
def fromR (y m d : Int) : Value := if dateOk y m d then .tuple #[.int .i64 (ny y + mb (leapI y) m + d - 1), .int .i64 0] else .tuple #[.int .i64 0, .int .i64 51]
theorem fromR_civil {n y m d : Int} (h : IsCivil n y m d) : fromR y m d = .tuple #[.int .i64 n, .int .i64 0] := by
  unfold fromR; rw [if_pos h.ok, ← h.e]
theorem from_p (y m d : Int) : Gives Tryd.prog 11 #[.int .i64 y, .int .i64 m, .int .i64 d] (fromR y m d) := by
  have gl := length_p y m
  have main : tpFromCivil.den Tryd.prog (fun ρ' ret => ∀ β, ret.val.den (env ρ') β = fromR y m d) [.int .i64 y, .int .i64 m, .int .i64 d] := by
    unfold lengthR at gl
    by_cases hc : 2000 ≤ y ∧ y ≤ 2199 ∧ 1 ≤ m ∧ m ≤ 12
    · rw [if_pos hc] at gl
      refine tree_ite ?_
      refine ev_call [.int .i64 (ml (leapI y) m), .int .i64 0] rfl rfl (pure_gives gl) (fun β => by simp [BTm.den, Tm.i, Tm.s, Tm.den, env, vInt, vBool, vStr, exI, SW.den, SV.den, Cell.den, densP, Piece.den, denV, rowCells_mgk, iv_list, mgl_agg]) (fun β => by simp [BTm.den, Tm.i, Tm.s, Tm.den, env, vInt, vBool, vStr, exI, SW.den, SV.den, Cell.den, densP, Piece.den, denV, rowCells_mgk, iv_list, mgl_agg]) ?_
      refine ev_nil (way_true (by simp [BTm.den, Tm.i, Tm.s, Tm.den, env, vInt, vBool, vStr, exI]) ?_)
      refine tree_ite (ev_nil ⟨fun h2 => tree_leaf (ev_nil fun β => ?_), fun h2 => ?_⟩)
      · have h2 : d < 1 := by simpa [BTm.den, Tm.i, Tm.s, Tm.den, env, vInt, vBool, vStr, exI] using h2
        unfold fromR; rw [if_neg (fun hh => by unfold dateOk at hh; omega)]; simp [BTm.den, Tm.i, Tm.s, Tm.den, env, vInt, vBool, vStr, exI, SW.den, SV.den, Cell.den, densP, Piece.den, denV, denT]
      have h2 : ¬ d < 1 := by simpa [BTm.den, Tm.i, Tm.s, Tm.den, env, vInt, vBool, vStr, exI] using h2
      refine tree_ite (ev_nil ⟨fun h3 => tree_leaf (ev_nil fun β => ?_), fun h3 => tree_leaf ?_⟩)
      · have h3 : ml (leapI y) m < d := by simpa [BTm.den, Tm.i, Tm.s, Tm.den, env, vInt, vBool, vStr, exI] using h3
        unfold fromR; rw [if_neg (fun hh => by unfold dateOk at hh; omega)]; simp [BTm.den, Tm.i, Tm.s, Tm.den, env, vInt, vBool, vStr, exI, SW.den, SV.den, Cell.den, densP, Piece.den, denV, denT]
      have h3 : ¬ ml (leapI y) m < d := by simpa [BTm.den, Tm.i, Tm.s, Tm.den, env, vInt, vBool, vStr, exI] using h3
      have b1 := mb_bound (leapI y) m
      have b2 := ny_bound (y := y) (by omega)
      have b3 := ml_ge (leapI y) hc.2.2.1 hc.2.2.2
      refine ev_call [.int .i64 (ny y + mb (leapI y) m)] rfl rfl (pure_gives (first_p y m (by omega))) (fun β => by simp [BTm.den, Tm.i, Tm.s, Tm.den, env, vInt, vBool, vStr, exI, SW.den, SV.den, Cell.den, densP, Piece.den, denV, rowCells_mgk, iv_list, mgl_agg]) (fun β => by simp [BTm.den, Tm.i, Tm.s, Tm.den, env, vInt, vBool, vStr, exI, SW.den, SV.den, Cell.den, densP, Piece.den, denV, rowCells_mgk, iv_list, mgl_agg]) ?_
      refine ev_fits (ny y + mb (leapI y) m + d) (by simp [BTm.den, Tm.i, Tm.s, Tm.den, env, vInt, vBool, vStr, exI]) (rng_i64 _ (by omega)) ?_
      refine ev_fits (ny y + mb (leapI y) m + d - 1) (by simp [BTm.den, Tm.i, Tm.s, Tm.den, env, vInt, vBool, vStr, exI]) (rng_i64 _ (by omega)) ?_
      refine ev_nil fun β => ?_
      unfold fromR; rw [if_pos (show dateOk y m d by unfold dateOk; omega)]; simp [BTm.den, Tm.i, Tm.s, Tm.den, env, vInt, vBool, vStr, exI, SW.den, SV.den, Cell.den, densP, Piece.den, denV, denT]
    · rw [if_neg hc] at gl
      refine tree_ite ?_
      refine ev_call [.int .i64 0, .int .i64 51] rfl rfl (pure_gives gl) (fun β => by simp [BTm.den, Tm.i, Tm.s, Tm.den, env, vInt, vBool, vStr, exI, SW.den, SV.den, Cell.den, densP, Piece.den, denV, rowCells_mgk, iv_list, mgl_agg]) (fun β => by simp [BTm.den, Tm.i, Tm.s, Tm.den, env, vInt, vBool, vStr, exI, SW.den, SV.den, Cell.den, densP, Piece.den, denV, rowCells_mgk, iv_list, mgl_agg]) ?_
      refine ev_nil (way_false (by simp [BTm.den, Tm.i, Tm.s, Tm.den, env, vInt, vBool, vStr, exI]) (tree_leaf (ev_nil fun β => ?_)))
      unfold fromR; rw [if_neg (fun hh => by unfold dateOk at hh; omega)]; simp [BTm.den, Tm.i, Tm.s, Tm.den, env, vInt, vBool, vStr, exI, SW.den, SV.den, Cell.den, densP, Piece.den, denV, denT]
  have h := pure_of plain [.int .i64 y, .int .i64 m, .int .i64 d] tpFromCivil_ok (by kernel_rfl) _ main
  refine gives_pure ?_
  simpa [intW, BTm.den, Tm.i, Tm.s, Tm.den, env, vInt, vBool, vStr, exI, SW.den, SV.den, Cell.den, densP, Piece.den, denV, denT] using h
theorem years_loop (y m d k : Int) (hy : 2000 ≤ y ∧ y ≤ 2199) (hd : 1 ≤ d ∧ d ≤ 31) :
    Ev.holds Tryd.prog (env [.int .i64 y, .int .i64 m, .int .i64 d, .int .i64 k, .int .i64 0, .int .i64 y, .int .i64 (d - 1 + ny y)]) (.loop 12 0 jdS12_0 jdH12_0 (.exit 0) .none 2) := by
  refine loop_holds plain (m := 2) (x := .exit 0) (alt := none) [.int .i64 y, .int .i64 m, .int .i64 d, .int .i64 k, .int .i64 0] [.int .i64 y, .int .i64 (d - 1 + ny y)] tdFromCivil0_ok tdFromCivil0_fine
    (fun vs => ∃ i : Int, 2000 ≤ i ∧ i ≤ y ∧ vs = [.int .i64 i, .int .i64 (d - 1 + ny i)])
    (fun vs => (y - vInt (vs.getD 0 undef)).toNat) tdFromCivil0_diff ?_ ?_
  · refine ⟨[.int .i64 2000, .int .i64 (d - 1 + ny 2000)], rfl, ⟨2000, by omega, by omega, rfl⟩, ?_⟩
    simp [tdFromCivil0_d, BTm.den, Tm.i, Tm.s, Tm.den, env, vInt, vBool, vStr, exI, SW.den, SV.den, Cell.den, densP, Piece.den, denV, denT, ny_2000]
  · rintro vs hl ⟨i, hi, hi2, rfl⟩
    clear hl
    refine tree_ite (ev_nil ⟨fun hlt => tree_leaf ?_, fun hlt => tree_leaf (ev_nil ?_)⟩)
    · have hlt : i < y := by simpa [BTm.den, Tm.i, Tm.s, Tm.den, env, vInt, vBool, vStr, exI] using hlt
      have e := ny_step (y := i) (by omega)
      have b2 := ny_bound (y := i) (by omega)
      have b3 := lt01 (leapI i)
      have e2 : d - 1 + ny i + (365 + (leapI i).toInt) = d - 1 + ny (i + 1) := by omega
      refine ev_call [.int .i64 (365 + (leapI i).toInt)] rfl rfl (pure_gives (days_d i (by omega))) (fun β => by simp [BTm.den, Tm.i, Tm.s, Tm.den, env, vInt, vBool, vStr, exI, SW.den, SV.den, Cell.den, densP, Piece.den, denV, rowCells_mgk, iv_list, mgl_agg]) (fun β => by simp [BTm.den, Tm.i, Tm.s, Tm.den, env, vInt, vBool, vStr, exI, SW.den, SV.den, Cell.den, densP, Piece.den, denV, rowCells_mgk, iv_list, mgl_agg]) ?_
      refine ev_fits (d - 1 + ny (i + 1)) (by simp [BTm.den, Tm.i, Tm.s, Tm.den, env, vInt, vBool, vStr, exI, e2]) (rng_i64 _ (by omega)) ?_
      refine ev_fits (i + 1) (by simp [BTm.den, Tm.i, Tm.s, Tm.den, env, vInt, vBool, vStr, exI]) (rng_i64 _ (by omega)) ?_
      refine ev_nil ⟨[.int .i64 (i + 1), .int .i64 (d - 1 + ny (i + 1))], rfl, ⟨i + 1, by omega, by omega, rfl⟩, by simp [vInt]; omega, ?_⟩
      simp [BTm.den, Tm.i, Tm.s, Tm.den, env, vInt, vBool, vStr, exI, SW.den, SV.den, Cell.den, densP, Piece.den, denV, denT, e2]
    · have hlt : ¬ i < y := by simpa [BTm.den, Tm.i, Tm.s, Tm.den, env, vInt, vBool, vStr, exI] using hlt
      obtain rfl : i = y := by omega
      refine ⟨rfl, ?_⟩
      simp [BTm.den, Tm.i, Tm.s, Tm.den, env, vInt, vBool, vStr, exI, SW.den, SV.den, Cell.den, densP, Piece.den, denV, denT]
theorem months_loop (y m d k : Int) (hy : 2000 ≤ y ∧ y ≤ 2199) (hm : 1 ≤ m ∧ m ≤ 12) (hd : 1 ≤ d ∧ d ≤ 31) :
    Ev.holds Tryd.prog (env [.int .i64 y, .int .i64 m, .int .i64 d, .int .i64 k, .int .i64 0, .int .i64 y, .int .i64 (d - 1 + ny y), .int .i64 m, .int .i64 (d - 1 + ny y + mb (leapI y) m)]) (.loop 12 1 jdS12_1 jdH12_1 (.exit 2) .none 2) := by
  refine loop_holds plain (m := 2) (x := .exit 2) (alt := none) [.int .i64 y, .int .i64 m, .int .i64 d, .int .i64 k, .int .i64 0, .int .i64 y, .int .i64 (d - 1 + ny y)] [.int .i64 m, .int .i64 (d - 1 + ny y + mb (leapI y) m)] tdFromCivil1_ok tdFromCivil1_fine
    (fun vs => ∃ i : Int, 1 ≤ i ∧ i ≤ m ∧ vs = [.int .i64 i, .int .i64 (d - 1 + ny y + mb (leapI y) i)])
    (fun vs => (m - vInt (vs.getD 0 undef)).toNat) tdFromCivil1_diff ?_ ?_
  · refine ⟨[.int .i64 1, .int .i64 (d - 1 + ny y + mb (leapI y) 1)], rfl, ⟨1, by omega, by omega, rfl⟩, ?_⟩
    simp [tdFromCivil1_d, BTm.den, Tm.i, Tm.s, Tm.den, env, vInt, vBool, vStr, exI, SW.den, SV.den, Cell.den, densP, Piece.den, denV, denT, mb_1]
  · rintro vs hl ⟨i, hi, hi2, rfl⟩
    clear hl
    refine tree_ite (ev_nil ⟨fun hlt => tree_leaf ?_, fun hlt => tree_leaf (ev_nil ?_)⟩)
    · have hlt : i < m := by simpa [BTm.den, Tm.i, Tm.s, Tm.den, env, vInt, vBool, vStr, exI] using hlt
      have b2 := ny_bound (y := y) (by omega)
      have b3 := mb_bound (leapI y) (i + 1)
      have e2 : d - 1 + ny y + mb (leapI y) i + ml (leapI y) i = d - 1 + ny y + mb (leapI y) (i + 1) := by unfold ml; omega
      refine ev_call [.int .i64 (ml (leapI y) i)] rfl rfl (pure_gives (len_d y i (by omega) (by omega))) (fun β => by simp [BTm.den, Tm.i, Tm.s, Tm.den, env, vInt, vBool, vStr, exI, SW.den, SV.den, Cell.den, densP, Piece.den, denV, rowCells_mgk, iv_list, mgl_agg]) (fun β => by simp [BTm.den, Tm.i, Tm.s, Tm.den, env, vInt, vBool, vStr, exI, SW.den, SV.den, Cell.den, densP, Piece.den, denV, rowCells_mgk, iv_list, mgl_agg]) ?_
      refine ev_fits (d - 1 + ny y + mb (leapI y) (i + 1)) (by simp [BTm.den, Tm.i, Tm.s, Tm.den, env, vInt, vBool, vStr, exI, e2]) (rng_i64 _ (by omega)) ?_
      refine ev_fits (i + 1) (by simp [BTm.den, Tm.i, Tm.s, Tm.den, env, vInt, vBool, vStr, exI]) (rng_i64 _ (by omega)) ?_
      refine ev_nil ⟨[.int .i64 (i + 1), .int .i64 (d - 1 + ny y + mb (leapI y) (i + 1))], rfl, ⟨i + 1, by omega, by omega, rfl⟩, by simp [vInt]; omega, ?_⟩
      simp [BTm.den, Tm.i, Tm.s, Tm.den, env, vInt, vBool, vStr, exI, SW.den, SV.den, Cell.den, densP, Piece.den, denV, denT, e2]
    · have hlt : ¬ i < m := by simpa [BTm.den, Tm.i, Tm.s, Tm.den, env, vInt, vBool, vStr, exI] using hlt
      obtain rfl : i = m := by omega
      refine ⟨rfl, ?_⟩
      simp [BTm.den, Tm.i, Tm.s, Tm.den, env, vInt, vBool, vStr, exI, SW.den, SV.den, Cell.den, densP, Piece.den, denV, denT]
theorem from_d (y m d : Int) : Gives Tryd.prog 12 #[.int .i64 y, .int .i64 m, .int .i64 d] (fromR y m d) := by
  have gl := length_d y m
  have main : tdFromCivil.den Tryd.prog (fun ρ' ret => ∀ β, ret.val.den (env ρ') β = fromR y m d) [.int .i64 y, .int .i64 m, .int .i64 d] := by
    unfold lengthR at gl
    by_cases hc : 2000 ≤ y ∧ y ≤ 2199 ∧ 1 ≤ m ∧ m ≤ 12
    · rw [if_pos hc] at gl
      refine tree_ite ?_
      refine ev_call [.int .i64 (ml (leapI y) m), .int .i64 0] rfl rfl (pure_gives gl) (fun β => by simp [BTm.den, Tm.i, Tm.s, Tm.den, env, vInt, vBool, vStr, exI, SW.den, SV.den, Cell.den, densP, Piece.den, denV, rowCells_mgk, iv_list, mgl_agg]) (fun β => by simp [BTm.den, Tm.i, Tm.s, Tm.den, env, vInt, vBool, vStr, exI, SW.den, SV.den, Cell.den, densP, Piece.den, denV, rowCells_mgk, iv_list, mgl_agg]) ?_
      refine ev_nil (way_true (by simp [BTm.den, Tm.i, Tm.s, Tm.den, env, vInt, vBool, vStr, exI]) ?_)
      refine tree_ite (ev_nil ⟨fun h2 => tree_leaf (ev_nil fun β => ?_), fun h2 => ?_⟩)
      · have h2 : d < 1 := by simpa [BTm.den, Tm.i, Tm.s, Tm.den, env, vInt, vBool, vStr, exI] using h2
        unfold fromR; rw [if_neg (fun hh => by unfold dateOk at hh; omega)]; simp [BTm.den, Tm.i, Tm.s, Tm.den, env, vInt, vBool, vStr, exI, SW.den, SV.den, Cell.den, densP, Piece.den, denV, denT]
      have h2 : ¬ d < 1 := by simpa [BTm.den, Tm.i, Tm.s, Tm.den, env, vInt, vBool, vStr, exI] using h2
      refine tree_ite (ev_nil ⟨fun h3 => tree_leaf (ev_nil fun β => ?_), fun h3 => tree_leaf ?_⟩)
      · have h3 : ml (leapI y) m < d := by simpa [BTm.den, Tm.i, Tm.s, Tm.den, env, vInt, vBool, vStr, exI] using h3
        unfold fromR; rw [if_neg (fun hh => by unfold dateOk at hh; omega)]; simp [BTm.den, Tm.i, Tm.s, Tm.den, env, vInt, vBool, vStr, exI, SW.den, SV.den, Cell.den, densP, Piece.den, denV, denT]
      have h3 : ¬ ml (leapI y) m < d := by simpa [BTm.den, Tm.i, Tm.s, Tm.den, env, vInt, vBool, vStr, exI] using h3
      have b3 := ml_ge (leapI y) hc.2.2.1 hc.2.2.2
      refine ev_fits (d - 1) (by simp [BTm.den, Tm.i, Tm.s, Tm.den, env, vInt, vBool, vStr, exI]) (rng_i64 _ (by omega)) ?_
      refine ev_loop [.int .i64 y, .int .i64 (d - 1 + ny y)] rfl rfl (years_loop y m d _ (by omega) (by omega)) ?_
      refine ev_loop [.int .i64 m, .int .i64 (d - 1 + ny y + mb (leapI y) m)] rfl rfl (months_loop y m d _ (by omega) (by omega) (by omega)) ?_
      refine ev_nil fun β => ?_
      unfold fromR; rw [if_pos (show dateOk y m d by unfold dateOk; omega)]
      simp [BTm.den, Tm.i, Tm.s, Tm.den, env, vInt, vBool, vStr, exI, SW.den, SV.den, Cell.den, densP, Piece.den, denV, denT]; omega
    · rw [if_neg hc] at gl
      refine tree_ite ?_
      refine ev_call [.int .i64 0, .int .i64 51] rfl rfl (pure_gives gl) (fun β => by simp [BTm.den, Tm.i, Tm.s, Tm.den, env, vInt, vBool, vStr, exI, SW.den, SV.den, Cell.den, densP, Piece.den, denV, rowCells_mgk, iv_list, mgl_agg]) (fun β => by simp [BTm.den, Tm.i, Tm.s, Tm.den, env, vInt, vBool, vStr, exI, SW.den, SV.den, Cell.den, densP, Piece.den, denV, rowCells_mgk, iv_list, mgl_agg]) ?_
      refine ev_nil (way_false (by simp [BTm.den, Tm.i, Tm.s, Tm.den, env, vInt, vBool, vStr, exI]) (tree_leaf (ev_nil fun β => ?_)))
      unfold fromR; rw [if_neg (fun hh => by unfold dateOk at hh; omega)]; simp [BTm.den, Tm.i, Tm.s, Tm.den, env, vInt, vBool, vStr, exI, SW.den, SV.den, Cell.den, densP, Piece.den, denV, denT]
  have h := pure_of plain [.int .i64 y, .int .i64 m, .int .i64 d] tdFromCivil_ok (by kernel_rfl) _ main
  refine gives_pure ?_
  simpa [intW, BTm.den, Tm.i, Tm.s, Tm.den, env, vInt, vBool, vStr, exI, SW.den, SV.den, Cell.den, densP, Piece.den, denV, denT] using h
end Go.Proofs.YteemnnajfiimlaaDoor
