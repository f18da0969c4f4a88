/- The date of a day; weekdays, ends of months, months added: both sides. -/
import Derived.Test.YteemnnajfiimlaaDoorJc
namespace Go.Proofs.YteemnnajfiimlaaDoor
open Go.RowKit Go.Proofs.YteemnnajfiimlaaDoor.Sx
set_option linter.unusedSimpArgs false
set_option linter.unusedVariables false

def civilErr : Value := .tuple #[.int .i64 0, .int .i64 0, .int .i64 0, .int .i64 50]
def civilV (y m d : Int) : Value := .tuple #[.int .i64 y, .int .i64 m, .int .i64 d, .int .i64 0]
theorem civil_out_p (n : Int) (h : n < 0 ∨ 73048 < n) : Gives Tryd.prog 13 #[.int .i64 n] civilErr := by
  have main : tpCivil.den Tryd.prog (fun ρ' ret => ∀ β, ret.val.den (env ρ') β = civilErr) [.int .i64 n] := by
    refine tree_ite (ev_nil ⟨fun h1 => tree_leaf (ev_nil fun β => ?_), fun h1 => ?_⟩)
    · simp [BTm.den, Tm.i, Tm.s, Tm.den, env, vInt, vBool, vStr, exI, SW.den, SV.den, Cell.den, densP, Piece.den, denV, denT, civilErr]
    have h1 : ¬ n < 0 := by simpa [BTm.den, Tm.i, Tm.s, Tm.den, env, vInt, vBool, vStr, exI] using h1
    refine tree_ite (ev_nil (way_true (by simp [BTm.den, Tm.i, Tm.s, Tm.den, env, vInt, vBool, vStr, exI]; omega) (tree_leaf (ev_nil fun β => ?_))))
    simp [BTm.den, Tm.i, Tm.s, Tm.den, env, vInt, vBool, vStr, exI, SW.den, SV.den, Cell.den, densP, Piece.den, denV, denT, civilErr]
  have h := pure_of plain [.int .i64 n] tpCivil_ok (by kernel_rfl) _ main
  refine gives_pure ?_
  simpa [intW, BTm.den, Tm.i, Tm.s, Tm.den, env, vInt, vBool, vStr, exI, SW.den, SV.den, Cell.den, densP, Piece.den, denV, denT] using h
theorem civil_out_d (n : Int) (h : n < 0 ∨ 73048 < n) : Gives Tryd.prog 14 #[.int .i64 n] civilErr := by
  have main : tdCivil.den Tryd.prog (fun ρ' ret => ∀ β, ret.val.den (env ρ') β = civilErr) [.int .i64 n] := by
    refine tree_ite (ev_nil ⟨fun h1 => tree_leaf (ev_nil fun β => ?_), fun h1 => ?_⟩)
    · simp [BTm.den, Tm.i, Tm.s, Tm.den, env, vInt, vBool, vStr, exI, SW.den, SV.den, Cell.den, densP, Piece.den, denV, denT, civilErr]
    have h1 : ¬ n < 0 := by simpa [BTm.den, Tm.i, Tm.s, Tm.den, env, vInt, vBool, vStr, exI] using h1
    refine tree_ite (ev_nil (way_true (by simp [BTm.den, Tm.i, Tm.s, Tm.den, env, vInt, vBool, vStr, exI]; omega) (tree_leaf (ev_nil fun β => ?_))))
    simp [BTm.den, Tm.i, Tm.s, Tm.den, env, vInt, vBool, vStr, exI, SW.den, SV.den, Cell.den, densP, Piece.den, denV, denT, civilErr]
  have h := pure_of plain [.int .i64 n] tdCivil_ok (by kernel_rfl) _ main
  refine gives_pure ?_
  simpa [intW, BTm.den, Tm.i, Tm.s, Tm.den, env, vInt, vBool, vStr, exI, SW.den, SV.den, Cell.den, densP, Piece.den, denV, denT] using h
theorem month_loop (n y m d z : Int) (h : IsCivil n y m d) (e : 2000 + n.tdiv 365 - 1 = y) :
    Ev.holds Tryd.prog (env [.int .i64 n, .int .i64 z, .int .i64 m]) (.loop 13 0 jdS13_0 jdH13_0 (.exit 0) .none 1) := by
  have m1 := h.m1; have m2 := h.m2; have im := h.inMonth; have y1 := h.y1; have y2 := h.y2
  refine loop_holds plain (m := 1) (x := .exit 0) (alt := none) [.int .i64 n, .int .i64 z] [.int .i64 m] tpCivil0_ok tpCivil0_fine
    (fun vs => ∃ i : Int, m ≤ i ∧ i ≤ 12 ∧ vs = [.int .i64 i])
    (fun vs => (vInt (vs.getD 0 undef)).toNat) tpCivil0_diff ?_ ?_
  · refine ⟨[.int .i64 12], rfl, ⟨12, by omega, by omega, rfl⟩, ?_⟩
    simp [tpCivil0_d, BTm.den, Tm.i, Tm.s, Tm.den, env, vInt, vBool, vStr, exI, SW.den, SV.den, Cell.den, densP, Piece.den, denV, denT]
  · rintro vs hl ⟨i, hi, hi2, rfl⟩
    clear hl
    refine tree_ite ?_
    refine ev_call [.int .i64 (ny y + mb (leapI y) i)] rfl rfl (pure_gives (first_p y i (by omega))) (fun β => by simp [BTm.den, Tm.i, Tm.s, Tm.den, env, vInt, vBool, vStr, exI, SW.den, SV.den, Cell.den, densP, Piece.den, denV, denT, e]) (fun β => by simp [BTm.den, Tm.i, Tm.s, Tm.den, env, vInt, vBool, vStr, exI, SW.den, SV.den, Cell.den, densP, Piece.den, denV, denT]) ?_
    refine ev_nil ⟨fun hlt => tree_leaf ?_, fun hlt => tree_leaf (ev_nil ?_)⟩
    · have hlt : n < ny y + mb (leapI y) i := by simpa [BTm.den, Tm.i, Tm.s, Tm.den, env, vInt, vBool, vStr, exI] using hlt
      have hne : m < i := by
        rcases Int.lt_or_le m i with a | a
        · exact a
        · have : i = m := by omega
          subst this; omega
      refine ev_fits (i - 1) (by simp [BTm.den, Tm.i, Tm.s, Tm.den, env, vInt, vBool, vStr, exI]) (rng_i64 _ (by omega)) ?_
      refine ev_nil ⟨[.int .i64 (i - 1)], rfl, ⟨i - 1, by omega, by omega, rfl⟩, by simp [vInt]; omega, ?_⟩
      simp [BTm.den, Tm.i, Tm.s, Tm.den, env, vInt, vBool, vStr, exI, SW.den, SV.den, Cell.den, densP, Piece.den, denV, denT]
    · have hlt : ¬ n < ny y + mb (leapI y) i := by simpa [BTm.den, Tm.i, Tm.s, Tm.den, env, vInt, vBool, vStr, exI] using hlt
      have : i = m := by
        rcases Int.lt_or_le m i with a | a
        · have b := mb_mono (leapI y) m1 a (by omega)
          rw [← mb_step] at b
          omega
        · omega
      subst this
      refine ⟨rfl, ?_⟩
      simp [BTm.den, Tm.i, Tm.s, Tm.den, env, vInt, vBool, vStr, exI, SW.den, SV.den, Cell.den, densP, Piece.den, denV, denT]
theorem month_loopb (n y m d z : Int) (h : IsCivil n y m d) (e : 2000 + n.tdiv 365 = y) :
    Ev.holds Tryd.prog (env [.int .i64 n, .int .i64 z, .int .i64 m]) (.loop 13 0 jdS13_0b jdH13_0b (.exit 0) .none 1) := by
  have m1 := h.m1; have m2 := h.m2; have im := h.inMonth; have y1 := h.y1; have y2 := h.y2
  refine loop_holds plain (m := 1) (x := .exit 0) (alt := none) [.int .i64 n, .int .i64 z] [.int .i64 m] tpCivil0b_ok tpCivil0b_fine
    (fun vs => ∃ i : Int, m ≤ i ∧ i ≤ 12 ∧ vs = [.int .i64 i])
    (fun vs => (vInt (vs.getD 0 undef)).toNat) tpCivil0b_diff ?_ ?_
  · refine ⟨[.int .i64 12], rfl, ⟨12, by omega, by omega, rfl⟩, ?_⟩
    simp [tpCivil0b_d, BTm.den, Tm.i, Tm.s, Tm.den, env, vInt, vBool, vStr, exI, SW.den, SV.den, Cell.den, densP, Piece.den, denV, denT]
  · rintro vs hl ⟨i, hi, hi2, rfl⟩
    clear hl
    refine tree_ite ?_
    refine ev_call [.int .i64 (ny y + mb (leapI y) i)] rfl rfl (pure_gives (first_p y i (by omega))) (fun β => by simp [BTm.den, Tm.i, Tm.s, Tm.den, env, vInt, vBool, vStr, exI, SW.den, SV.den, Cell.den, densP, Piece.den, denV, denT, e]) (fun β => by simp [BTm.den, Tm.i, Tm.s, Tm.den, env, vInt, vBool, vStr, exI, SW.den, SV.den, Cell.den, densP, Piece.den, denV, denT]) ?_
    refine ev_nil ⟨fun hlt => tree_leaf ?_, fun hlt => tree_leaf (ev_nil ?_)⟩
    · have hlt : n < ny y + mb (leapI y) i := by simpa [BTm.den, Tm.i, Tm.s, Tm.den, env, vInt, vBool, vStr, exI] using hlt
      have hne : m < i := by
        rcases Int.lt_or_le m i with a | a
        · exact a
        · have : i = m := by omega
          subst this; omega
      refine ev_fits (i - 1) (by simp [BTm.den, Tm.i, Tm.s, Tm.den, env, vInt, vBool, vStr, exI]) (rng_i64 _ (by omega)) ?_
      refine ev_nil ⟨[.int .i64 (i - 1)], rfl, ⟨i - 1, by omega, by omega, rfl⟩, by simp [vInt]; omega, ?_⟩
      simp [BTm.den, Tm.i, Tm.s, Tm.den, env, vInt, vBool, vStr, exI, SW.den, SV.den, Cell.den, densP, Piece.den, denV, denT]
    · have hlt : ¬ n < ny y + mb (leapI y) i := by simpa [BTm.den, Tm.i, Tm.s, Tm.den, env, vInt, vBool, vStr, exI] using hlt
      have : i = m := by
        rcases Int.lt_or_le m i with a | a
        · have b := mb_mono (leapI y) m1 a (by omega)
          rw [← mb_step] at b
          omega
        · omega
      subst this
      refine ⟨rfl, ?_⟩
      simp [BTm.den, Tm.i, Tm.s, Tm.den, env, vInt, vBool, vStr, exI, SW.den, SV.den, Cell.den, densP, Piece.den, denV, denT]
theorem civil_p {n y m d : Int} (h : IsCivil n y m d) : Gives Tryd.prog 13 #[.int .i64 n] (civilV y m d) := by
  have hr := h.range
  have iy := h.inYear
  have y1 := h.y1; have y2 := h.y2
  have im := h.inMonth
  have gs := guess y1 y2 iy.1 iy.2
  have e : n.tdiv 365 = n / 365 := Int.tdiv_eq_ediv_of_nonneg (by omega)
  have hd : n - (ny y + mb (leapI y) m) + 1 = d := by have := h.e; omega
  have b1 := mb_bound (leapI y) m
  have b2 := ny_bound (y := y) (by omega)
  have main : tpCivil.den Tryd.prog (fun ρ' ret => ∀ β, ret.val.den (env ρ') β = civilV y m d) [.int .i64 n] := by
    refine tree_ite (ev_nil (way_false (by simp [BTm.den, Tm.i, Tm.s, Tm.den, env, vInt, vBool, vStr, exI]; omega) ?_))
    refine tree_ite (ev_nil (way_false (by simp [BTm.den, Tm.i, Tm.s, Tm.den, env, vInt, vBool, vStr, exI]; omega) ?_))
    refine tree_ite ?_
    refine ev_fits (n / 365) (by simp [BTm.den, Tm.i, Tm.s, Tm.den, env, vInt, vBool, vStr, exI, e]) (rng_i64 _ (by omega)) ?_
    refine ev_fits (2000 + n / 365) (by simp [BTm.den, Tm.i, Tm.s, Tm.den, env, vInt, vBool, vStr, exI, e]) (rng_i64 _ (by omega)) ?_
    refine ev_call [.int .i64 (ny (2000 + n / 365))] rfl rfl (pure_gives (newYear_p (2000 + n / 365) (by omega))) (fun β => by simp [BTm.den, Tm.i, Tm.s, Tm.den, env, vInt, vBool, vStr, exI, SW.den, SV.den, Cell.den, densP, Piece.den, denV, denT, e]) (fun β => by simp [BTm.den, Tm.i, Tm.s, Tm.den, env, vInt, vBool, vStr, exI, SW.den, SV.den, Cell.den, densP, Piece.den, denV, denT]) ?_
    refine ev_nil ⟨fun h1 => tree_leaf ?_, fun h1 => tree_leaf ?_⟩
    · have h1 : n < ny (2000 + n / 365) := by simpa [BTm.den, Tm.i, Tm.s, Tm.den, env, vInt, vBool, vStr, exI] using h1
      have hy : 2000 + n / 365 - 1 = y := by
        rcases Int.lt_or_le y (2000 + n / 365) with a | a
        · omega
        · have : 2000 + n / 365 = y := by omega
          rw [this] at h1; omega
      have hy' : 2000 + n.tdiv 365 - 1 = y := by rw [e]; exact hy
      refine ev_fits y (by simp [BTm.den, Tm.i, Tm.s, Tm.den, env, vInt, vBool, vStr, exI, hy']) (rng_i64 _ (by omega)) ?_
      refine ev_loop [.int .i64 m] rfl rfl (month_loop n y m d _ h hy') ?_
      refine ev_call [.int .i64 (ny y + mb (leapI y) m)] rfl rfl (pure_gives (first_p y m (by omega))) (fun β => by simp [BTm.den, Tm.i, Tm.s, Tm.den, env, vInt, vBool, vStr, exI, SW.den, SV.den, Cell.den, densP, Piece.den, denV, denT, hy']) (fun β => by simp [BTm.den, Tm.i, Tm.s, Tm.den, env, vInt, vBool, vStr, exI, SW.den, SV.den, Cell.den, densP, Piece.den, denV, denT]) ?_
      refine ev_fits (n - (ny y + mb (leapI y) m)) (by simp [BTm.den, Tm.i, Tm.s, Tm.den, env, vInt, vBool, vStr, exI]) (rng_i64 _ (by omega)) ?_
      refine ev_fits (n - (ny y + mb (leapI y) m) + 1) (by simp [BTm.den, Tm.i, Tm.s, Tm.den, env, vInt, vBool, vStr, exI]) (rng_i64 _ (by omega)) ?_
      refine ev_nil fun β => ?_
      simp [BTm.den, Tm.i, Tm.s, Tm.den, env, vInt, vBool, vStr, exI, SW.den, SV.den, Cell.den, densP, Piece.den, denV, denT, civilV, hy', hd]
    · have h1 : ¬ n < ny (2000 + n / 365) := by simpa [BTm.den, Tm.i, Tm.s, Tm.den, env, vInt, vBool, vStr, exI] using h1
      have hy : 2000 + n / 365 = y := by
        rcases Int.lt_or_le y (2000 + n / 365) with a | a
        · have : 2000 + n / 365 = y + 1 := by omega
          rw [this] at h1; omega
        · omega
      have hy' : 2000 + n.tdiv 365 = y := by rw [e]; exact hy
      refine ev_loop [.int .i64 m] rfl rfl (month_loopb n y m d _ h hy') ?_
      refine ev_call [.int .i64 (ny y + mb (leapI y) m)] rfl rfl (pure_gives (first_p y m (by omega))) (fun β => by simp [BTm.den, Tm.i, Tm.s, Tm.den, env, vInt, vBool, vStr, exI, SW.den, SV.den, Cell.den, densP, Piece.den, denV, denT, hy']) (fun β => by simp [BTm.den, Tm.i, Tm.s, Tm.den, env, vInt, vBool, vStr, exI, SW.den, SV.den, Cell.den, densP, Piece.den, denV, denT]) ?_
      refine ev_fits (n - (ny y + mb (leapI y) m)) (by simp [BTm.den, Tm.i, Tm.s, Tm.den, env, vInt, vBool, vStr, exI]) (rng_i64 _ (by omega)) ?_
      refine ev_fits (n - (ny y + mb (leapI y) m) + 1) (by simp [BTm.den, Tm.i, Tm.s, Tm.den, env, vInt, vBool, vStr, exI]) (rng_i64 _ (by omega)) ?_
      refine ev_nil fun β => ?_
      simp [BTm.den, Tm.i, Tm.s, Tm.den, env, vInt, vBool, vStr, exI, SW.den, SV.den, Cell.den, densP, Piece.den, denV, denT, civilV, hy', hd]
  have h := pure_of plain [.int .i64 n] tpCivil_ok (by kernel_rfl) _ main
  refine gives_pure ?_
  simpa [intW, BTm.den, Tm.i, Tm.s, Tm.den, env, vInt, vBool, vStr, exI, SW.den, SV.den, Cell.den, densP, Piece.den, denV, denT] using h
theorem yearsDown_loop (n y m d : Int) (h : IsCivil n y m d) :
    Ev.holds Tryd.prog (env [.int .i64 n, .int .i64 (n - ny y), .int .i64 y]) (.loop 14 0 jdS14_0 jdH14_0 (.exit 0) .none 2) := by
  have hr := h.range
  have iy := h.inYear
  have y1 := h.y1; have y2 := h.y2
  refine loop_holds plain (m := 2) (x := .exit 0) (alt := none) [.int .i64 n] [.int .i64 (n - ny y), .int .i64 y] tdCivil0_ok tdCivil0_fine
    (fun vs => ∃ i : Int, 2000 ≤ i ∧ i ≤ y ∧ vs = [.int .i64 (n - ny i), .int .i64 i])
    (fun vs => (3000 - vInt (vs.getD 1 undef)).toNat) tdCivil0_diff ?_ ?_
  · refine ⟨[.int .i64 (n - ny 2000), .int .i64 2000], rfl, ⟨2000, by omega, by omega, rfl⟩, ?_⟩
    simp [tdCivil0_d, BTm.den, Tm.i, Tm.s, Tm.den, env, vInt, vBool, vStr, exI, SW.den, SV.den, Cell.den, densP, Piece.den, denV, denT, ny_2000]
  · rintro vs hl ⟨i, hi, hi2, rfl⟩
    clear hl
    have b2 := ny_bound (y := i) (by omega)
    have b3 := lt01 (leapI i)
    have e := ny_step (y := i) (by omega)
    refine tree_ite ?_
    refine ev_call [.int .i64 (365 + (leapI i).toInt)] rfl rfl (pure_gives (days_d i (by omega))) (fun β => by simp [BTm.den, Tm.i, Tm.s, Tm.den, env, vInt, vBool, vStr, exI, SW.den, SV.den, Cell.den, densP, Piece.den, denV, rowCells_mgk, iv_list, mgl_agg]) (fun β => by simp [BTm.den, Tm.i, Tm.s, Tm.den, env, vInt, vBool, vStr, exI, SW.den, SV.den, Cell.den, densP, Piece.den, denV, rowCells_mgk, iv_list, mgl_agg]) ?_
    refine ev_nil ⟨fun hlt => tree_leaf (ev_nil ?_), fun hlt => tree_leaf ?_⟩
    · have hlt : n - ny i < 365 + (leapI i).toInt := by simpa [BTm.den, Tm.i, Tm.s, Tm.den, env, vInt, vBool, vStr, exI] using hlt
      have : i = y := by
        rcases Int.lt_or_le i y with a | a
        · have := ny_mono (y := i) (by omega) a; omega
        · omega
      subst this
      refine ⟨rfl, ?_⟩
      simp [BTm.den, Tm.i, Tm.s, Tm.den, env, vInt, vBool, vStr, exI, SW.den, SV.den, Cell.den, densP, Piece.den, denV, denT]
    · have hlt : ¬ n - ny i < 365 + (leapI i).toInt := by simpa [BTm.den, Tm.i, Tm.s, Tm.den, env, vInt, vBool, vStr, exI] using hlt
      have hne : i < y := by
        rcases Int.lt_or_le i y with a | a
        · exact a
        · have : i = y := by omega
          subst this; omega
      have e2 : n - ny i - (365 + (leapI i).toInt) = n - ny (i + 1) := by omega
      refine ev_call [.int .i64 (365 + (leapI i).toInt)] rfl rfl (pure_gives (days_d i (by omega))) (fun β => by simp [BTm.den, Tm.i, Tm.s, Tm.den, env, vInt, vBool, vStr, exI, SW.den, SV.den, Cell.den, densP, Piece.den, denV, rowCells_mgk, iv_list, mgl_agg]) (fun β => by simp [BTm.den, Tm.i, Tm.s, Tm.den, env, vInt, vBool, vStr, exI, SW.den, SV.den, Cell.den, densP, Piece.den, denV, rowCells_mgk, iv_list, mgl_agg]) ?_
      refine ev_fits (n - ny (i + 1)) (by simp [BTm.den, Tm.i, Tm.s, Tm.den, env, vInt, vBool, vStr, exI, e2]) (rng_i64 _ (by omega)) ?_
      refine ev_fits (i + 1) (by simp [BTm.den, Tm.i, Tm.s, Tm.den, env, vInt, vBool, vStr, exI]) (rng_i64 _ (by omega)) ?_
      refine ev_nil ⟨[.int .i64 (n - ny (i + 1)), .int .i64 (i + 1)], rfl, ⟨i + 1, by omega, by omega, rfl⟩, by simp [vInt]; omega, ?_⟩
      simp [BTm.den, Tm.i, Tm.s, Tm.den, env, vInt, vBool, vStr, exI, SW.den, SV.den, Cell.den, densP, Piece.den, denV, denT, e2]
theorem monthsDown_loop (n y m d : Int) (h : IsCivil n y m d) :
    Ev.holds Tryd.prog (env [.int .i64 n, .int .i64 (n - ny y), .int .i64 y, .int .i64 (n - ny y - mb (leapI y) m), .int .i64 m]) (.loop 14 1 jdS14_1 jdH14_1 (.exit 2) .none 2) := by
  have hr := h.range
  have im := h.inMonth
  have y1 := h.y1; have y2 := h.y2; have m1 := h.m1; have m2 := h.m2
  have b2 := ny_bound (y := y) (by omega)
  refine loop_holds plain (m := 2) (x := .exit 2) (alt := none) [.int .i64 n, .int .i64 (n - ny y), .int .i64 y] [.int .i64 (n - ny y - mb (leapI y) m), .int .i64 m] tdCivil1_ok tdCivil1_fine
    (fun vs => ∃ i : Int, 1 ≤ i ∧ i ≤ m ∧ vs = [.int .i64 (n - ny y - mb (leapI y) i), .int .i64 i])
    (fun vs => (30 - vInt (vs.getD 1 undef)).toNat) tdCivil1_diff ?_ ?_
  · refine ⟨[.int .i64 (n - ny y - mb (leapI y) 1), .int .i64 1], rfl, ⟨1, by omega, by omega, rfl⟩, ?_⟩
    simp [tdCivil1_d, BTm.den, Tm.i, Tm.s, Tm.den, env, vInt, vBool, vStr, exI, SW.den, SV.den, Cell.den, densP, Piece.den, denV, denT, mb_1]
  · rintro vs hl ⟨i, hi, hi2, rfl⟩
    clear hl
    have b3 := mb_bound (leapI y) i
    have b4 := mb_bound (leapI y) (i + 1)
    have e := mb_step (leapI y) i
    refine tree_ite ?_
    refine ev_call [.int .i64 (ml (leapI y) i)] rfl rfl (pure_gives (len_d y i (by omega) (by omega))) (fun β => by simp [BTm.den, Tm.i, Tm.s, Tm.den, env, vInt, vBool, vStr, exI, SW.den, SV.den, Cell.den, densP, Piece.den, denV, rowCells_mgk, iv_list, mgl_agg]) (fun β => by simp [BTm.den, Tm.i, Tm.s, Tm.den, env, vInt, vBool, vStr, exI, SW.den, SV.den, Cell.den, densP, Piece.den, denV, rowCells_mgk, iv_list, mgl_agg]) ?_
    refine ev_nil ⟨fun hlt => tree_leaf (ev_nil ?_), fun hlt => tree_leaf ?_⟩
    · have hlt : n - ny y - mb (leapI y) i < ml (leapI y) i := by simpa [BTm.den, Tm.i, Tm.s, Tm.den, env, vInt, vBool, vStr, exI] using hlt
      have : i = m := by
        rcases Int.lt_or_le i m with a | a
        · have := mb_mono (leapI y) (m := i) (by omega) a (by omega); omega
        · omega
      subst this
      refine ⟨rfl, ?_⟩
      simp [BTm.den, Tm.i, Tm.s, Tm.den, env, vInt, vBool, vStr, exI, SW.den, SV.den, Cell.den, densP, Piece.den, denV, denT]
    · have hlt : ¬ n - ny y - mb (leapI y) i < ml (leapI y) i := by simpa [BTm.den, Tm.i, Tm.s, Tm.den, env, vInt, vBool, vStr, exI] using hlt
      have hne : i < m := by
        rcases Int.lt_or_le i m with a | a
        · exact a
        · have : i = m := by omega
          subst this; omega
      have e2 : n - ny y - mb (leapI y) i - ml (leapI y) i = n - ny y - mb (leapI y) (i + 1) := by omega
      refine ev_call [.int .i64 (ml (leapI y) i)] rfl rfl (pure_gives (len_d y i (by omega) (by omega))) (fun β => by simp [BTm.den, Tm.i, Tm.s, Tm.den, env, vInt, vBool, vStr, exI, SW.den, SV.den, Cell.den, densP, Piece.den, denV, rowCells_mgk, iv_list, mgl_agg]) (fun β => by simp [BTm.den, Tm.i, Tm.s, Tm.den, env, vInt, vBool, vStr, exI, SW.den, SV.den, Cell.den, densP, Piece.den, denV, rowCells_mgk, iv_list, mgl_agg]) ?_
      refine ev_fits (n - ny y - mb (leapI y) (i + 1)) (by simp [BTm.den, Tm.i, Tm.s, Tm.den, env, vInt, vBool, vStr, exI, e2]) (rng_i64 _ (by omega)) ?_
      refine ev_fits (i + 1) (by simp [BTm.den, Tm.i, Tm.s, Tm.den, env, vInt, vBool, vStr, exI]) (rng_i64 _ (by omega)) ?_
      refine ev_nil ⟨[.int .i64 (n - ny y - mb (leapI y) (i + 1)), .int .i64 (i + 1)], rfl, ⟨i + 1, by omega, by omega, rfl⟩, by simp [vInt]; omega, ?_⟩
      simp [BTm.den, Tm.i, Tm.s, Tm.den, env, vInt, vBool, vStr, exI, SW.den, SV.den, Cell.den, densP, Piece.den, denV, denT, e2]
theorem civil_d {n y m d : Int} (h : IsCivil n y m d) : Gives Tryd.prog 14 #[.int .i64 n] (civilV y m d) := by
  have hr := h.range
  have hd : n - ny y - mb (leapI y) m + 1 = d := by have := h.e; omega
  have b3 := ml_ge (leapI y) h.m1 h.m2
  have d1 := h.d1; have d2 := h.d2
  have main : tdCivil.den Tryd.prog (fun ρ' ret => ∀ β, ret.val.den (env ρ') β = civilV y m d) [.int .i64 n] := by
    refine tree_ite (ev_nil (way_false (by simp [BTm.den, Tm.i, Tm.s, Tm.den, env, vInt, vBool, vStr, exI]; omega) ?_))
    refine tree_ite (ev_nil (way_false (by simp [BTm.den, Tm.i, Tm.s, Tm.den, env, vInt, vBool, vStr, exI]; omega) (tree_leaf ?_)))
    refine ev_loop [.int .i64 (n - ny y), .int .i64 y] rfl rfl (yearsDown_loop n y m d h) ?_
    refine ev_loop [.int .i64 (n - ny y - mb (leapI y) m), .int .i64 m] rfl rfl (monthsDown_loop n y m d h) ?_
    refine ev_fits (n - ny y - mb (leapI y) m + 1) (by simp [BTm.den, Tm.i, Tm.s, Tm.den, env, vInt, vBool, vStr, exI]) (rng_i64 _ (by omega)) ?_
    refine ev_nil fun β => ?_
    simp [BTm.den, Tm.i, Tm.s, Tm.den, env, vInt, vBool, vStr, exI, SW.den, SV.den, Cell.den, densP, Piece.den, denV, denT, civilV, hd]
  have h := pure_of plain [.int .i64 n] tdCivil_ok (by kernel_rfl) _ main
  refine gives_pure ?_
  simpa [intW, BTm.den, Tm.i, Tm.s, Tm.den, env, vInt, vBool, vStr, exI, SW.den, SV.den, Cell.den, densP, Piece.den, denV, denT] using h

def weekR (n : Int) : Value := if 0 ≤ n ∧ n ≤ 73048 then .tuple #[.int .i64 ((n + 5) % 7), .int .i64 0] else .tuple #[.int .i64 0, .int .i64 50]
theorem week_p (n : Int) : Gives Tryd.prog 19 #[.int .i64 n] (weekR n) := by
  have main : tpWeekday.den Tryd.prog (fun ρ' ret => ∀ β, ret.val.den (env ρ') β = weekR n) [.int .i64 n] := by
    refine tree_ite (ev_nil ⟨fun h1 => tree_leaf (ev_nil fun β => ?_), fun h1 => ?_⟩)
    · have h1 : n < 0 := by simpa [BTm.den, Tm.i, Tm.s, Tm.den, env, vInt, vBool, vStr, exI] using h1
      unfold weekR; rw [if_neg (by omega)]; simp [BTm.den, Tm.i, Tm.s, Tm.den, env, vInt, vBool, vStr, exI, SW.den, SV.den, Cell.den, densP, Piece.den, denV, denT]
    have h1 : ¬ n < 0 := by simpa [BTm.den, Tm.i, Tm.s, Tm.den, env, vInt, vBool, vStr, exI] using h1
    refine tree_ite (ev_nil ⟨fun h2 => tree_leaf (ev_nil fun β => ?_), fun h2 => tree_leaf ?_⟩)
    · have h2 : 73048 < n := by simpa [BTm.den, Tm.i, Tm.s, Tm.den, env, vInt, vBool, vStr, exI] using h2
      unfold weekR; rw [if_neg (by omega)]; simp [BTm.den, Tm.i, Tm.s, Tm.den, env, vInt, vBool, vStr, exI, SW.den, SV.den, Cell.den, densP, Piece.den, denV, denT]
    have h2 : ¬ 73048 < n := by simpa [BTm.den, Tm.i, Tm.s, Tm.den, env, vInt, vBool, vStr, exI] using h2
    have e : (5 + n).tmod 7 = (n + 5) % 7 := by rw [Int.tmod_eq_emod_of_nonneg (by omega)]; omega
    refine ev_fits (5 + n) (by simp [BTm.den, Tm.i, Tm.s, Tm.den, env, vInt, vBool, vStr, exI]) (rng_i64 _ (by omega)) ?_
    refine ev_fits ((n + 5) % 7) (by simp [BTm.den, Tm.i, Tm.s, Tm.den, env, vInt, vBool, vStr, exI, e]) (rng_i64 _ (by omega)) ?_
    refine ev_nil fun β => ?_
    unfold weekR; rw [if_pos (by omega)]; simp [BTm.den, Tm.i, Tm.s, Tm.den, env, vInt, vBool, vStr, exI, SW.den, SV.den, Cell.den, densP, Piece.den, denV, denT, e]
  have h := pure_of plain [.int .i64 n] tpWeekday_ok (by kernel_rfl) _ main
  refine gives_pure ?_
  simpa [intW, BTm.den, Tm.i, Tm.s, Tm.den, env, vInt, vBool, vStr, exI, SW.den, SV.den, Cell.den, densP, Piece.den, denV, denT] using h
theorem week_d (n : Int) : Gives Tryd.prog 20 #[.int .i64 n] (weekR n) := by
  have main : tdWeekday.den Tryd.prog (fun ρ' ret => ∀ β, ret.val.den (env ρ') β = weekR n) [.int .i64 n] := by
    refine tree_ite (ev_nil ⟨fun h1 => tree_leaf (ev_nil fun β => ?_), fun h1 => ?_⟩)
    · have h1 : n < 0 := by simpa [BTm.den, Tm.i, Tm.s, Tm.den, env, vInt, vBool, vStr, exI] using h1
      unfold weekR; rw [if_neg (by omega)]; simp [BTm.den, Tm.i, Tm.s, Tm.den, env, vInt, vBool, vStr, exI, SW.den, SV.den, Cell.den, densP, Piece.den, denV, denT]
    have h1 : ¬ n < 0 := by simpa [BTm.den, Tm.i, Tm.s, Tm.den, env, vInt, vBool, vStr, exI] using h1
    refine tree_ite (ev_nil ⟨fun h2 => tree_leaf (ev_nil fun β => ?_), fun h2 => tree_leaf ?_⟩)
    · have h2 : 73048 < n := by simpa [BTm.den, Tm.i, Tm.s, Tm.den, env, vInt, vBool, vStr, exI] using h2
      unfold weekR; rw [if_neg (by omega)]; simp [BTm.den, Tm.i, Tm.s, Tm.den, env, vInt, vBool, vStr, exI, SW.den, SV.den, Cell.den, densP, Piece.den, denV, denT]
    have h2 : ¬ 73048 < n := by simpa [BTm.den, Tm.i, Tm.s, Tm.den, env, vInt, vBool, vStr, exI] using h2
    have e : (n + 5).tmod 7 = (n + 5) % 7 := Int.tmod_eq_emod_of_nonneg (by omega)
    refine ev_fits (n + 5) (by simp [BTm.den, Tm.i, Tm.s, Tm.den, env, vInt, vBool, vStr, exI]) (rng_i64 _ (by omega)) ?_
    refine ev_fits ((n + 5) % 7) (by simp [BTm.den, Tm.i, Tm.s, Tm.den, env, vInt, vBool, vStr, exI, e]) (rng_i64 _ (by omega)) ?_
    refine ev_nil fun β => ?_
    unfold weekR; rw [if_pos (by omega)]; simp [BTm.den, Tm.i, Tm.s, Tm.den, env, vInt, vBool, vStr, exI, SW.den, SV.den, Cell.den, densP, Piece.den, denV, denT, e]
  have h := pure_of plain [.int .i64 n] tdWeekday_ok (by kernel_rfl) _ main
  refine gives_pure ?_
  simpa [intW, BTm.den, Tm.i, Tm.s, Tm.den, env, vInt, vBool, vStr, exI, SW.den, SV.den, Cell.den, densP, Piece.den, denV, denT] using h
end Go.Proofs.YteemnnajfiimlaaDoor
