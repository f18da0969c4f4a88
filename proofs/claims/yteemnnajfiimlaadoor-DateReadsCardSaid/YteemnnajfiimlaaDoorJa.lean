/- The calendar in numbers: days before a year, before a month, and the one date of a day. No program is named here. -/
import Derived.WalkKit
namespace Go.Proofs.YteemnnajfiimlaaDoor
/-- Is a year a leap year, for any number. -/
def leapI (y : Int) : Bool := decide (y.tmod 4 = 0) && (!decide (y.tmod 100 = 0) || decide (y.tmod 400 = 0))
/-- Days before a month of a year; none before a month that is no month from 2 to 13. -/
def mb (l : Bool) (m : Int) : Int :=
  if m = 2 then 31 else if m = 3 then 59 + l.toInt else if m = 4 then 90 + l.toInt else if m = 5 then 120 + l.toInt else if m = 6 then 151 + l.toInt
  else if m = 7 then 181 + l.toInt else if m = 8 then 212 + l.toInt else if m = 9 then 243 + l.toInt else if m = 10 then 273 + l.toInt
  else if m = 11 then 304 + l.toInt else if m = 12 then 334 + l.toInt else if m = 13 then 365 + l.toInt else 0
def ml (l : Bool) (m : Int) : Int := mb l (m + 1) - mb l m
/-- Days before a year. -/
def ny (y : Int) : Int := 365 * (y - 2000) + ((y - 1) / 4 - (y - 1) / 100 + (y - 1) / 400) - 484
structure IsCivil (n y m d : Int) : Prop where
  y1 : 2000 ≤ y
  y2 : y ≤ 2199
  m1 : 1 ≤ m
  m2 : m ≤ 12
  d1 : 1 ≤ d
  d2 : d ≤ ml (leapI y) m
  e : n = ny y + mb (leapI y) m + d - 1
theorem lt01 (l : Bool) : 0 ≤ l.toInt ∧ l.toInt ≤ 1 := by cases l <;> decide
theorem month_cases {m : Int} (h1 : 1 ≤ m) (h2 : m ≤ 12) : m = 1 ∨ m = 2 ∨ m = 3 ∨ m = 4 ∨ m = 5 ∨ m = 6 ∨ m = 7 ∨ m = 8 ∨ m = 9 ∨ m = 10 ∨ m = 11 ∨ m = 12 := by omega
theorem mb_1 (l : Bool) : mb l 1 = 0 := by cases l <;> rfl
theorem mb_13 (l : Bool) : mb l 13 = 365 + l.toInt := by cases l <;> rfl
theorem ml_ge (l : Bool) {m : Int} (h1 : 1 ≤ m) (h2 : m ≤ 12) : 28 ≤ ml l m ∧ ml l m ≤ 31 := by
  rcases month_cases h1 h2 with rfl | rfl | rfl | rfl | rfl | rfl | rfl | rfl | rfl | rfl | rfl | rfl <;> cases l <;> decide
theorem mb_step (l : Bool) (m : Int) : mb l (m + 1) = mb l m + ml l m := by unfold ml; omega
theorem mb_out (l : Bool) {m : Int} (h : m < 2 ∨ 13 < m) : mb l m = 0 := by
  unfold mb
  rw [if_neg (by omega), if_neg (by omega), if_neg (by omega), if_neg (by omega), if_neg (by omega), if_neg (by omega), if_neg (by omega), if_neg (by omega), if_neg (by omega), if_neg (by omega), if_neg (by omega), if_neg (by omega)]
theorem mb_bound (l : Bool) (m : Int) : 0 ≤ mb l m ∧ mb l m ≤ 366 := by
  by_cases h : m < 2 ∨ 13 < m
  · rw [mb_out l h]; omega
  · have : m = 2 ∨ m = 3 ∨ m = 4 ∨ m = 5 ∨ m = 6 ∨ m = 7 ∨ m = 8 ∨ m = 9 ∨ m = 10 ∨ m = 11 ∨ m = 12 ∨ m = 13 := by omega
    rcases this with rfl | rfl | rfl | rfl | rfl | rfl | rfl | rfl | rfl | rfl | rfl | rfl <;> cases l <;> decide
theorem mb_mono (l : Bool) {m k : Int} (h1 : 1 ≤ m) (h2 : m < k) (h3 : k ≤ 13) : mb l m + ml l m ≤ mb l k := by
  obtain ⟨j, rfl⟩ : ∃ j : Nat, k = m + 1 + j := ⟨(k - m - 1).toNat, by omega⟩
  induction j with
  | zero => rw [← mb_step]; simp
  | succ j ih =>
    have h := ih (by omega) (by omega)
    have h5 := mb_step l (m + 1 + (j : Nat))
    have h6 := ml_ge l (m := m + 1 + (j : Nat)) (by omega) (by omega)
    have h7 : m + 1 + ((j + 1 : Nat) : Int) = m + 1 + (j : Nat) + 1 := by omega
    rw [h7]; omega
theorem leap_pos {y : Int} (h : 0 ≤ y) : leapI y = (decide (y % 4 = 0) && (!decide (y % 100 = 0) || decide (y % 400 = 0))) := by
  unfold leapI
  rw [Int.tmod_eq_emod_of_nonneg h, Int.tmod_eq_emod_of_nonneg h, Int.tmod_eq_emod_of_nonneg h]
theorem leap_int {y : Int} (h : 0 ≤ y) : (leapI y).toInt = (if y % 4 = 0 then 1 else 0) - (if y % 100 = 0 then 1 else 0) + (if y % 400 = 0 then 1 else 0) := by
  rw [leap_pos h]
  by_cases h1 : y % 4 = 0 <;> by_cases h2 : y % 100 = 0 <;> by_cases h3 : y % 400 = 0 <;> simp [h1, h2, h3, Bool.toInt] <;> omega
theorem ny_step {y : Int} (h : 1 ≤ y) : ny (y + 1) = ny y + 365 + (leapI y).toInt := by
  rw [leap_int (by omega)]
  unfold ny
  split <;> split <;> split <;> omega
theorem ny_2000 : ny 2000 = 0 := rfl
theorem ny_2200 : ny 2200 = 73049 := rfl
theorem ny_mono {y k : Int} (h1 : 1 ≤ y) (h2 : y < k) : ny y + 365 + (leapI y).toInt ≤ ny k := by
  obtain ⟨j, rfl⟩ : ∃ j : Nat, k = y + 1 + j := ⟨(k - y - 1).toNat, by omega⟩
  induction j with
  | zero => rw [← ny_step h1]; simp
  | succ j ih =>
    have h := ih (by omega)
    have h5 := ny_step (y := y + 1 + (j : Nat)) (by omega)
    have h6 := lt01 (leapI (y + 1 + (j : Nat)))
    have h7 : y + 1 + ((j + 1 : Nat) : Int) = y + 1 + (j : Nat) + 1 := by omega
    rw [h7]; omega
theorem IsCivil.inMonth {n y m d : Int} (h : IsCivil n y m d) : ny y + mb (leapI y) m ≤ n ∧ n < ny y + mb (leapI y) (m + 1) := by
  have := mb_step (leapI y) m
  have := h.e; have := h.d1; have := h.d2
  omega
theorem IsCivil.inYear {n y m d : Int} (h : IsCivil n y m d) : ny y ≤ n ∧ n < ny (y + 1) := by
  have h1 := h.inMonth
  have h2 := mb_bound (leapI y) m
  have h3 : mb (leapI y) (m + 1) ≤ 365 + (leapI y).toInt := by
    rw [← mb_13]
    rcases Int.lt_or_le m 12 with hm | hm
    · have := mb_mono (leapI y) (m := m + 1) (k := 13) (by have := h.m1; omega) (by omega) (by omega)
      have := ml_ge (leapI y) (m := m + 1) (by have := h.m1; omega) (by omega)
      omega
    · have : m = 12 := by have := h.m2; omega
      subst this; exact Int.le_refl _
  have h4 := ny_step (y := y) (by have := h.y1; omega)
  omega
theorem IsCivil.range {n y m d : Int} (h : IsCivil n y m d) : 0 ≤ n ∧ n ≤ 73048 := by
  have h1 := h.inYear
  have a := h.y1; have b := h.y2
  have h2 : ny 2000 ≤ ny y := by
    rcases Int.lt_or_le 2000 y with hy | hy
    · have := ny_mono (y := 2000) (by omega) hy; have := lt01 (leapI 2000); omega
    · have : y = 2000 := by omega
      subst this; exact Int.le_refl _
  have h3 : ny (y + 1) ≤ ny 2200 := by
    rcases Int.lt_or_le (y + 1) 2200 with hy | hy
    · have := ny_mono (y := y + 1) (by omega) hy; have := lt01 (leapI (y + 1)); omega
    · have : y + 1 = 2200 := by omega
      rw [this]; exact Int.le_refl _
  rw [ny_2000] at h2; rw [ny_2200] at h3
  omega
/-- Behind a date of an earlier year, or of an earlier month of the year, there are only later days. -/
theorem IsCivil.uniq {n y m d y' m' d' : Int} (h : IsCivil n y m d) (h' : IsCivil n y' m' d') : y = y' ∧ m = m' ∧ d = d' := by
  have hy : y = y' := by
    have a := h.inYear; have b := h'.inYear
    rcases Int.lt_trichotomy y y' with c | c | c
    · have : ny (y + 1) ≤ ny y' := by
        rcases Int.lt_or_le (y + 1) y' with e | e
        · have := ny_mono (y := y + 1) (by have := h.y1; omega) e; have := lt01 (leapI (y + 1)); omega
        · have : y + 1 = y' := by omega
          rw [this]; exact Int.le_refl _
      omega
    · exact c
    · have : ny (y' + 1) ≤ ny y := by
        rcases Int.lt_or_le (y' + 1) y with e | e
        · have := ny_mono (y := y' + 1) (by have := h'.y1; omega) e; have := lt01 (leapI (y' + 1)); omega
        · have : y' + 1 = y := by omega
          rw [this]; exact Int.le_refl _
      omega
  subst hy
  have hm : m = m' := by
    have a := h.inMonth; have b := h'.inMonth
    have h1 := h.m1; have h2 := h.m2; have h3 := h'.m1; have h4 := h'.m2
    rcases Int.lt_trichotomy m m' with c | c | c
    · have := mb_mono (leapI y) (m := m) (k := m') h1 c (by omega)
      rw [← mb_step] at this; omega
    · exact c
    · have := mb_mono (leapI y) (m := m') (k := m) h3 c (by omega)
      rw [← mb_step] at this; omega
  subst hm
  exact ⟨rfl, rfl, by have := h.e; have := h'.e; omega⟩
theorem month_of (l : Bool) {k : Int} (h1 : 0 ≤ k) (h2 : k < 365 + l.toInt) : ∃ m, 1 ≤ m ∧ m ≤ 12 ∧ mb l m ≤ k ∧ k < mb l (m + 1) := by
  have := lt01 l
  cases l
  · by_cases a : k < 31
    · exact ⟨1, by decide, by decide, by rw [mb_1]; omega, a⟩
    by_cases a2 : k < 59
    · exact ⟨2, by decide, by decide, Int.not_lt.1 a, a2⟩
    by_cases a3 : k < 90
    · exact ⟨3, by decide, by decide, Int.not_lt.1 a2, a3⟩
    by_cases a4 : k < 120
    · exact ⟨4, by decide, by decide, Int.not_lt.1 a3, a4⟩
    by_cases a5 : k < 151
    · exact ⟨5, by decide, by decide, Int.not_lt.1 a4, a5⟩
    by_cases a6 : k < 181
    · exact ⟨6, by decide, by decide, Int.not_lt.1 a5, a6⟩
    by_cases a7 : k < 212
    · exact ⟨7, by decide, by decide, Int.not_lt.1 a6, a7⟩
    by_cases a8 : k < 243
    · exact ⟨8, by decide, by decide, Int.not_lt.1 a7, a8⟩
    by_cases a9 : k < 273
    · exact ⟨9, by decide, by decide, Int.not_lt.1 a8, a9⟩
    by_cases a10 : k < 304
    · exact ⟨10, by decide, by decide, Int.not_lt.1 a9, a10⟩
    by_cases a11 : k < 334
    · exact ⟨11, by decide, by decide, Int.not_lt.1 a10, a11⟩
    exact ⟨12, by decide, by decide, Int.not_lt.1 a11, h2⟩
  · by_cases a : k < 31
    · exact ⟨1, by decide, by decide, by rw [mb_1]; omega, a⟩
    by_cases a2 : k < 60
    · exact ⟨2, by decide, by decide, Int.not_lt.1 a, a2⟩
    by_cases a3 : k < 91
    · exact ⟨3, by decide, by decide, Int.not_lt.1 a2, a3⟩
    by_cases a4 : k < 121
    · exact ⟨4, by decide, by decide, Int.not_lt.1 a3, a4⟩
    by_cases a5 : k < 152
    · exact ⟨5, by decide, by decide, Int.not_lt.1 a4, a5⟩
    by_cases a6 : k < 182
    · exact ⟨6, by decide, by decide, Int.not_lt.1 a5, a6⟩
    by_cases a7 : k < 213
    · exact ⟨7, by decide, by decide, Int.not_lt.1 a6, a7⟩
    by_cases a8 : k < 244
    · exact ⟨8, by decide, by decide, Int.not_lt.1 a7, a8⟩
    by_cases a9 : k < 274
    · exact ⟨9, by decide, by decide, Int.not_lt.1 a8, a9⟩
    by_cases a10 : k < 305
    · exact ⟨10, by decide, by decide, Int.not_lt.1 a9, a10⟩
    by_cases a11 : k < 335
    · exact ⟨11, by decide, by decide, Int.not_lt.1 a10, a11⟩
    exact ⟨12, by decide, by decide, Int.not_lt.1 a11, h2⟩
/-- The guess of the year is at most one year too late. -/
theorem guess {n y : Int} (h1 : 2000 ≤ y) (h2 : y ≤ 2199) (h3 : ny y ≤ n) (h4 : n < ny (y + 1)) : y ≤ 2000 + n / 365 ∧ 2000 + n / 365 ≤ y + 1 := by
  unfold ny at h3 h4
  omega
theorem year_of {n : Int} (h1 : 0 ≤ n) (h2 : n ≤ 73048) : ∃ y, 2000 ≤ y ∧ y ≤ 2199 ∧ ny y ≤ n ∧ n < ny (y + 1) := by
  have key : ∀ k : Nat, k ≤ 200 → n < ny (2000 + (k : Int)) → ∃ y, 2000 ≤ y ∧ y ≤ 2199 ∧ ny y ≤ n ∧ n < ny (y + 1) := by
    intro k
    induction k with
    | zero => intro _ h; rw [show (2000 : Int) + ((0 : Nat) : Int) = 2000 by rfl, ny_2000] at h; omega
    | succ k ih =>
      intro hk h
      by_cases hh : n < ny (2000 + (k : Int))
      · exact ih (by omega) hh
      · exact ⟨2000 + (k : Int), by omega, by omega, Int.not_lt.1 hh, by rw [show (2000 : Int) + (k : Int) + 1 = 2000 + ((k + 1 : Nat) : Int) by omega]; exact h⟩
  exact key 200 (by omega) (by rw [show (2000 : Int) + ((200 : Nat) : Int) = 2200 by rfl, ny_2200]; omega)
theorem civil_of {n : Int} (h1 : 0 ≤ n) (h2 : n ≤ 73048) : ∃ y m d, IsCivil n y m d := by
  obtain ⟨y, a, b, c, e⟩ := year_of h1 h2
  rw [ny_step (by omega)] at e
  obtain ⟨m, f, g, i, j⟩ := month_of (leapI y) (k := n - ny y) (by omega) (by omega)
  refine ⟨y, m, n - ny y - mb (leapI y) m + 1, a, b, f, g, by omega, ?_, by omega⟩
  have := mb_step (leapI y) m
  omega
end Go.Proofs.YteemnnajfiimlaaDoor
