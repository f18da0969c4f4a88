/- Months added keep order and add up: DateMonths. -/
import Derived.Test.YteemnnajfiimlaaDoorJl
namespace Go.Proofs.YteemnnajfiimlaaDoor
open Go.RowKit Go.Proofs.YteemnnajfiimlaaDoor.Sx
set_option linter.unusedSimpArgs false
set_option linter.unusedVariables false

/-- The first day of a month by its number, and its length. -/
def firstMo (k : Int) : Int := ny (2000 + k / 12) + mb (leapI (2000 + k / 12)) (k % 12 + 1)
def lenMo (k : Int) : Int := ml (leapI (2000 + k / 12)) (k % 12 + 1)
theorem inMo_eq (k d : Int) : inMo k d = firstMo k + minZ d (lenMo k) - 1 := rfl
theorem lenMo_ge (k : Int) : 28 ≤ lenMo k ∧ lenMo k ≤ 31 := ml_ge _ (by omega) (by omega)
theorem firstMo_step {k : Int} (h : 0 ≤ k) : firstMo (k + 1) = firstMo k + lenMo k := by
  unfold firstMo lenMo
  by_cases h1 : k % 12 = 11
  · have e1 : (k + 1) / 12 = k / 12 + 1 := by omega
    have e2 : (k + 1) % 12 = 0 := by omega
    have e3 : 2000 + (k / 12 + 1) = 2000 + k / 12 + 1 := by omega
    have s1 := ny_step (y := 2000 + k / 12) (by omega)
    have s2 := mb_step (leapI (2000 + k / 12)) 12
    rw [show (12 : Int) + 1 = 13 by rfl, mb_13] at s2
    rw [e1, e2, h1, e3, show (0 : Int) + 1 = 1 by rfl, show (11 : Int) + 1 = 12 by rfl, mb_1, s1]
    omega
  · have e1 : (k + 1) / 12 = k / 12 := by omega
    have e2 : (k + 1) % 12 = k % 12 + 1 := by omega
    have s2 := mb_step (leapI (2000 + k / 12)) (k % 12 + 1)
    rw [e1, e2, s2]; omega
theorem firstMo_mono {k j : Int} (h : 0 ≤ k) (hj : k < j) : firstMo k + lenMo k ≤ firstMo j := by
  obtain ⟨i, rfl⟩ : ∃ i : Nat, j = k + 1 + i := ⟨(j - k - 1).toNat, by omega⟩
  clear hj
  induction i with
  | zero => rw [← firstMo_step h]; simp
  | succ i ih =>
    have s := firstMo_step (k := k + 1 + (i : Nat)) (by omega)
    have b := lenMo_ge (k + 1 + (i : Nat))
    rw [show k + 1 + ((i + 1 : Nat) : Int) = k + 1 + (i : Nat) + 1 by omega]
    omega
theorem minZ_le (a b : Int) : minZ a b ≤ a ∧ minZ a b ≤ b := by unfold minZ; split <;> omega
theorem minZ_mono {a a' : Int} (b : Int) (h : a ≤ a') : minZ a b ≤ minZ a' b := by unfold minZ; split <;> split <;> omega
theorem minZ_pos {a b : Int} (h : 1 ≤ a) (h2 : 1 ≤ b) : 1 ≤ minZ a b := by unfold minZ; split <;> omega
theorem inMo_lt {k j d d' : Int} (h : 0 ≤ k) (hj : k < j) (hd : 1 ≤ d') : inMo k d < inMo j d' := by
  have a := firstMo_mono h hj
  have b := lenMo_ge j
  have c := minZ_pos hd (b := lenMo j) (by omega)
  have e := (minZ_le d (lenMo k)).2
  rw [inMo_eq, inMo_eq]; omega
theorem inMo_le {k d d' : Int} (h : d ≤ d') : inMo k d ≤ inMo k d' := by
  have := minZ_mono (lenMo k) h
  rw [inMo_eq, inMo_eq]; omega
theorem mo_y {y m : Int} (h1 : 1 ≤ m) (h2 : m ≤ 12) : 2000 + moZ y m / 12 = y ∧ moZ y m % 12 + 1 = m := by unfold moZ; omega
theorem inMo_self {n y m d : Int} (h : IsCivil n y m d) : inMo (moZ y m) d = n := by
  obtain ⟨e1, e2⟩ := mo_y (y := y) h.m1 h.m2
  unfold inMo
  rw [e1, e2]
  have : minZ d (ml (leapI y) m) = d := by unfold minZ; have := h.d2; split <;> omega
  rw [this]; exact h.e.symm
theorem mo_of {k d : Int} (h : 0 ≤ k ∧ k < 2400) : moZ (2000 + k / 12) (k % 12 + 1) = k := by unfold moZ; omega
theorem IsCivil.early {n y m d : Int} (h : IsCivil n y m d) {z : Int} (hz : 1 ≤ z) (hn : n < ny z) : y < z := by
  rcases Int.lt_or_le y z with a | a
  · exact a
  · have b := h.inYear
    rcases Int.lt_or_le z y with c | c
    · have := ny_mono hz c; have := lt01 (leapI z); omega
    · have : y = z := by omega
      subst this; omega
theorem IsCivil.late {n y m d : Int} (h : IsCivil n y m d) {z : Int} (hn : ny z ≤ n) : z ≤ y := by
  rcases Int.lt_or_le y z with a | a
  · have b := h.inYear
    have y1 := h.y1
    rcases Int.lt_or_le (y + 1) z with c | c
    · have := ny_mono (y := y + 1) (by omega) c; have := lt01 (leapI (y + 1)); omega
    · have : y + 1 = z := by omega
      rw [this] at b; omega
  · exact a
/-- Later days are in later months, or later in the month. -/
theorem later {n y m d n' y' m' d' : Int} (h : IsCivil n y m d) (h' : IsCivil n' y' m' d') (hn : n ≤ n') : moZ y m < moZ y' m' ∨ (moZ y m = moZ y' m' ∧ d ≤ d') := by
  have e := inMo_self h
  have e' := inMo_self h'
  have b : 0 ≤ moZ y' m' := by unfold moZ; have := h'.y1; have := h'.m1; omega
  rcases Int.lt_trichotomy (moZ y m) (moZ y' m') with a | a | a
  · exact .inl a
  · refine .inr ⟨a, ?_⟩
    have ey : y = y' ∧ m = m' := by unfold moZ at a; have := h.m1; have := h.m2; have := h'.m1; have := h'.m2; omega
    obtain ⟨rfl, rfl⟩ := ey
    have := h.e; have := h'.e; omega
  · have := inMo_lt (d := d') (d' := d) b a h.d1; omega
set_option maxHeartbeats 4000000 in
theorem months_any [Outer] (hT : HasTab) (Lv : Value) (hL : fix Lv = Lv) (hs : Slc Outer.r Lv) (w : World) (hro : ∀ x ∈ Outer.r, w.heap[x.1]? = some x.2) :
    Calls Tryd.prog 9 #[Lv] w fun e w' => e = .returned (.bool true) ∧ Below w.heap.size w w' := by
  obtain ⟨tv, ht⟩ := slc_tape hs
  obtain ⟨x, hx, g1⟩ := ht.next1 0 800 (by omega) (by omega)
  obtain ⟨k, hk, g2⟩ := ht.next1 (0 + 1) 40 (by omega) (by omega)
  obtain ⟨a, ha, g3⟩ := ht.next1 (0 + 1 + 1) 121 (by omega) (by omega)
  obtain ⟨b, hb, g4⟩ := ht.next1 (0 + 1 + 1 + 1) 121 (by omega) (by omega)
  obtain ⟨c, hc, g5⟩ := ht.next1 (0 + 1 + 1 + 1 + 1) 5 (by omega) (by omega)
  obtain ⟨y, m, d, h1⟩ := civil_of (n := 9497 + x) (by omega) (by omega)
  obtain ⟨y', m', d', h2⟩ := civil_of (n := 9497 + x + k) (by omega) (by omega)
  have yl : 2026 ≤ y := h1.late (z := 2026) (by rw [show ny 2026 = 9497 by rfl]; omega)
  have yu : y < 2029 := h1.early (z := 2029) (by omega) (by rw [show ny 2029 = 10593 by rfl]; omega)
  have yl' : 2026 ≤ y' := h2.late (z := 2026) (by rw [show ny 2026 = 9497 by rfl]; omega)
  have yu' : y' < 2029 := h2.early (z := 2029) (by omega) (by rw [show ny 2029 = 10593 by rfl]; omega)
  have mz : 312 ≤ moZ y m ∧ moZ y m < 348 := by unfold moZ; have := h1.m1; have := h1.m2; omega
  have mz' : 312 ≤ moZ y' m' ∧ moZ y' m' < 348 := by unfold moZ; have := h2.m1; have := h2.m2; omega
  have hl := later h1 h2 (by omega)
  have self := inMo_self h1
  have r0 := add_p h1 0
  have r1 := add_p h1 (-60 + a)
  have r2 := add_p h2 (-60 + a)
  have r3 := add_p h1 (-60 + a + c)
  have r5 := add_p h1 (-60 + a + (-60 + b))
  have cd := civil_d h1
  have hx1 := inMo_civil (k := moZ y m + (-60 + a)) (d := d) (by omega) h1.d1
  have r4 := add_p hx1 (-60 + b)
  unfold addR at r0 r1 r2 r3 r4 r5
  rw [mo_of (d := d) (by omega)] at r4
  rw [if_pos (by omega)] at r0 r1 r2 r3 r4 r5
  rw [Int.add_zero, self] at r0
  have o1 : inMo (moZ y m + (-60 + a)) d ≤ inMo (moZ y' m' + (-60 + a)) d' := by
    rcases hl with hl | ⟨he, hd⟩
    · exact Int.le_of_lt (inMo_lt (by omega) (by omega) h2.d1)
    · rw [he]; exact inMo_le hd
  have o2 : inMo (moZ y m + (-60 + a)) d ≤ inMo (moZ y m + (-60 + a + c)) d := by
    by_cases h0 : c = 0
    · subst h0; rw [Int.add_zero]; exact Int.le_refl _
    · exact Int.le_of_lt (inMo_lt (by omega) (by omega) h1.d1)
  have same : d ≤ 28 → inMo (moZ y m + (-60 + a) + (-60 + b)) (minZ d (ml (leapI (2000 + (moZ y m + (-60 + a)) / 12)) ((moZ y m + (-60 + a)) % 12 + 1))) = inMo (moZ y m + (-60 + a + (-60 + b))) d := fun hd => by
    have bl := lenMo_ge (moZ y m + (-60 + a))
    unfold lenMo at bl
    have : minZ d (ml (leapI (2000 + (moZ y m + (-60 + a)) / 12)) ((moZ y m + (-60 + a)) % 12 + 1)) = d := by unfold minZ; split <;> omega
    rw [this, Int.add_assoc]
  have c3 : 9497 + x + k ≤ 73048 := by omega
  have gk := known_reads hT
  generalize inMo (moZ y m + (-60 + a)) d = X at *
  generalize inMo (moZ y' m' + (-60 + a)) d' = Y at *
  generalize inMo (moZ y m + (-60 + a + c)) d = Z at *
  generalize inMo (moZ y m + (-60 + a) + (-60 + b)) _ = U at *
  generalize inMo (moZ y m + (-60 + a + (-60 + b))) d = V at *
  by_cases hd : 28 < d
  · have main : evDen Tryd.prog (fun ρ' => (∀ x ∈ tiMonths_asm, x.1.den (env ρ') = x.2) ∧ ∀ β, tiMonths_out.val.den (env ρ') β = .bool true) tiMonths_evs [Lv] := by
      unfold tiMonths_evs
      refine ev_turn [.int .i64 (x), .int .i64 (((0 + 1 : Nat) : Int))] rfl rfl (fun β _ => Given.turns (fun b => #[.pointer (some ⟨b, 0, none⟩), .int .i64 (800)]) (g1) (fun β => by simp [BTm.den, Tm.i, Tm.s, Tm.den, env, vInt, vBool, vStr, exI, SW.den, SV.den, Cell.den, densP, Piece.den, denV, hL]) (fun β => by simp [BTm.den, Tm.i, Tm.s, Tm.den, env, vInt, vBool, vStr, exI, SW.den, SV.den, Cell.den, densP, Piece.den, denV, hL]) (fun β => by simp [BTm.den, Tm.i, Tm.s, Tm.den, env, vInt, vBool, vStr, exI, SW.den, SV.den, Cell.den, densP, Piece.den, denV, hL]) (fun β => by simp [BTm.den, Tm.i, Tm.s, Tm.den, env, vInt, vBool, vStr, exI, SW.den, SV.den, Cell.den, densP, Piece.den, denV, hL]) β) ?_
      refine ev_fits (9497 + x) (by simp [BTm.den, Tm.i, Tm.s, Tm.den, env, vInt, vBool, vStr, exI]) (rng_i64 _ (by omega)) ?_
      refine ev_turn [.int .i64 (k), .int .i64 (((0 + 1 + 1 : Nat) : Int))] rfl rfl (fun β _ => Given.turns (fun b => #[.pointer (some ⟨b, 0, none⟩), .int .i64 (40)]) (g2) (fun β => by simp [BTm.den, Tm.i, Tm.s, Tm.den, env, vInt, vBool, vStr, exI, SW.den, SV.den, Cell.den, densP, Piece.den, denV, hL]) (fun β => by simp [BTm.den, Tm.i, Tm.s, Tm.den, env, vInt, vBool, vStr, exI, SW.den, SV.den, Cell.den, densP, Piece.den, denV, hL]) (fun β => by simp [BTm.den, Tm.i, Tm.s, Tm.den, env, vInt, vBool, vStr, exI, SW.den, SV.den, Cell.den, densP, Piece.den, denV, hL]) (fun β => by simp [BTm.den, Tm.i, Tm.s, Tm.den, env, vInt, vBool, vStr, exI, SW.den, SV.den, Cell.den, densP, Piece.den, denV, hL]) β) ?_
      refine ev_turn [.int .i64 (a), .int .i64 (((0 + 1 + 1 + 1 : Nat) : Int))] rfl rfl (fun β _ => Given.turns (fun b => #[.pointer (some ⟨b, 0, none⟩), .int .i64 (121)]) (g3) (fun β => by simp [BTm.den, Tm.i, Tm.s, Tm.den, env, vInt, vBool, vStr, exI, SW.den, SV.den, Cell.den, densP, Piece.den, denV, hL]) (fun β => by simp [BTm.den, Tm.i, Tm.s, Tm.den, env, vInt, vBool, vStr, exI, SW.den, SV.den, Cell.den, densP, Piece.den, denV, hL]) (fun β => by simp [BTm.den, Tm.i, Tm.s, Tm.den, env, vInt, vBool, vStr, exI, SW.den, SV.den, Cell.den, densP, Piece.den, denV, hL]) (fun β => by simp [BTm.den, Tm.i, Tm.s, Tm.den, env, vInt, vBool, vStr, exI, SW.den, SV.den, Cell.den, densP, Piece.den, denV, hL]) β) ?_
      refine ev_fits (-60 + a) (by simp [BTm.den, Tm.i, Tm.s, Tm.den, env, vInt, vBool, vStr, exI]) (rng_i64 _ (by omega)) ?_
      refine ev_turn [.int .i64 (b), .int .i64 (((0 + 1 + 1 + 1 + 1 : Nat) : Int))] rfl rfl (fun β _ => Given.turns (fun b => #[.pointer (some ⟨b, 0, none⟩), .int .i64 (121)]) (g4) (fun β => by simp [BTm.den, Tm.i, Tm.s, Tm.den, env, vInt, vBool, vStr, exI, SW.den, SV.den, Cell.den, densP, Piece.den, denV, hL]) (fun β => by simp [BTm.den, Tm.i, Tm.s, Tm.den, env, vInt, vBool, vStr, exI, SW.den, SV.den, Cell.den, densP, Piece.den, denV, hL]) (fun β => by simp [BTm.den, Tm.i, Tm.s, Tm.den, env, vInt, vBool, vStr, exI, SW.den, SV.den, Cell.den, densP, Piece.den, denV, hL]) (fun β => by simp [BTm.den, Tm.i, Tm.s, Tm.den, env, vInt, vBool, vStr, exI, SW.den, SV.den, Cell.den, densP, Piece.den, denV, hL]) β) ?_
      refine ev_fits (-60 + b) (by simp [BTm.den, Tm.i, Tm.s, Tm.den, env, vInt, vBool, vStr, exI]) (rng_i64 _ (by omega)) ?_
      refine ev_call [.int .i64 (9497 + x), .int .i64 0] rfl rfl (pure_gives r0) (fun β => by simp [BTm.den, Tm.i, Tm.s, Tm.den, env, vInt, vBool, vStr, exI, SW.den, SV.den, Cell.den, densP, Piece.den, denV, denT]) (fun β => by simp [BTm.den, Tm.i, Tm.s, Tm.den, env, vInt, vBool, vStr, exI, SW.den, SV.den, Cell.den, densP, Piece.den, denV, denT, ok2]) ?_
      refine ev_call [.int .i64 X, .int .i64 0] rfl rfl (pure_gives r1) (fun β => by simp [BTm.den, Tm.i, Tm.s, Tm.den, env, vInt, vBool, vStr, exI, SW.den, SV.den, Cell.den, densP, Piece.den, denV, denT]) (fun β => by simp [BTm.den, Tm.i, Tm.s, Tm.den, env, vInt, vBool, vStr, exI, SW.den, SV.den, Cell.den, densP, Piece.den, denV, denT, ok2]) ?_
      refine ev_fits (9497 + x + k) (by simp [BTm.den, Tm.i, Tm.s, Tm.den, env, vInt, vBool, vStr, exI]) (rng_i64 _ (by omega)) ?_
      refine ev_call [.int .i64 Y, .int .i64 0] rfl rfl (pure_gives r2) (fun β => by simp [BTm.den, Tm.i, Tm.s, Tm.den, env, vInt, vBool, vStr, exI, SW.den, SV.den, Cell.den, densP, Piece.den, denV, denT]) (fun β => by simp [BTm.den, Tm.i, Tm.s, Tm.den, env, vInt, vBool, vStr, exI, SW.den, SV.den, Cell.den, densP, Piece.den, denV, denT, ok2]) ?_
      refine ev_turn [.int .i64 (c), .int .i64 (((0 + 1 + 1 + 1 + 1 + 1 : Nat) : Int))] rfl rfl (fun β _ => Given.turns (fun b => #[.pointer (some ⟨b, 0, none⟩), .int .i64 (5)]) (g5) (fun β => by simp [BTm.den, Tm.i, Tm.s, Tm.den, env, vInt, vBool, vStr, exI, SW.den, SV.den, Cell.den, densP, Piece.den, denV, hL]) (fun β => by simp [BTm.den, Tm.i, Tm.s, Tm.den, env, vInt, vBool, vStr, exI, SW.den, SV.den, Cell.den, densP, Piece.den, denV, hL]) (fun β => by simp [BTm.den, Tm.i, Tm.s, Tm.den, env, vInt, vBool, vStr, exI, SW.den, SV.den, Cell.den, densP, Piece.den, denV, hL]) (fun β => by simp [BTm.den, Tm.i, Tm.s, Tm.den, env, vInt, vBool, vStr, exI, SW.den, SV.den, Cell.den, densP, Piece.den, denV, hL]) β) ?_
      refine ev_fits (-60 + a + c) (by simp [BTm.den, Tm.i, Tm.s, Tm.den, env, vInt, vBool, vStr, exI]) (rng_i64 _ (by omega)) ?_
      refine ev_call [.int .i64 Z, .int .i64 0] rfl rfl (pure_gives r3) (fun β => by simp [BTm.den, Tm.i, Tm.s, Tm.den, env, vInt, vBool, vStr, exI, SW.den, SV.den, Cell.den, densP, Piece.den, denV, denT]) (fun β => by simp [BTm.den, Tm.i, Tm.s, Tm.den, env, vInt, vBool, vStr, exI, SW.den, SV.den, Cell.den, densP, Piece.den, denV, denT, ok2]) ?_
      refine ev_call [.int .i64 y, .int .i64 m, .int .i64 d, .int .i64 0] rfl rfl (pure_gives cd) (fun β => by simp [BTm.den, Tm.i, Tm.s, Tm.den, env, vInt, vBool, vStr, exI, SW.den, SV.den, Cell.den, densP, Piece.den, denV, denT]) (fun β => by simp [BTm.den, Tm.i, Tm.s, Tm.den, env, vInt, vBool, vStr, exI, SW.den, SV.den, Cell.den, densP, Piece.den, denV, denT, civilV]) ?_
      refine ev_call [.int .i64 U, .int .i64 0] rfl rfl (pure_gives r4) (fun β => by simp [BTm.den, Tm.i, Tm.s, Tm.den, env, vInt, vBool, vStr, exI, SW.den, SV.den, Cell.den, densP, Piece.den, denV, denT]) (fun β => by simp [BTm.den, Tm.i, Tm.s, Tm.den, env, vInt, vBool, vStr, exI, SW.den, SV.den, Cell.den, densP, Piece.den, denV, denT, ok2]) ?_
      refine ev_fits (-60 + a + (-60 + b)) (by simp [BTm.den, Tm.i, Tm.s, Tm.den, env, vInt, vBool, vStr, exI]) (rng_i64 _ (by omega)) ?_
      refine ev_call [.int .i64 V, .int .i64 0] rfl rfl (pure_gives r5) (fun β => by simp [BTm.den, Tm.i, Tm.s, Tm.den, env, vInt, vBool, vStr, exI, SW.den, SV.den, Cell.den, densP, Piece.den, denV, denT]) (fun β => by simp [BTm.den, Tm.i, Tm.s, Tm.den, env, vInt, vBool, vStr, exI, SW.den, SV.den, Cell.den, densP, Piece.den, denV, denT, ok2]) ?_
      refine ev_turn [.bool true] rfl rfl (fun β _ => Reads.ev gk (by simp [BTm.den, Tm.i, Tm.s, Tm.den, env, vInt, vBool, vStr, exI, SW.den, SV.den, Cell.den, densP, Piece.den, denV, denT]) (by simp [BTm.den, Tm.i, Tm.s, Tm.den, env, vInt, vBool, vStr, exI, SW.den, SV.den, Cell.den, densP, Piece.den, denV, denT])) ?_
      refine ev_nil ⟨by simp [tiMonths_asm, BTm.den, Tm.i, Tm.s, Tm.den, env, vInt, vBool, vStr, exI]; omega, fun β => ?_⟩
      simp [tiMonths_out, BTm.den, Tm.i, Tm.s, Tm.den, env, vInt, vBool, vStr, exI, SW.den, SV.den, Cell.den, densP, Piece.den, denV, denT]
    have h := reads_flat plain [Lv] tiMonths_ok tiMonths_nx (by kernel_rfl) _ main w hro
    simpa [BTm.den, Tm.i, Tm.s, Tm.den, env, vInt, vBool, vStr, exI, SW.den, SV.den, Cell.den, densP, Piece.den, denV, denT, denT, hL] using h
  · have uv := same (by omega)
    have main : evDen Tryd.prog (fun ρ' => (∀ x ∈ tiMonthsB_asm, x.1.den (env ρ') = x.2) ∧ ∀ β, tiMonthsB_out.val.den (env ρ') β = .bool true) tiMonthsB_evs [Lv] := by
      unfold tiMonthsB_evs
      refine ev_turn [.int .i64 (x), .int .i64 (((0 + 1 : Nat) : Int))] rfl rfl (fun β _ => Given.turns (fun b => #[.pointer (some ⟨b, 0, none⟩), .int .i64 (800)]) (g1) (fun β => by simp [BTm.den, Tm.i, Tm.s, Tm.den, env, vInt, vBool, vStr, exI, SW.den, SV.den, Cell.den, densP, Piece.den, denV, hL]) (fun β => by simp [BTm.den, Tm.i, Tm.s, Tm.den, env, vInt, vBool, vStr, exI, SW.den, SV.den, Cell.den, densP, Piece.den, denV, hL]) (fun β => by simp [BTm.den, Tm.i, Tm.s, Tm.den, env, vInt, vBool, vStr, exI, SW.den, SV.den, Cell.den, densP, Piece.den, denV, hL]) (fun β => by simp [BTm.den, Tm.i, Tm.s, Tm.den, env, vInt, vBool, vStr, exI, SW.den, SV.den, Cell.den, densP, Piece.den, denV, hL]) β) ?_
      refine ev_fits (9497 + x) (by simp [BTm.den, Tm.i, Tm.s, Tm.den, env, vInt, vBool, vStr, exI]) (rng_i64 _ (by omega)) ?_
      refine ev_turn [.int .i64 (k), .int .i64 (((0 + 1 + 1 : Nat) : Int))] rfl rfl (fun β _ => Given.turns (fun b => #[.pointer (some ⟨b, 0, none⟩), .int .i64 (40)]) (g2) (fun β => by simp [BTm.den, Tm.i, Tm.s, Tm.den, env, vInt, vBool, vStr, exI, SW.den, SV.den, Cell.den, densP, Piece.den, denV, hL]) (fun β => by simp [BTm.den, Tm.i, Tm.s, Tm.den, env, vInt, vBool, vStr, exI, SW.den, SV.den, Cell.den, densP, Piece.den, denV, hL]) (fun β => by simp [BTm.den, Tm.i, Tm.s, Tm.den, env, vInt, vBool, vStr, exI, SW.den, SV.den, Cell.den, densP, Piece.den, denV, hL]) (fun β => by simp [BTm.den, Tm.i, Tm.s, Tm.den, env, vInt, vBool, vStr, exI, SW.den, SV.den, Cell.den, densP, Piece.den, denV, hL]) β) ?_
      refine ev_turn [.int .i64 (a), .int .i64 (((0 + 1 + 1 + 1 : Nat) : Int))] rfl rfl (fun β _ => Given.turns (fun b => #[.pointer (some ⟨b, 0, none⟩), .int .i64 (121)]) (g3) (fun β => by simp [BTm.den, Tm.i, Tm.s, Tm.den, env, vInt, vBool, vStr, exI, SW.den, SV.den, Cell.den, densP, Piece.den, denV, hL]) (fun β => by simp [BTm.den, Tm.i, Tm.s, Tm.den, env, vInt, vBool, vStr, exI, SW.den, SV.den, Cell.den, densP, Piece.den, denV, hL]) (fun β => by simp [BTm.den, Tm.i, Tm.s, Tm.den, env, vInt, vBool, vStr, exI, SW.den, SV.den, Cell.den, densP, Piece.den, denV, hL]) (fun β => by simp [BTm.den, Tm.i, Tm.s, Tm.den, env, vInt, vBool, vStr, exI, SW.den, SV.den, Cell.den, densP, Piece.den, denV, hL]) β) ?_
      refine ev_fits (-60 + a) (by simp [BTm.den, Tm.i, Tm.s, Tm.den, env, vInt, vBool, vStr, exI]) (rng_i64 _ (by omega)) ?_
      refine ev_turn [.int .i64 (b), .int .i64 (((0 + 1 + 1 + 1 + 1 : Nat) : Int))] rfl rfl (fun β _ => Given.turns (fun b => #[.pointer (some ⟨b, 0, none⟩), .int .i64 (121)]) (g4) (fun β => by simp [BTm.den, Tm.i, Tm.s, Tm.den, env, vInt, vBool, vStr, exI, SW.den, SV.den, Cell.den, densP, Piece.den, denV, hL]) (fun β => by simp [BTm.den, Tm.i, Tm.s, Tm.den, env, vInt, vBool, vStr, exI, SW.den, SV.den, Cell.den, densP, Piece.den, denV, hL]) (fun β => by simp [BTm.den, Tm.i, Tm.s, Tm.den, env, vInt, vBool, vStr, exI, SW.den, SV.den, Cell.den, densP, Piece.den, denV, hL]) (fun β => by simp [BTm.den, Tm.i, Tm.s, Tm.den, env, vInt, vBool, vStr, exI, SW.den, SV.den, Cell.den, densP, Piece.den, denV, hL]) β) ?_
      refine ev_fits (-60 + b) (by simp [BTm.den, Tm.i, Tm.s, Tm.den, env, vInt, vBool, vStr, exI]) (rng_i64 _ (by omega)) ?_
      refine ev_call [.int .i64 (9497 + x), .int .i64 0] rfl rfl (pure_gives r0) (fun β => by simp [BTm.den, Tm.i, Tm.s, Tm.den, env, vInt, vBool, vStr, exI, SW.den, SV.den, Cell.den, densP, Piece.den, denV, denT]) (fun β => by simp [BTm.den, Tm.i, Tm.s, Tm.den, env, vInt, vBool, vStr, exI, SW.den, SV.den, Cell.den, densP, Piece.den, denV, denT, ok2]) ?_
      refine ev_call [.int .i64 X, .int .i64 0] rfl rfl (pure_gives r1) (fun β => by simp [BTm.den, Tm.i, Tm.s, Tm.den, env, vInt, vBool, vStr, exI, SW.den, SV.den, Cell.den, densP, Piece.den, denV, denT]) (fun β => by simp [BTm.den, Tm.i, Tm.s, Tm.den, env, vInt, vBool, vStr, exI, SW.den, SV.den, Cell.den, densP, Piece.den, denV, denT, ok2]) ?_
      refine ev_fits (9497 + x + k) (by simp [BTm.den, Tm.i, Tm.s, Tm.den, env, vInt, vBool, vStr, exI]) (rng_i64 _ (by omega)) ?_
      refine ev_call [.int .i64 Y, .int .i64 0] rfl rfl (pure_gives r2) (fun β => by simp [BTm.den, Tm.i, Tm.s, Tm.den, env, vInt, vBool, vStr, exI, SW.den, SV.den, Cell.den, densP, Piece.den, denV, denT]) (fun β => by simp [BTm.den, Tm.i, Tm.s, Tm.den, env, vInt, vBool, vStr, exI, SW.den, SV.den, Cell.den, densP, Piece.den, denV, denT, ok2]) ?_
      refine ev_turn [.int .i64 (c), .int .i64 (((0 + 1 + 1 + 1 + 1 + 1 : Nat) : Int))] rfl rfl (fun β _ => Given.turns (fun b => #[.pointer (some ⟨b, 0, none⟩), .int .i64 (5)]) (g5) (fun β => by simp [BTm.den, Tm.i, Tm.s, Tm.den, env, vInt, vBool, vStr, exI, SW.den, SV.den, Cell.den, densP, Piece.den, denV, hL]) (fun β => by simp [BTm.den, Tm.i, Tm.s, Tm.den, env, vInt, vBool, vStr, exI, SW.den, SV.den, Cell.den, densP, Piece.den, denV, hL]) (fun β => by simp [BTm.den, Tm.i, Tm.s, Tm.den, env, vInt, vBool, vStr, exI, SW.den, SV.den, Cell.den, densP, Piece.den, denV, hL]) (fun β => by simp [BTm.den, Tm.i, Tm.s, Tm.den, env, vInt, vBool, vStr, exI, SW.den, SV.den, Cell.den, densP, Piece.den, denV, hL]) β) ?_
      refine ev_fits (-60 + a + c) (by simp [BTm.den, Tm.i, Tm.s, Tm.den, env, vInt, vBool, vStr, exI]) (rng_i64 _ (by omega)) ?_
      refine ev_call [.int .i64 Z, .int .i64 0] rfl rfl (pure_gives r3) (fun β => by simp [BTm.den, Tm.i, Tm.s, Tm.den, env, vInt, vBool, vStr, exI, SW.den, SV.den, Cell.den, densP, Piece.den, denV, denT]) (fun β => by simp [BTm.den, Tm.i, Tm.s, Tm.den, env, vInt, vBool, vStr, exI, SW.den, SV.den, Cell.den, densP, Piece.den, denV, denT, ok2]) ?_
      refine ev_call [.int .i64 y, .int .i64 m, .int .i64 d, .int .i64 0] rfl rfl (pure_gives cd) (fun β => by simp [BTm.den, Tm.i, Tm.s, Tm.den, env, vInt, vBool, vStr, exI, SW.den, SV.den, Cell.den, densP, Piece.den, denV, denT]) (fun β => by simp [BTm.den, Tm.i, Tm.s, Tm.den, env, vInt, vBool, vStr, exI, SW.den, SV.den, Cell.den, densP, Piece.den, denV, denT, civilV]) ?_
      refine ev_call [.int .i64 U, .int .i64 0] rfl rfl (pure_gives r4) (fun β => by simp [BTm.den, Tm.i, Tm.s, Tm.den, env, vInt, vBool, vStr, exI, SW.den, SV.den, Cell.den, densP, Piece.den, denV, denT]) (fun β => by simp [BTm.den, Tm.i, Tm.s, Tm.den, env, vInt, vBool, vStr, exI, SW.den, SV.den, Cell.den, densP, Piece.den, denV, denT, ok2]) ?_
      refine ev_fits (-60 + a + (-60 + b)) (by simp [BTm.den, Tm.i, Tm.s, Tm.den, env, vInt, vBool, vStr, exI]) (rng_i64 _ (by omega)) ?_
      refine ev_call [.int .i64 V, .int .i64 0] rfl rfl (pure_gives r5) (fun β => by simp [BTm.den, Tm.i, Tm.s, Tm.den, env, vInt, vBool, vStr, exI, SW.den, SV.den, Cell.den, densP, Piece.den, denV, denT]) (fun β => by simp [BTm.den, Tm.i, Tm.s, Tm.den, env, vInt, vBool, vStr, exI, SW.den, SV.den, Cell.den, densP, Piece.den, denV, denT, ok2]) ?_
      refine ev_turn [.bool true] rfl rfl (fun β _ => Reads.ev gk (by simp [BTm.den, Tm.i, Tm.s, Tm.den, env, vInt, vBool, vStr, exI, SW.den, SV.den, Cell.den, densP, Piece.den, denV, denT]) (by simp [BTm.den, Tm.i, Tm.s, Tm.den, env, vInt, vBool, vStr, exI, SW.den, SV.den, Cell.den, densP, Piece.den, denV, denT])) ?_
      refine ev_nil ⟨by simp [tiMonthsB_asm, BTm.den, Tm.i, Tm.s, Tm.den, env, vInt, vBool, vStr, exI]; omega, fun β => ?_⟩
      simp [tiMonthsB_out, BTm.den, Tm.i, Tm.s, Tm.den, env, vInt, vBool, vStr, exI, SW.den, SV.den, Cell.den, densP, Piece.den, denV, denT, uv]
    have h := reads_flat plain [Lv] tiMonthsB_ok tiMonthsB_nx (by kernel_rfl) _ main w hro
    simpa [BTm.den, Tm.i, Tm.s, Tm.den, env, vInt, vBool, vStr, exI, SW.den, SV.den, Cell.den, densP, Piece.den, denV, denT, denT, hL] using h
end Go.Proofs.YteemnnajfiimlaaDoor
