/- Merged: Hp. -/
import Derived.Test.YtkiefjbfepjcbaaGreatDoorDxg
import Derived.Test.YtkiefjbfepjcbaaGreatDoorDxd
section
namespace Go.Proofs.YtkiefjbfepjcbaaGreatDoor
open Go.RowKit Go.Proofs.YtkiefjbfepjcbaaGreatDoor.Sx
set_option linter.unusedSimpArgs false
set_option linter.unusedVariables false

theorem rnd_q {n : Nat} {a c x y : Int} (h : Qf n a c x y) (hn : n ≤ 480) {P : Nat} (hP : P ≤ 9) : Rnd (a * ten P) c := by
  have := (rnd_of (p := P) (h.vld hn) hP).1
  rwa [vz_self, vz_self] at this
theorem rnd_small {n : Nat} {a c x y : Int} (h : Qf n a c x y) (hn : n ≤ 10) {P : Nat} (hP : P ≤ 9) (mode : Int) : (rndZ mode (a * ten P) c).natAbs ≤ 1024000000001 := by
  have h1 := rnd_abs mode (a * ten P) h.pos
  have h2 : a.natAbs < 2 ^ 10 := more_bits h.la hn
  have h3 := ten_le hP
  have h4 := ten_pos P
  have h5 : (ten P).natAbs ≤ 1000000000 := by omega
  have h6 : 2 ^ 10 = 1024 := by decide
  have h7 : (a * ten P).natAbs ≤ 1024 * 1000000000 := by
    rw [Int.natAbs_mul]; exact Nat.mul_le_mul (by omega) h5
  omega
theorem roundInt_q {n : Nat} {a c x y : Int} (h : Qf n a c x y) (hn : n ≤ 10) (P : Nat) (hP : P ≤ 9) (mode : Int) (hm : 1 ≤ mode ∧ mode ≤ 6) :
    Gives Tryz.prog 13 #[.agg (rvZ a c), .int .i64 (P : Nat), .int .i64 mode] (.tuple #[.int .i64 (rndZ mode (a * ten P) c), .int .i64 0]) := by
  have g := roundInt_p (decide (a < 0)) (decide (c < 0)) a.natAbs c.natAbs (P : Nat) mode (h.lta (by omega)) (h.ltb (by omega))
  have hE : rndE (decide (a < 0)) a.natAbs (decide (c < 0)) c.natAbs (P : Nat) mode = 0 := by
    unfold rndE; rw [h.vld (by omega), if_neg (by simp), if_neg (by omega), if_neg (by omega)]
  have hQ : rndQ (decide (a < 0)) a.natAbs (decide (c < 0)) c.natAbs (P : Nat) mode = rndZ mode (a * ten P) c := by
    unfold rndQ; rw [hE, if_pos rfl, vz_self, vz_self]; rfl
  have hs := rnd_small h hn hP mode
  have hI : intE (decide (a < 0)) a.natAbs (decide (c < 0)) c.natAbs (P : Nat) mode = 0 := by
    unfold intE; rw [hE, if_pos rfl, hQ, if_pos (by omega)]
  unfold roundIntR at g
  rw [hI, if_pos rfl, hQ] at g
  exact g
theorem mono_q {n m : Nat} {a c x y b d z w : Int} (h1 : Qf n a c x y) (h2 : Qf m b d z w) (hn : n ≤ 480) (hm : m ≤ 480) (h : a * d ≤ b * c) {P : Nat} (hP : P ≤ 9) {mode : Int} (hmo : 1 ≤ mode ∧ mode ≤ 6) : rndZ mode (a * ten P) c ≤ rndZ mode (b * ten P) d := by
  refine rnd_mono hmo (rnd_q h1 hn hP) (rnd_q h2 hm hP) ?_
  have e := Int.mul_le_mul_of_nonneg_right h (Int.le_of_lt (ten_pos P))
  have e1 : a * ten P * d = a * d * ten P := by grind
  have e2 : b * ten P * c = b * c * ten P := by grind
  omega
theorem mirror_q {n : Nat} {a c x y : Int} (h : Qf n a c x y) (hn : n ≤ 480) {P : Nat} (hP : P ≤ 9) {mode : Int} (hmo : 1 ≤ mode ∧ mode ≤ 6) : rndZ (mir mode) (-a * ten P) c = -(rndZ mode (a * ten P) c) := by
  rw [Int.neg_mul]; exact rnd_mirror hmo (rnd_q h hn hP)
set_option maxHeartbeats 8000000 in
theorem mono_loop [Outer] (Lv : Value) (z1 p1 z2 p2 cm a1 c1 x1 y1 a2 c2 x2 y2 : Int) (P : Nat) (hP : P ≤ 2) (q1 : Qf 9 a1 c1 x1 y1) (q2 : Qf 9 a2 c2 x2 y2) (hle : a2 * c1 ≤ a1 * c2) :
    Ev.holds Tryz.prog (env [Lv, .int .i64 z1, .int .i64 1, .int .i64 p1, .int .i64 2, .bool (decide (a1 < 0)), .agg (mgk 32 (a1 : Int).natAbs), .bool (decide (c1 < 0)), .agg (mgk 32 (c1 : Int).natAbs), .int .i64 z2, .int .i64 3, .int .i64 p2, .int .i64 4, .bool (decide (a2 < 0)), .agg (mgk 32 (a2 : Int).natAbs), .bool (decide (c2 < 0)), .agg (mgk 32 (c2 : Int).natAbs), .int .i64 cm, .bool (decide (-a2 < 0)), .agg (mgk 32 (-a2 : Int).natAbs), .bool (decide (c2 < 0)), .agg (mgk 32 (c2 : Int).natAbs), .int .i64 0, .int .i64 (P : Nat), .int .i64 5, .int .i64 7, .bool false, .bool false])
      (.loop 6 0 dlwS6_0 dlwH6_0 (.exit 0) (.some (27, .ret)) 3) := by
  refine loop_holds plain (m := 3) (x := .exit 0) (alt := .some (27, .ret)) [Lv, .int .i64 z1, .int .i64 1, .int .i64 p1, .int .i64 2, .bool (decide (a1 < 0)), .agg (mgk 32 (a1 : Int).natAbs), .bool (decide (c1 < 0)), .agg (mgk 32 (c1 : Int).natAbs), .int .i64 z2, .int .i64 3, .int .i64 p2, .int .i64 4, .bool (decide (a2 < 0)), .agg (mgk 32 (a2 : Int).natAbs), .bool (decide (c2 < 0)), .agg (mgk 32 (c2 : Int).natAbs), .int .i64 cm, .bool (decide (-a2 < 0)), .agg (mgk 32 (-a2 : Int).natAbs), .bool (decide (c2 < 0)), .agg (mgk 32 (c2 : Int).natAbs), .int .i64 0, .int .i64 (P : Nat), .int .i64 5] [.int .i64 7, .bool false, .bool false] tDMono0_ok tDMono0_fine
    (fun vs => ∃ i : Int, 1 ≤ i ∧ i ≤ 7 ∧ vs = [.int .i64 i, .bool false, .bool false])
    (fun vs => 7 - (vInt (vs.getD 0 undef)).toNat) tDMono0_diff ?_ ?_
  · refine ⟨[.int .i64 1, .bool false, .bool false], rfl, ⟨1, by omega, by omega, rfl⟩, ?_⟩
    simp [tDMono0_d, BTm.den, Tm.i, Tm.s, Tm.den, env, vInt, vBool, vStr, exI, SW.den, SV.den, Cell.den, densP, Piece.den, denV, denT]
  · rintro vs hl ⟨i, hi1, hi7, rfl⟩
    clear hl
    by_cases h7 : 6 < i
    · refine tree_ite (ev_nil (way_true (by simp [BTm.den, Tm.i, Tm.s, Tm.den, env, vInt, vBool, vStr, exI]; omega) (tree_leaf (ev_nil ?_))))
      obtain rfl : i = 7 := by omega
      refine ⟨rfl, ?_⟩
      simp [BTm.den, Tm.i, Tm.s, Tm.den, env, vInt, vBool, vStr, exI, SW.den, SV.den, Cell.den, densP, Piece.den, denV, denT]
    · have hmo : 1 ≤ i ∧ i ≤ 6 := by omega
      have g1 := roundInt_q q2 (by omega) P (by omega) i hmo
      have g2 := roundInt_q q1 (by omega) P (by omega) i hmo
      have hmi : 1 ≤ mir i ∧ mir i ≤ 6 := by unfold mir; split <;> (try split) <;> omega
      have g3 := roundInt_q q2.minus (by omega) P (by omega) (mir i) hmi
      rw [mirror_q q2 (by omega) (show P ≤ 9 by omega) hmo] at g3
      have hmono := mono_q q2 q1 (by omega) (by omega) hle (show P ≤ 9 by omega) hmo
      have hs := rnd_small q2 (by omega) (show P ≤ 9 by omega) i
      generalize rndZ i (a2 * ten P) c2 = L at *
      generalize rndZ i (a1 * ten P) c1 = H at *
      refine tree_ite (ev_nil (way_false (by simp [BTm.den, Tm.i, Tm.s, Tm.den, env, vInt, vBool, vStr, exI]; omega) (tree_ite ?_)))
      refine ev_call [.int .i64 L, .int .i64 0] rfl rfl (pure_gives (g1)) (fun β => by simp [BTm.den, Tm.i, Tm.s, Tm.den, env, vInt, vBool, vStr, exI, SW.den, SV.den, Cell.den, densP, Piece.den, denV, rowCells_mgk, iv_list, rv_list, ivZ, rvZ, mgl_agg]) (fun β => by simp [BTm.den, Tm.i, Tm.s, Tm.den, env, vInt, vBool, vStr, exI, SW.den, SV.den, Cell.den, densP, Piece.den, denV, rowCells_mgk, iv_list, rv_list, ivZ, rvZ, mgl_agg]) ?_
      refine ev_call [.int .i64 H, .int .i64 0] rfl rfl (pure_gives (g2)) (fun β => by simp [BTm.den, Tm.i, Tm.s, Tm.den, env, vInt, vBool, vStr, exI, SW.den, SV.den, Cell.den, densP, Piece.den, denV, rowCells_mgk, iv_list, rv_list, ivZ, rvZ, mgl_agg]) (fun β => by simp [BTm.den, Tm.i, Tm.s, Tm.den, env, vInt, vBool, vStr, exI, SW.den, SV.den, Cell.den, densP, Piece.den, denV, rowCells_mgk, iv_list, rv_list, ivZ, rvZ, mgl_agg]) ?_
      by_cases m3 : i = 3
      · have e : mir i = 4 := by rw [m3]; rfl
        rw [e] at g3
        refine ev_nil (way_true (by simp [BTm.den, Tm.i, Tm.s, Tm.den, env, vInt, vBool, vStr, exI] <;> omega) (tree_ite ?_))
        refine ev_nil (way_false (by simp [BTm.den, Tm.i, Tm.s, Tm.den, env, vInt, vBool, vStr, exI] <;> omega) (tree_ite ?_))
        refine ev_call [.int .i64 (-L), .int .i64 0] rfl rfl (pure_gives (g3)) (fun β => by simp [BTm.den, Tm.i, Tm.s, Tm.den, env, vInt, vBool, vStr, exI, SW.den, SV.den, Cell.den, densP, Piece.den, denV, rowCells_mgk, iv_list, rv_list, ivZ, rvZ, mgl_agg]) (fun β => by simp [BTm.den, Tm.i, Tm.s, Tm.den, env, vInt, vBool, vStr, exI, SW.den, SV.den, Cell.den, densP, Piece.den, denV, rowCells_mgk, iv_list, rv_list, ivZ, rvZ, mgl_agg]) ?_
        refine ev_nil (way_true (by simp [BTm.den, Tm.i, Tm.s, Tm.den, env, vInt, vBool, vStr, exI] <;> omega) (tree_ite ?_))
        refine ev_nil (way_true (by simp [BTm.den, Tm.i, Tm.s, Tm.den, env, vInt, vBool, vStr, exI] <;> omega) (tree_ite ?_))
        refine ev_nil (way_true (by simp [BTm.den, Tm.i, Tm.s, Tm.den, env, vInt, vBool, vStr, exI] <;> omega) (tree_ite ?_))
        refine ev_nil (way_false (by simp [BTm.den, Tm.i, Tm.s, Tm.den, env, vInt, vBool, vStr, exI] <;> omega) (tree_ite ?_))
        refine ev_fits (-L) (by simp [BTm.den, Tm.i, Tm.s, Tm.den, env, vInt, vBool, vStr, exI]) (rng_i64 _ (by omega)) ?_
        refine ev_nil (way_true (by simp [BTm.den, Tm.i, Tm.s, Tm.den, env, vInt, vBool, vStr, exI]) (tree_leaf ?_))
        refine ev_fits (i + 1) (by simp [BTm.den, Tm.i, Tm.s, Tm.den, env, vInt, vBool, vStr, exI]) (rng_i64 _ (by omega)) ?_
        refine ev_nil ⟨[.int .i64 (i + 1), .bool false, .bool false], rfl, ⟨i + 1, by omega, by omega, rfl⟩, by simp [vInt]; omega, ?_⟩
        simp [BTm.den, Tm.i, Tm.s, Tm.den, env, vInt, vBool, vStr, exI, SW.den, SV.den, Cell.den, densP, Piece.den, denV, denT]
      · by_cases m4 : i = 4
        · have e : mir i = 3 := by rw [m4]; rfl
          rw [e] at g3
          refine ev_nil (way_false (by simp [BTm.den, Tm.i, Tm.s, Tm.den, env, vInt, vBool, vStr, exI] <;> omega) (tree_ite ?_))
          refine ev_nil (way_true (by simp [BTm.den, Tm.i, Tm.s, Tm.den, env, vInt, vBool, vStr, exI] <;> omega) (tree_ite ?_))
          refine ev_call [.int .i64 (-L), .int .i64 0] rfl rfl (pure_gives (g3)) (fun β => by simp [BTm.den, Tm.i, Tm.s, Tm.den, env, vInt, vBool, vStr, exI, SW.den, SV.den, Cell.den, densP, Piece.den, denV, rowCells_mgk, iv_list, rv_list, ivZ, rvZ, mgl_agg]) (fun β => by simp [BTm.den, Tm.i, Tm.s, Tm.den, env, vInt, vBool, vStr, exI, SW.den, SV.den, Cell.den, densP, Piece.den, denV, rowCells_mgk, iv_list, rv_list, ivZ, rvZ, mgl_agg]) ?_
          refine ev_nil (way_true (by simp [BTm.den, Tm.i, Tm.s, Tm.den, env, vInt, vBool, vStr, exI] <;> omega) (tree_ite ?_))
          refine ev_nil (way_true (by simp [BTm.den, Tm.i, Tm.s, Tm.den, env, vInt, vBool, vStr, exI] <;> omega) (tree_ite ?_))
          refine ev_nil (way_true (by simp [BTm.den, Tm.i, Tm.s, Tm.den, env, vInt, vBool, vStr, exI] <;> omega) (tree_ite ?_))
          refine ev_nil (way_false (by simp [BTm.den, Tm.i, Tm.s, Tm.den, env, vInt, vBool, vStr, exI] <;> omega) (tree_ite ?_))
          refine ev_fits (-L) (by simp [BTm.den, Tm.i, Tm.s, Tm.den, env, vInt, vBool, vStr, exI]) (rng_i64 _ (by omega)) ?_
          refine ev_nil (way_true (by simp [BTm.den, Tm.i, Tm.s, Tm.den, env, vInt, vBool, vStr, exI]) (tree_leaf ?_))
          refine ev_fits (i + 1) (by simp [BTm.den, Tm.i, Tm.s, Tm.den, env, vInt, vBool, vStr, exI]) (rng_i64 _ (by omega)) ?_
          refine ev_nil ⟨[.int .i64 (i + 1), .bool false, .bool false], rfl, ⟨i + 1, by omega, by omega, rfl⟩, by simp [vInt]; omega, ?_⟩
          simp [BTm.den, Tm.i, Tm.s, Tm.den, env, vInt, vBool, vStr, exI, SW.den, SV.den, Cell.den, densP, Piece.den, denV, denT]
        · have e : mir i = i := by unfold mir; rw [if_neg m3, if_neg m4]
          rw [e] at g3
          refine ev_nil (way_false (by simp [BTm.den, Tm.i, Tm.s, Tm.den, env, vInt, vBool, vStr, exI] <;> omega) (tree_ite ?_))
          refine ev_nil (way_false (by simp [BTm.den, Tm.i, Tm.s, Tm.den, env, vInt, vBool, vStr, exI] <;> omega) (tree_ite ?_))
          refine ev_call [.int .i64 (-L), .int .i64 0] rfl rfl (pure_gives (g3)) (fun β => by simp [BTm.den, Tm.i, Tm.s, Tm.den, env, vInt, vBool, vStr, exI, SW.den, SV.den, Cell.den, densP, Piece.den, denV, rowCells_mgk, iv_list, rv_list, ivZ, rvZ, mgl_agg]) (fun β => by simp [BTm.den, Tm.i, Tm.s, Tm.den, env, vInt, vBool, vStr, exI, SW.den, SV.den, Cell.den, densP, Piece.den, denV, rowCells_mgk, iv_list, rv_list, ivZ, rvZ, mgl_agg]) ?_
          refine ev_nil (way_true (by simp [BTm.den, Tm.i, Tm.s, Tm.den, env, vInt, vBool, vStr, exI] <;> omega) (tree_ite ?_))
          refine ev_nil (way_true (by simp [BTm.den, Tm.i, Tm.s, Tm.den, env, vInt, vBool, vStr, exI] <;> omega) (tree_ite ?_))
          refine ev_nil (way_true (by simp [BTm.den, Tm.i, Tm.s, Tm.den, env, vInt, vBool, vStr, exI] <;> omega) (tree_ite ?_))
          refine ev_nil (way_false (by simp [BTm.den, Tm.i, Tm.s, Tm.den, env, vInt, vBool, vStr, exI] <;> omega) (tree_ite ?_))
          refine ev_fits (-L) (by simp [BTm.den, Tm.i, Tm.s, Tm.den, env, vInt, vBool, vStr, exI]) (rng_i64 _ (by omega)) ?_
          refine ev_nil (way_true (by simp [BTm.den, Tm.i, Tm.s, Tm.den, env, vInt, vBool, vStr, exI]) (tree_leaf ?_))
          refine ev_fits (i + 1) (by simp [BTm.den, Tm.i, Tm.s, Tm.den, env, vInt, vBool, vStr, exI]) (rng_i64 _ (by omega)) ?_
          refine ev_nil ⟨[.int .i64 (i + 1), .bool false, .bool false], rfl, ⟨i + 1, by omega, by omega, rfl⟩, by simp [vInt]; omega, ?_⟩
          simp [BTm.den, Tm.i, Tm.s, Tm.den, env, vInt, vBool, vStr, exI, SW.den, SV.den, Cell.den, densP, Piece.den, denV, denT]
set_option maxHeartbeats 8000000 in
theorem mono_loopb [Outer] (Lv : Value) (z1 p1 z2 p2 cm a1 c1 x1 y1 a2 c2 x2 y2 : Int) (P : Nat) (hP : P ≤ 2) (q1 : Qf 9 a1 c1 x1 y1) (q2 : Qf 9 a2 c2 x2 y2) (hle : a1 * c2 ≤ a2 * c1) :
    Ev.holds Tryz.prog (env [Lv, .int .i64 z1, .int .i64 1, .int .i64 p1, .int .i64 2, .bool (decide (a1 < 0)), .agg (mgk 32 (a1 : Int).natAbs), .bool (decide (c1 < 0)), .agg (mgk 32 (c1 : Int).natAbs), .int .i64 z2, .int .i64 3, .int .i64 p2, .int .i64 4, .bool (decide (a2 < 0)), .agg (mgk 32 (a2 : Int).natAbs), .bool (decide (c2 < 0)), .agg (mgk 32 (c2 : Int).natAbs), .int .i64 cm, .bool (decide (-a1 < 0)), .agg (mgk 32 (-a1 : Int).natAbs), .bool (decide (c1 < 0)), .agg (mgk 32 (c1 : Int).natAbs), .int .i64 0, .int .i64 (P : Nat), .int .i64 5, .int .i64 7, .bool false, .bool false])
      (.loop 6 0 dlwS6_0b dlwH6_0b (.exit 0) (.some (27, .ret)) 3) := by
  refine loop_holds plain (m := 3) (x := .exit 0) (alt := .some (27, .ret)) [Lv, .int .i64 z1, .int .i64 1, .int .i64 p1, .int .i64 2, .bool (decide (a1 < 0)), .agg (mgk 32 (a1 : Int).natAbs), .bool (decide (c1 < 0)), .agg (mgk 32 (c1 : Int).natAbs), .int .i64 z2, .int .i64 3, .int .i64 p2, .int .i64 4, .bool (decide (a2 < 0)), .agg (mgk 32 (a2 : Int).natAbs), .bool (decide (c2 < 0)), .agg (mgk 32 (c2 : Int).natAbs), .int .i64 cm, .bool (decide (-a1 < 0)), .agg (mgk 32 (-a1 : Int).natAbs), .bool (decide (c1 < 0)), .agg (mgk 32 (c1 : Int).natAbs), .int .i64 0, .int .i64 (P : Nat), .int .i64 5] [.int .i64 7, .bool false, .bool false] tDMono0b_ok tDMono0b_fine
    (fun vs => ∃ i : Int, 1 ≤ i ∧ i ≤ 7 ∧ vs = [.int .i64 i, .bool false, .bool false])
    (fun vs => 7 - (vInt (vs.getD 0 undef)).toNat) tDMono0b_diff ?_ ?_
  · refine ⟨[.int .i64 1, .bool false, .bool false], rfl, ⟨1, by omega, by omega, rfl⟩, ?_⟩
    simp [tDMono0b_d, BTm.den, Tm.i, Tm.s, Tm.den, env, vInt, vBool, vStr, exI, SW.den, SV.den, Cell.den, densP, Piece.den, denV, denT]
  · rintro vs hl ⟨i, hi1, hi7, rfl⟩
    clear hl
    by_cases h7 : 6 < i
    · refine tree_ite (ev_nil (way_true (by simp [BTm.den, Tm.i, Tm.s, Tm.den, env, vInt, vBool, vStr, exI]; omega) (tree_leaf (ev_nil ?_))))
      obtain rfl : i = 7 := by omega
      refine ⟨rfl, ?_⟩
      simp [BTm.den, Tm.i, Tm.s, Tm.den, env, vInt, vBool, vStr, exI, SW.den, SV.den, Cell.den, densP, Piece.den, denV, denT]
    · have hmo : 1 ≤ i ∧ i ≤ 6 := by omega
      have g1 := roundInt_q q1 (by omega) P (by omega) i hmo
      have g2 := roundInt_q q2 (by omega) P (by omega) i hmo
      have hmi : 1 ≤ mir i ∧ mir i ≤ 6 := by unfold mir; split <;> (try split) <;> omega
      have g3 := roundInt_q q1.minus (by omega) P (by omega) (mir i) hmi
      rw [mirror_q q1 (by omega) (show P ≤ 9 by omega) hmo] at g3
      have hmono := mono_q q1 q2 (by omega) (by omega) hle (show P ≤ 9 by omega) hmo
      have hs := rnd_small q1 (by omega) (show P ≤ 9 by omega) i
      generalize rndZ i (a1 * ten P) c1 = L at *
      generalize rndZ i (a2 * ten P) c2 = H at *
      refine tree_ite (ev_nil (way_false (by simp [BTm.den, Tm.i, Tm.s, Tm.den, env, vInt, vBool, vStr, exI]; omega) (tree_ite ?_)))
      refine ev_call [.int .i64 L, .int .i64 0] rfl rfl (pure_gives (g1)) (fun β => by simp [BTm.den, Tm.i, Tm.s, Tm.den, env, vInt, vBool, vStr, exI, SW.den, SV.den, Cell.den, densP, Piece.den, denV, rowCells_mgk, iv_list, rv_list, ivZ, rvZ, mgl_agg]) (fun β => by simp [BTm.den, Tm.i, Tm.s, Tm.den, env, vInt, vBool, vStr, exI, SW.den, SV.den, Cell.den, densP, Piece.den, denV, rowCells_mgk, iv_list, rv_list, ivZ, rvZ, mgl_agg]) ?_
      refine ev_call [.int .i64 H, .int .i64 0] rfl rfl (pure_gives (g2)) (fun β => by simp [BTm.den, Tm.i, Tm.s, Tm.den, env, vInt, vBool, vStr, exI, SW.den, SV.den, Cell.den, densP, Piece.den, denV, rowCells_mgk, iv_list, rv_list, ivZ, rvZ, mgl_agg]) (fun β => by simp [BTm.den, Tm.i, Tm.s, Tm.den, env, vInt, vBool, vStr, exI, SW.den, SV.den, Cell.den, densP, Piece.den, denV, rowCells_mgk, iv_list, rv_list, ivZ, rvZ, mgl_agg]) ?_
      by_cases m3 : i = 3
      · have e : mir i = 4 := by rw [m3]; rfl
        rw [e] at g3
        refine ev_nil (way_true (by simp [BTm.den, Tm.i, Tm.s, Tm.den, env, vInt, vBool, vStr, exI] <;> omega) (tree_ite ?_))
        refine ev_nil (way_false (by simp [BTm.den, Tm.i, Tm.s, Tm.den, env, vInt, vBool, vStr, exI] <;> omega) (tree_ite ?_))
        refine ev_call [.int .i64 (-L), .int .i64 0] rfl rfl (pure_gives (g3)) (fun β => by simp [BTm.den, Tm.i, Tm.s, Tm.den, env, vInt, vBool, vStr, exI, SW.den, SV.den, Cell.den, densP, Piece.den, denV, rowCells_mgk, iv_list, rv_list, ivZ, rvZ, mgl_agg]) (fun β => by simp [BTm.den, Tm.i, Tm.s, Tm.den, env, vInt, vBool, vStr, exI, SW.den, SV.den, Cell.den, densP, Piece.den, denV, rowCells_mgk, iv_list, rv_list, ivZ, rvZ, mgl_agg]) ?_
        refine ev_nil (way_true (by simp [BTm.den, Tm.i, Tm.s, Tm.den, env, vInt, vBool, vStr, exI] <;> omega) (tree_ite ?_))
        refine ev_nil (way_true (by simp [BTm.den, Tm.i, Tm.s, Tm.den, env, vInt, vBool, vStr, exI] <;> omega) (tree_ite ?_))
        refine ev_nil (way_true (by simp [BTm.den, Tm.i, Tm.s, Tm.den, env, vInt, vBool, vStr, exI] <;> omega) (tree_ite ?_))
        refine ev_nil (way_false (by simp [BTm.den, Tm.i, Tm.s, Tm.den, env, vInt, vBool, vStr, exI] <;> omega) (tree_ite ?_))
        refine ev_fits (-L) (by simp [BTm.den, Tm.i, Tm.s, Tm.den, env, vInt, vBool, vStr, exI]) (rng_i64 _ (by omega)) ?_
        refine ev_nil (way_true (by simp [BTm.den, Tm.i, Tm.s, Tm.den, env, vInt, vBool, vStr, exI]) (tree_leaf ?_))
        refine ev_fits (i + 1) (by simp [BTm.den, Tm.i, Tm.s, Tm.den, env, vInt, vBool, vStr, exI]) (rng_i64 _ (by omega)) ?_
        refine ev_nil ⟨[.int .i64 (i + 1), .bool false, .bool false], rfl, ⟨i + 1, by omega, by omega, rfl⟩, by simp [vInt]; omega, ?_⟩
        simp [BTm.den, Tm.i, Tm.s, Tm.den, env, vInt, vBool, vStr, exI, SW.den, SV.den, Cell.den, densP, Piece.den, denV, denT]
      · by_cases m4 : i = 4
        · have e : mir i = 3 := by rw [m4]; rfl
          rw [e] at g3
          refine ev_nil (way_false (by simp [BTm.den, Tm.i, Tm.s, Tm.den, env, vInt, vBool, vStr, exI] <;> omega) (tree_ite ?_))
          refine ev_nil (way_true (by simp [BTm.den, Tm.i, Tm.s, Tm.den, env, vInt, vBool, vStr, exI] <;> omega) (tree_ite ?_))
          refine ev_call [.int .i64 (-L), .int .i64 0] rfl rfl (pure_gives (g3)) (fun β => by simp [BTm.den, Tm.i, Tm.s, Tm.den, env, vInt, vBool, vStr, exI, SW.den, SV.den, Cell.den, densP, Piece.den, denV, rowCells_mgk, iv_list, rv_list, ivZ, rvZ, mgl_agg]) (fun β => by simp [BTm.den, Tm.i, Tm.s, Tm.den, env, vInt, vBool, vStr, exI, SW.den, SV.den, Cell.den, densP, Piece.den, denV, rowCells_mgk, iv_list, rv_list, ivZ, rvZ, mgl_agg]) ?_
          refine ev_nil (way_true (by simp [BTm.den, Tm.i, Tm.s, Tm.den, env, vInt, vBool, vStr, exI] <;> omega) (tree_ite ?_))
          refine ev_nil (way_true (by simp [BTm.den, Tm.i, Tm.s, Tm.den, env, vInt, vBool, vStr, exI] <;> omega) (tree_ite ?_))
          refine ev_nil (way_true (by simp [BTm.den, Tm.i, Tm.s, Tm.den, env, vInt, vBool, vStr, exI] <;> omega) (tree_ite ?_))
          refine ev_nil (way_false (by simp [BTm.den, Tm.i, Tm.s, Tm.den, env, vInt, vBool, vStr, exI] <;> omega) (tree_ite ?_))
          refine ev_fits (-L) (by simp [BTm.den, Tm.i, Tm.s, Tm.den, env, vInt, vBool, vStr, exI]) (rng_i64 _ (by omega)) ?_
          refine ev_nil (way_true (by simp [BTm.den, Tm.i, Tm.s, Tm.den, env, vInt, vBool, vStr, exI]) (tree_leaf ?_))
          refine ev_fits (i + 1) (by simp [BTm.den, Tm.i, Tm.s, Tm.den, env, vInt, vBool, vStr, exI]) (rng_i64 _ (by omega)) ?_
          refine ev_nil ⟨[.int .i64 (i + 1), .bool false, .bool false], rfl, ⟨i + 1, by omega, by omega, rfl⟩, by simp [vInt]; omega, ?_⟩
          simp [BTm.den, Tm.i, Tm.s, Tm.den, env, vInt, vBool, vStr, exI, SW.den, SV.den, Cell.den, densP, Piece.den, denV, denT]
        · have e : mir i = i := by unfold mir; rw [if_neg m3, if_neg m4]
          rw [e] at g3
          refine ev_nil (way_false (by simp [BTm.den, Tm.i, Tm.s, Tm.den, env, vInt, vBool, vStr, exI] <;> omega) (tree_ite ?_))
          refine ev_nil (way_false (by simp [BTm.den, Tm.i, Tm.s, Tm.den, env, vInt, vBool, vStr, exI] <;> omega) (tree_ite ?_))
          refine ev_call [.int .i64 (-L), .int .i64 0] rfl rfl (pure_gives (g3)) (fun β => by simp [BTm.den, Tm.i, Tm.s, Tm.den, env, vInt, vBool, vStr, exI, SW.den, SV.den, Cell.den, densP, Piece.den, denV, rowCells_mgk, iv_list, rv_list, ivZ, rvZ, mgl_agg]) (fun β => by simp [BTm.den, Tm.i, Tm.s, Tm.den, env, vInt, vBool, vStr, exI, SW.den, SV.den, Cell.den, densP, Piece.den, denV, rowCells_mgk, iv_list, rv_list, ivZ, rvZ, mgl_agg]) ?_
          refine ev_nil (way_true (by simp [BTm.den, Tm.i, Tm.s, Tm.den, env, vInt, vBool, vStr, exI] <;> omega) (tree_ite ?_))
          refine ev_nil (way_true (by simp [BTm.den, Tm.i, Tm.s, Tm.den, env, vInt, vBool, vStr, exI] <;> omega) (tree_ite ?_))
          refine ev_nil (way_true (by simp [BTm.den, Tm.i, Tm.s, Tm.den, env, vInt, vBool, vStr, exI] <;> omega) (tree_ite ?_))
          refine ev_nil (way_false (by simp [BTm.den, Tm.i, Tm.s, Tm.den, env, vInt, vBool, vStr, exI] <;> omega) (tree_ite ?_))
          refine ev_fits (-L) (by simp [BTm.den, Tm.i, Tm.s, Tm.den, env, vInt, vBool, vStr, exI]) (rng_i64 _ (by omega)) ?_
          refine ev_nil (way_true (by simp [BTm.den, Tm.i, Tm.s, Tm.den, env, vInt, vBool, vStr, exI]) (tree_leaf ?_))
          refine ev_fits (i + 1) (by simp [BTm.den, Tm.i, Tm.s, Tm.den, env, vInt, vBool, vStr, exI]) (rng_i64 _ (by omega)) ?_
          refine ev_nil ⟨[.int .i64 (i + 1), .bool false, .bool false], rfl, ⟨i + 1, by omega, by omega, rfl⟩, by simp [vInt]; omega, ?_⟩
          simp [BTm.den, Tm.i, Tm.s, Tm.den, env, vInt, vBool, vStr, exI, SW.den, SV.den, Cell.den, densP, Piece.den, denV, denT]
set_option maxHeartbeats 16000000 in
theorem dmono_any [Outer] (hT : HasTab) (Lv : Value) (hL : fix Lv = Lv) (hs : Slc Outer.r Lv) (w : World) (hro : ∀ x ∈ Outer.r, w.heap[x.1]? = some x.2) :
    Calls Tryz.prog 6 #[Lv] w fun e w' => e = .returned (.bool true) ∧ Below w.heap.size w w' := by
  obtain ⟨tv, ht⟩ := slc_tape hs
  have gk := dknown_reads hT
  obtain ⟨z1, hz1, g1⟩ := ht.next1 0 801 (by omega) (by omega)
  obtain ⟨p1, hp1, g2⟩ := ht.pick1 [1, 2, 3, 8, 20, 200] 6 rfl (by omega) 1 (by omega)
  have hp1' : 1 ≤ p1 ∧ p1 ≤ 200 := by simp at hp1; omega
  obtain ⟨a1, c1, o1, q1⟩ := of_made (-400 + z1) p1 9 (by omega) (by omega) (by omega) (by omega) (by omega) (by omega)
  obtain ⟨z2, hz2, g3⟩ := ht.next1 2 801 (by omega) (by omega)
  obtain ⟨p2, hp2, g4⟩ := ht.pick1 [1, 2, 3, 8, 20, 200] 6 rfl (by omega) 3 (by omega)
  have hp2' : 1 ≤ p2 ∧ p2 ≤ 200 := by simp at hp2; omega
  obtain ⟨a2, c2, o2, q2⟩ := of_made (-400 + z2) p2 9 (by omega) (by omega) (by omega) (by omega) (by omega) (by omega)
  obtain ⟨P', hP', g5⟩ := ht.next1 4 3 (by omega) (by omega)
  obtain ⟨P, rfl⟩ : ∃ P : Nat, P' = (P : Nat) := ⟨P'.toNat, by omega⟩
  have gc := compare_v q1 q2 (by omega) (by omega)
  have k1 : 0 < cmpZ (a1 * c2) (a2 * c1) ↔ a2 * c1 < a1 * c2 := by unfold cmpZ; split <;> (try split) <;> omega
  obtain ⟨cm, hcm⟩ : ∃ k, k = cmpZ (a1 * c2) (a2 * c1) := ⟨_, rfl⟩
  rw [← hcm] at gc k1
  have main : tDMono.den Tryz.prog (fun ρ' ret => ∀ β, ret.val.den (env ρ') β = .bool true) [Lv] := by
    refine tree_ite ?_
    refine ev_turn [.int .i64 (z1), .int .i64 (1)] rfl rfl (fun β _ => Given.turns (fun b => #[.pointer (some ⟨b, 0, none⟩), .int .i64 (801)]) (g1) (fun β => by simp [BTm.den, Tm.i, Tm.s, Tm.den, env, vInt, vBool, vStr, exI, SW.den, SV.den, Cell.den, densP, Piece.den, denV, hL]) (fun β => by simp [BTm.den, Tm.i, Tm.s, Tm.den, env, vInt, vBool, vStr, exI, SW.den, SV.den, Cell.den, densP, Piece.den, denV, hL]) (fun β => by simp [BTm.den, Tm.i, Tm.s, Tm.den, env, vInt, vBool, vStr, exI, SW.den, SV.den, Cell.den, densP, Piece.den, denV, hL]) (fun β => by simp [BTm.den, Tm.i, Tm.s, Tm.den, env, vInt, vBool, vStr, exI, SW.den, SV.den, Cell.den, densP, Piece.den, denV, hL]) β) ?_
    refine ev_fits (-400 + z1) (by simp [BTm.den, Tm.i, Tm.s, Tm.den, env, vInt, vBool, vStr, exI]) (rng_i64 _ (by omega)) ?_
    refine ev_turn [.int .i64 (p1), .int .i64 (2)] rfl rfl (fun β hβ => Given.turns2 (fun b g => #[.pointer (some ⟨b, 0, none⟩), .slice (some ⟨g, 0, none⟩) 6 6]) [.int .i64 1, .int .i64 2, .int .i64 3, .int .i64 8, .int .i64 20, .int .i64 200] (by decide) (fun b g => g2 b g 6 3) (fun β => by simp [BTm.den, Tm.i, Tm.s, Tm.den, env, vInt, vBool, vStr, exI, SW.den, SV.den, Cell.den, densP, Piece.den, denV, hL]) (fun β => by simp [BTm.den, Tm.i, Tm.s, Tm.den, env, vInt, vBool, vStr, exI, SW.den, SV.den, Cell.den, densP, Piece.den, denV, hL]) (fun β => by simp [BTm.den, Tm.i, Tm.s, Tm.den, env, vInt, vBool, vStr, exI, SW.den, SV.den, Cell.den, densP, Piece.den, denV, hL]) (fun β => by simp [BTm.den, Tm.i, Tm.s, Tm.den, env, vInt, vBool, vStr, exI, SW.den, SV.den, Cell.den, densP, Piece.den, denV, hL]) (fun β => by simp [BTm.den, Tm.i, Tm.s, Tm.den, env, vInt, vBool, vStr, exI, SW.den, SV.den, Cell.den, densP, Piece.den, denV, hL]) β hβ) ?_
    refine ev_call [.bool (decide (a1 < 0)), .agg (mgk 32 (a1 : Int).natAbs), .bool (decide (c1 < 0)), .agg (mgk 32 (c1 : Int).natAbs)] rfl rfl (pure_gives (o1)) (fun β => by simp [BTm.den, Tm.i, Tm.s, Tm.den, env, vInt, vBool, vStr, exI, SW.den, SV.den, Cell.den, densP, Piece.den, denV, rowCells_mgk, iv_list, rv_list, ivZ, rvZ, mgl_agg]) (fun β => by simp [BTm.den, Tm.i, Tm.s, Tm.den, env, vInt, vBool, vStr, exI, SW.den, SV.den, Cell.den, densP, Piece.den, denV, rowCells_mgk, iv_list, rv_list, ivZ, rvZ, mgl_agg]) ?_
    refine ev_turn [.int .i64 (z2), .int .i64 (3)] rfl rfl (fun β _ => Given.turns (fun b => #[.pointer (some ⟨b, 0, none⟩), .int .i64 (801)]) (g3) (fun β => by simp [BTm.den, Tm.i, Tm.s, Tm.den, env, vInt, vBool, vStr, exI, SW.den, SV.den, Cell.den, densP, Piece.den, denV, hL]) (fun β => by simp [BTm.den, Tm.i, Tm.s, Tm.den, env, vInt, vBool, vStr, exI, SW.den, SV.den, Cell.den, densP, Piece.den, denV, hL]) (fun β => by simp [BTm.den, Tm.i, Tm.s, Tm.den, env, vInt, vBool, vStr, exI, SW.den, SV.den, Cell.den, densP, Piece.den, denV, hL]) (fun β => by simp [BTm.den, Tm.i, Tm.s, Tm.den, env, vInt, vBool, vStr, exI, SW.den, SV.den, Cell.den, densP, Piece.den, denV, hL]) β) ?_
    refine ev_fits (-400 + z2) (by simp [BTm.den, Tm.i, Tm.s, Tm.den, env, vInt, vBool, vStr, exI]) (rng_i64 _ (by omega)) ?_
    refine ev_turn [.int .i64 (p2), .int .i64 (4)] rfl rfl (fun β hβ => Given.turns2 (fun b g => #[.pointer (some ⟨b, 0, none⟩), .slice (some ⟨g, 0, none⟩) 6 6]) [.int .i64 1, .int .i64 2, .int .i64 3, .int .i64 8, .int .i64 20, .int .i64 200] (by decide) (fun b g => g4 b g 6 3) (fun β => by simp [BTm.den, Tm.i, Tm.s, Tm.den, env, vInt, vBool, vStr, exI, SW.den, SV.den, Cell.den, densP, Piece.den, denV, hL]) (fun β => by simp [BTm.den, Tm.i, Tm.s, Tm.den, env, vInt, vBool, vStr, exI, SW.den, SV.den, Cell.den, densP, Piece.den, denV, hL]) (fun β => by simp [BTm.den, Tm.i, Tm.s, Tm.den, env, vInt, vBool, vStr, exI, SW.den, SV.den, Cell.den, densP, Piece.den, denV, hL]) (fun β => by simp [BTm.den, Tm.i, Tm.s, Tm.den, env, vInt, vBool, vStr, exI, SW.den, SV.den, Cell.den, densP, Piece.den, denV, hL]) (fun β => by simp [BTm.den, Tm.i, Tm.s, Tm.den, env, vInt, vBool, vStr, exI, SW.den, SV.den, Cell.den, densP, Piece.den, denV, hL]) β hβ) ?_
    refine ev_call [.bool (decide (a2 < 0)), .agg (mgk 32 (a2 : Int).natAbs), .bool (decide (c2 < 0)), .agg (mgk 32 (c2 : Int).natAbs)] rfl rfl (pure_gives (o2)) (fun β => by simp [BTm.den, Tm.i, Tm.s, Tm.den, env, vInt, vBool, vStr, exI, SW.den, SV.den, Cell.den, densP, Piece.den, denV, rowCells_mgk, iv_list, rv_list, ivZ, rvZ, mgl_agg]) (fun β => by simp [BTm.den, Tm.i, Tm.s, Tm.den, env, vInt, vBool, vStr, exI, SW.den, SV.den, Cell.den, densP, Piece.den, denV, rowCells_mgk, iv_list, rv_list, ivZ, rvZ, mgl_agg]) ?_
    refine ev_call [.int .i64 cm] rfl rfl (pure_gives (gc)) (fun β => by simp [BTm.den, Tm.i, Tm.s, Tm.den, env, vInt, vBool, vStr, exI, SW.den, SV.den, Cell.den, densP, Piece.den, denV, rowCells_mgk, iv_list, rv_list, ivZ, rvZ, mgl_agg]) (fun β => by simp [BTm.den, Tm.i, Tm.s, Tm.den, env, vInt, vBool, vStr, exI, SW.den, SV.den, Cell.den, densP, Piece.den, denV, rowCells_mgk, iv_list, rv_list, ivZ, rvZ, mgl_agg]) ?_
    by_cases h : 0 < cm
    · have hl := mono_loop Lv z1 p1 z2 p2 cm a1 c1 _ _ a2 c2 _ _ P (by omega) q1 q2 (Int.le_of_lt (k1.1 h))
      have gn := neg_v q2 (by omega)
      refine ev_nil (way_true (by simp [BTm.den, Tm.i, Tm.s, Tm.den, env, vInt, vBool, vStr, exI, h]) (tree_ite ?_))
      refine ev_call [.bool (decide (-a2 < 0)), .agg (mgk 32 (-a2 : Int).natAbs), .bool (decide (c2 < 0)), .agg (mgk 32 (c2 : Int).natAbs), .int .i64 0] rfl rfl (pure_gives (gn)) (fun β => by simp [BTm.den, Tm.i, Tm.s, Tm.den, env, vInt, vBool, vStr, exI, SW.den, SV.den, Cell.den, densP, Piece.den, denV, rowCells_mgk, iv_list, rv_list, ivZ, rvZ, mgl_agg]) (fun β => by simp [BTm.den, Tm.i, Tm.s, Tm.den, env, vInt, vBool, vStr, exI, SW.den, SV.den, Cell.den, densP, Piece.den, denV, rowCells_mgk, iv_list, rv_list, ivZ, rvZ, mgl_agg]) ?_
      refine ev_turn [.int .i64 ((P : Nat)), .int .i64 (5)] rfl rfl (fun β _ => Given.turns (fun b => #[.pointer (some ⟨b, 0, none⟩), .int .i64 (3)]) (g5) (fun β => by simp [BTm.den, Tm.i, Tm.s, Tm.den, env, vInt, vBool, vStr, exI, SW.den, SV.den, Cell.den, densP, Piece.den, denV, hL]) (fun β => by simp [BTm.den, Tm.i, Tm.s, Tm.den, env, vInt, vBool, vStr, exI, SW.den, SV.den, Cell.den, densP, Piece.den, denV, hL]) (fun β => by simp [BTm.den, Tm.i, Tm.s, Tm.den, env, vInt, vBool, vStr, exI, SW.den, SV.den, Cell.den, densP, Piece.den, denV, hL]) (fun β => by simp [BTm.den, Tm.i, Tm.s, Tm.den, env, vInt, vBool, vStr, exI, SW.den, SV.den, Cell.den, densP, Piece.den, denV, hL]) β) ?_
      refine ev_loop [.int .i64 7, .bool false, .bool false] rfl rfl hl ?_
      refine ev_nil (way_false (by simp [BTm.den, Tm.i, Tm.s, Tm.den, env, vInt, vBool, vStr, exI]) (tree_leaf ?_))
      refine ev_turn [.bool true] rfl rfl (fun β _ => Reads.ev gk rfl (by simp [BTm.den, Tm.i, Tm.s, Tm.den, env, vInt, vBool, vStr, exI, SW.den, SV.den, Cell.den, densP, Piece.den, denV, denT])) ?_
      refine ev_nil fun β => ?_
      simp [BTm.den, Tm.i, Tm.s, Tm.den, env, vInt, vBool, vStr, exI, SW.den, SV.den, Cell.den, densP, Piece.den, denV, rowCells_mgk, iv_list, rv_list, ivZ, rvZ, mgl_agg]
    · have hl := mono_loopb Lv z1 p1 z2 p2 cm a1 c1 _ _ a2 c2 _ _ P (by omega) q1 q2 (Int.not_lt.1 fun e => h (k1.2 e))
      have gn := neg_v q1 (by omega)
      refine ev_nil (way_false (by simp [BTm.den, Tm.i, Tm.s, Tm.den, env, vInt, vBool, vStr, exI]; omega) (tree_ite ?_))
      refine ev_call [.bool (decide (-a1 < 0)), .agg (mgk 32 (-a1 : Int).natAbs), .bool (decide (c1 < 0)), .agg (mgk 32 (c1 : Int).natAbs), .int .i64 0] rfl rfl (pure_gives (gn)) (fun β => by simp [BTm.den, Tm.i, Tm.s, Tm.den, env, vInt, vBool, vStr, exI, SW.den, SV.den, Cell.den, densP, Piece.den, denV, rowCells_mgk, iv_list, rv_list, ivZ, rvZ, mgl_agg]) (fun β => by simp [BTm.den, Tm.i, Tm.s, Tm.den, env, vInt, vBool, vStr, exI, SW.den, SV.den, Cell.den, densP, Piece.den, denV, rowCells_mgk, iv_list, rv_list, ivZ, rvZ, mgl_agg]) ?_
      refine ev_turn [.int .i64 ((P : Nat)), .int .i64 (5)] rfl rfl (fun β _ => Given.turns (fun b => #[.pointer (some ⟨b, 0, none⟩), .int .i64 (3)]) (g5) (fun β => by simp [BTm.den, Tm.i, Tm.s, Tm.den, env, vInt, vBool, vStr, exI, SW.den, SV.den, Cell.den, densP, Piece.den, denV, hL]) (fun β => by simp [BTm.den, Tm.i, Tm.s, Tm.den, env, vInt, vBool, vStr, exI, SW.den, SV.den, Cell.den, densP, Piece.den, denV, hL]) (fun β => by simp [BTm.den, Tm.i, Tm.s, Tm.den, env, vInt, vBool, vStr, exI, SW.den, SV.den, Cell.den, densP, Piece.den, denV, hL]) (fun β => by simp [BTm.den, Tm.i, Tm.s, Tm.den, env, vInt, vBool, vStr, exI, SW.den, SV.den, Cell.den, densP, Piece.den, denV, hL]) β) ?_
      refine ev_loop [.int .i64 7, .bool false, .bool false] rfl rfl hl ?_
      refine ev_nil (way_false (by simp [BTm.den, Tm.i, Tm.s, Tm.den, env, vInt, vBool, vStr, exI]) (tree_leaf ?_))
      refine ev_turn [.bool true] rfl rfl (fun β _ => Reads.ev gk rfl (by simp [BTm.den, Tm.i, Tm.s, Tm.den, env, vInt, vBool, vStr, exI, SW.den, SV.den, Cell.den, densP, Piece.den, denV, denT])) ?_
      refine ev_nil fun β => ?_
      simp [BTm.den, Tm.i, Tm.s, Tm.den, env, vInt, vBool, vStr, exI, SW.den, SV.den, Cell.den, densP, Piece.den, denV, rowCells_mgk, iv_list, rv_list, ivZ, rvZ, mgl_agg]
  have h := reads_of plain [Lv] tDMono_ok (by kernel_rfl) _ main w hro
  simpa [anyW, BTm.den, Tm.i, Tm.s, Tm.den, env, vInt, vBool, vStr, exI, SW.den, SV.den, Cell.den, densP, Piece.den, denV, denT, denT, hL] using h
end Go.Proofs.YtkiefjbfepjcbaaGreatDoor
end
