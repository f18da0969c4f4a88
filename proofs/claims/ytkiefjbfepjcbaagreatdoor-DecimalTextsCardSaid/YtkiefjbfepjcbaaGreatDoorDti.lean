/- Merged: Hz, Ia, Ib. -/
import Derived.Test.YtkiefjbfepjcbaaGreatDoorDtg
import Derived.Test.YtkiefjbfepjcbaaGreatDoorDth
section
namespace Go.Proofs.YtkiefjbfepjcbaaGreatDoor
open Go.RowKit Go.Proofs.YtkiefjbfepjcbaaGreatDoor.Sx
set_option linter.unusedSimpArgs false
set_option linter.unusedVariables false
attribute [local simp] BTm.den Tm.i Tm.s Tm.den env vInt vBool vStr exI SW.den SV.den Cell.den densP Piece.den denV

theorem rmul10 (x : Nat) (hx : x < 2 ^ 90) : Gives Tryz.prog 111 #[.agg (ivZ (x : Nat)), .agg (ivZ 10)] (.tuple #[.agg (ivZ ((x * 10 : Nat) : Int)), .int .i64 0]) := by
  have h1 : ((x : Nat) : Int).natAbs < pw 32 := lt_pw32 (k := 90) (by rw [Int.natAbs_natCast]; exact hx) (by omega)
  have h2 : (10 : Int).natAbs < pw 32 := lt_pw32 (k := 4) (by decide) (by omega)
  have h3 : ((x * 10 : Nat) : Int).natAbs < pw 32 := lt_pw32 (k := 94) (by rw [Int.natAbs_natCast]; omega) (by omega)
  have g := rmul_any (decide (((x : Nat) : Int) < 0)) (decide ((10 : Int) < 0)) _ _ h1 h2
  rw [vz_self, vz_self, show ((x : Nat) : Int) * 10 = ((x * 10 : Nat) : Int) by omega, resZ_fits h3] at g
  exact g
theorem radd_nn (x y : Nat) (hx : x < 2 ^ 94) (hy : y < 2 ^ 94) : Gives Tryz.prog 55 #[.agg (ivZ (x : Nat)), .agg (ivZ (y : Nat))] (.tuple #[.agg (ivZ ((x + y : Nat) : Int)), .int .i64 0]) := by
  have h1 : ((x : Nat) : Int).natAbs < pw 32 := lt_pw32 (k := 94) (by rw [Int.natAbs_natCast]; exact hx) (by omega)
  have h2 : ((y : Nat) : Int).natAbs < pw 32 := lt_pw32 (k := 94) (by rw [Int.natAbs_natCast]; exact hy) (by omega)
  have h3 : ((x + y : Nat) : Int).natAbs < pw 32 := lt_pw32 (k := 95) (by rw [Int.natAbs_natCast]; omega) (by omega)
  have g := radd_any (decide (((x : Nat) : Int) < 0)) (decide (((y : Nat) : Int) < 0)) _ _ h1 h2
  rw [vz_self, vz_self, show ((x : Nat) : Int) + ((y : Nat) : Int) = ((x + y : Nat) : Int) by omega, resZ_fits h3] at g
  exact g
theorem ten24 {i : Nat} (h : i ≤ 24) : 10 ^ i < 2 ^ 90 := by
  have h1 : 10 ^ i ≤ 10 ^ 24 := Nat.pow_le_pow_right (by omega) h
  have h2 : 10 ^ 24 < 2 ^ 90 := by decide
  omega
set_option maxHeartbeats 8000000 in
theorem read_loop_a (l d w r f A : List UInt8) (P : Int) (n k : Nat) (e1 : (bs l).extract 1 l.length = bs d) (e2 : (bs d).extract 0 n = bs w) (e3 : (bs d).extract n d.length = bs r) (e4 : (bs r).extract 1 r.length = bs f) (e5 : bs w ++ bs f = bs A) (hA : A.length ≤ 24) (hd : ∀ j, j < A.length → digB (bs A) j) :
    Ev.holds Tryz.prog (env ([.string (bs l), .int .i64 P, .int .i64 (n : Nat), .int .i64 (k : Nat)] ++ [.int .i64 (A.length : Nat), .bool (decide (((numN (bs A) A.length : Nat) : Int) < 0)), .agg (mgk 32 (((numN (bs A) A.length : Nat) : Int) : Int).natAbs)])) (.loop 84 0 vsyS84_0 vsyH84_0 (.exit 0) .none 3) := by
  refine loop_holds plain (m := 3) (x := .exit 0) (alt := none) [.string (bs l), .int .i64 P, .int .i64 (n : Nat), .int .i64 (k : Nat)] [.int .i64 (A.length : Nat), .bool (decide (((numN (bs A) A.length : Nat) : Int) < 0)), .agg (mgk 32 (((numN (bs A) A.length : Nat) : Int) : Int).natAbs)] tyReada_ok tyReada_fine
    (fun vs => ∃ i : Nat, i ≤ A.length ∧ vs = [.int .i64 (i : Nat), .bool (decide (((numN (bs A) i : Nat) : Int) < 0)), .agg (mgk 32 (((numN (bs A) i : Nat) : Int) : Int).natAbs)])
    (fun vs => A.length - (vInt (vs.getD 0 undef)).toNat) tyReada_diff ?_ ?_
  · refine ⟨[.int .i64 (0 : Nat), .bool (decide (((numN (bs A) 0 : Nat) : Int) < 0)), .agg (mgk 32 (((numN (bs A) 0 : Nat) : Int) : Int).natAbs)], rfl, ⟨0, by omega, rfl⟩, ?_⟩
    simp [tyReada_d, numN, rowCells_mgk, mgl_zero, denT]
  · rintro vs hl ⟨i, hi, rfl⟩
    clear hl
    refine tree_ite (ev_nil ⟨fun hlt => tree_leaf ?_, fun hlt => tree_leaf (ev_nil ?_)⟩)
    · have hlt : i < A.length := by simpa [e1, e2, e3, e4, e5, bs_size] using hlt
      have h1 := numN_lt (bs A) i fun k hk => hd k (by omega)
      have h2 := ten24 (show i ≤ 24 by omega)
      have h3 := hd i hlt
      have h4 : numN (bs A) (i + 1) = 10 * numN (bs A) i + (byteN (bs A) i - 48) := rfl
      have hb := byteI_N (bs A) i
      unfold digB at h3
      obtain ⟨b, hbb⟩ : ∃ b, b = byteN (bs A) i := ⟨_, rfl⟩
      obtain ⟨x, hx⟩ : ∃ b, b = numN (bs A) i := ⟨_, rfl⟩
      rw [← hbb] at hb h3 h4
      rw [← hx] at h1 h4 ⊢
      have hw : ariI .sub .u8 (byteI (bs A) ((i : Nat) : Int)) 48 = ((b - 48 : Nat) : Int) := by
        rw [hb]; simp only [ariI, IntKind.wrap_u8]; omega
      have g1 := rfromInt_any 10 (by omega)
      have g2 := rmul10 x (by omega)
      have g3 := rfromInt_any ((b - 48 : Nat) : Int) (by omega)
      have g4 := radd_nn (x * 10) (b - 48) (by omega) (by omega)
      refine ev_zc [.bool (decide (10 < 0)), .agg (mgk 32 (10 : Int).natAbs)] (pure_gives (g1)) ?_
      refine ev_zc [.bool (decide (((x * 10 : Nat) : Int) < 0)), .agg (mgk 32 (((x * 10 : Nat) : Int) : Int).natAbs), .int .i64 0] (pure_gives (g2)) ?_
      refine ev_need (by simp) ?_
      refine ev_need (by simp [hlt, e1, e2, e3, e4, e5, bs_size]) ?_
      refine ev_fits ((b - 48 : Nat) : Int) (by simp [hw, e1, e2, e3, e4, e5, bs_size]) (rng_i64 _ (by omega)) ?_
      refine ev_call [.bool (decide (((b - 48 : Nat) : Int) < 0)), .agg (mgk 32 (((b - 48 : Nat) : Int) : Int).natAbs)] rfl rfl (pure_gives g3) (fun β => by simp [hw, e1, e2, e3, e4, e5, bs_size,  SW.den, SV.den, Cell.den, densP, Piece.den, denV, rowCells_mgk, iv_list, ivZ, mgl_agg]) (fun β => by simp [rowCells_mgk, iv_list, ivZ, mgl_agg]) ?_
      refine ev_zc [.bool (decide (((x * 10 + (b - 48) : Nat) : Int) < 0)), .agg (mgk 32 (((x * 10 + (b - 48) : Nat) : Int) : Int).natAbs), .int .i64 0] (pure_gives (g4)) ?_
      refine ev_fits ((i + 1 : Nat) : Int) (by simp) (rng_i64 _ (by omega)) ?_
      refine ev_nil ⟨[.int .i64 (i + 1 : Nat), .bool (decide (((x * 10 + (b - 48) : Nat) : Int) < 0)), .agg (mgk 32 (((x * 10 + (b - 48) : Nat) : Int) : Int).natAbs)], rfl, ⟨i + 1, by omega, by rw [h4, Nat.mul_comm 10 x]⟩, by simp [vInt]; omega, ?_⟩
      simp [denT, rowCells_mgk]
    · have hlt : ¬ i < A.length := by simpa [e1, e2, e3, e4, e5, bs_size] using hlt
      obtain rfl : i = A.length := by omega
      refine ⟨rfl, ?_⟩
      simp [denT, rowCells_mgk]
set_option maxHeartbeats 8000000 in
theorem read_loop_b (l d w r A : List UInt8) (P : Int) (n : Nat) (e1 : (bs l).extract 1 l.length = bs d) (e2 : (bs d).extract 0 n = bs w) (e3 : (bs d).extract n d.length = bs r) (e5 : bs w ++ bs r = bs A) (hA : A.length ≤ 24) (hd : ∀ j, j < A.length → digB (bs A) j) :
    Ev.holds Tryz.prog (env ([.string (bs l), .int .i64 P, .int .i64 (n : Nat)] ++ [.int .i64 (A.length : Nat), .bool (decide (((numN (bs A) A.length : Nat) : Int) < 0)), .agg (mgk 32 (((numN (bs A) A.length : Nat) : Int) : Int).natAbs)])) (.loop 84 0 vsyS84_0b vsyH84_0b (.exit 0) .none 3) := by
  refine loop_holds plain (m := 3) (x := .exit 0) (alt := none) [.string (bs l), .int .i64 P, .int .i64 (n : Nat)] [.int .i64 (A.length : Nat), .bool (decide (((numN (bs A) A.length : Nat) : Int) < 0)), .agg (mgk 32 (((numN (bs A) A.length : Nat) : Int) : Int).natAbs)] tyReadb_ok tyReadb_fine
    (fun vs => ∃ i : Nat, i ≤ A.length ∧ vs = [.int .i64 (i : Nat), .bool (decide (((numN (bs A) i : Nat) : Int) < 0)), .agg (mgk 32 (((numN (bs A) i : Nat) : Int) : Int).natAbs)])
    (fun vs => A.length - (vInt (vs.getD 0 undef)).toNat) tyReadb_diff ?_ ?_
  · refine ⟨[.int .i64 (0 : Nat), .bool (decide (((numN (bs A) 0 : Nat) : Int) < 0)), .agg (mgk 32 (((numN (bs A) 0 : Nat) : Int) : Int).natAbs)], rfl, ⟨0, by omega, rfl⟩, ?_⟩
    simp [tyReadb_d, numN, rowCells_mgk, mgl_zero, denT]
  · rintro vs hl ⟨i, hi, rfl⟩
    clear hl
    refine tree_ite (ev_nil ⟨fun hlt => tree_leaf ?_, fun hlt => tree_leaf (ev_nil ?_)⟩)
    · have hlt : i < A.length := by simpa [e1, e2, e3, e5, bs_size] using hlt
      have h1 := numN_lt (bs A) i fun k hk => hd k (by omega)
      have h2 := ten24 (show i ≤ 24 by omega)
      have h3 := hd i hlt
      have h4 : numN (bs A) (i + 1) = 10 * numN (bs A) i + (byteN (bs A) i - 48) := rfl
      have hb := byteI_N (bs A) i
      unfold digB at h3
      obtain ⟨b, hbb⟩ : ∃ b, b = byteN (bs A) i := ⟨_, rfl⟩
      obtain ⟨x, hx⟩ : ∃ b, b = numN (bs A) i := ⟨_, rfl⟩
      rw [← hbb] at hb h3 h4
      rw [← hx] at h1 h4 ⊢
      have hw : ariI .sub .u8 (byteI (bs A) ((i : Nat) : Int)) 48 = ((b - 48 : Nat) : Int) := by
        rw [hb]; simp only [ariI, IntKind.wrap_u8]; omega
      have g1 := rfromInt_any 10 (by omega)
      have g2 := rmul10 x (by omega)
      have g3 := rfromInt_any ((b - 48 : Nat) : Int) (by omega)
      have g4 := radd_nn (x * 10) (b - 48) (by omega) (by omega)
      refine ev_zc [.bool (decide (10 < 0)), .agg (mgk 32 (10 : Int).natAbs)] (pure_gives (g1)) ?_
      refine ev_zc [.bool (decide (((x * 10 : Nat) : Int) < 0)), .agg (mgk 32 (((x * 10 : Nat) : Int) : Int).natAbs), .int .i64 0] (pure_gives (g2)) ?_
      refine ev_need (by simp) ?_
      refine ev_need (by simp [hlt, e1, e2, e3, e5, bs_size]) ?_
      refine ev_fits ((b - 48 : Nat) : Int) (by simp [hw, e1, e2, e3, e5, bs_size]) (rng_i64 _ (by omega)) ?_
      refine ev_call [.bool (decide (((b - 48 : Nat) : Int) < 0)), .agg (mgk 32 (((b - 48 : Nat) : Int) : Int).natAbs)] rfl rfl (pure_gives g3) (fun β => by simp [hw, e1, e2, e3, e5, bs_size,  SW.den, SV.den, Cell.den, densP, Piece.den, denV, rowCells_mgk, iv_list, ivZ, mgl_agg]) (fun β => by simp [rowCells_mgk, iv_list, ivZ, mgl_agg]) ?_
      refine ev_zc [.bool (decide (((x * 10 + (b - 48) : Nat) : Int) < 0)), .agg (mgk 32 (((x * 10 + (b - 48) : Nat) : Int) : Int).natAbs), .int .i64 0] (pure_gives (g4)) ?_
      refine ev_fits ((i + 1 : Nat) : Int) (by simp) (rng_i64 _ (by omega)) ?_
      refine ev_nil ⟨[.int .i64 (i + 1 : Nat), .bool (decide (((x * 10 + (b - 48) : Nat) : Int) < 0)), .agg (mgk 32 (((x * 10 + (b - 48) : Nat) : Int) : Int).natAbs)], rfl, ⟨i + 1, by omega, by rw [h4, Nat.mul_comm 10 x]⟩, by simp [vInt]; omega, ?_⟩
      simp [denT, rowCells_mgk]
    · have hlt : ¬ i < A.length := by simpa [e1, e2, e3, e5, bs_size] using hlt
      obtain rfl : i = A.length := by omega
      refine ⟨rfl, ?_⟩
      simp [denT, rowCells_mgk]
set_option maxHeartbeats 8000000 in
theorem read_loop_c (l d w r f A : List UInt8) (P : Int) (n k : Nat) (e1 : (bs l).extract 1 l.length = bs d) (e2 : (bs d).extract 0 n = bs w) (e3 : (bs d).extract n d.length = bs r) (e4 : (bs r).extract 1 r.length = bs f) (e5 : bs w ++ bs f = bs A) (hA : A.length ≤ 24) (hd : ∀ j, j < A.length → digB (bs A) j) :
    Ev.holds Tryz.prog (env ([.string (bs l), .int .i64 P, .int .i64 (n : Nat), .int .i64 (k : Nat)] ++ [.int .i64 (A.length : Nat), .bool (decide (((numN (bs A) A.length : Nat) : Int) < 0)), .agg (mgk 32 (((numN (bs A) A.length : Nat) : Int) : Int).natAbs)])) (.loop 84 0 vsyS84_0c vsyH84_0c (.exit 0) .none 3) := by
  refine loop_holds plain (m := 3) (x := .exit 0) (alt := none) [.string (bs l), .int .i64 P, .int .i64 (n : Nat), .int .i64 (k : Nat)] [.int .i64 (A.length : Nat), .bool (decide (((numN (bs A) A.length : Nat) : Int) < 0)), .agg (mgk 32 (((numN (bs A) A.length : Nat) : Int) : Int).natAbs)] tyReadc_ok tyReadc_fine
    (fun vs => ∃ i : Nat, i ≤ A.length ∧ vs = [.int .i64 (i : Nat), .bool (decide (((numN (bs A) i : Nat) : Int) < 0)), .agg (mgk 32 (((numN (bs A) i : Nat) : Int) : Int).natAbs)])
    (fun vs => A.length - (vInt (vs.getD 0 undef)).toNat) tyReadc_diff ?_ ?_
  · refine ⟨[.int .i64 (0 : Nat), .bool (decide (((numN (bs A) 0 : Nat) : Int) < 0)), .agg (mgk 32 (((numN (bs A) 0 : Nat) : Int) : Int).natAbs)], rfl, ⟨0, by omega, rfl⟩, ?_⟩
    simp [tyReadc_d, numN, rowCells_mgk, mgl_zero, denT]
  · rintro vs hl ⟨i, hi, rfl⟩
    clear hl
    refine tree_ite (ev_nil ⟨fun hlt => tree_leaf ?_, fun hlt => tree_leaf (ev_nil ?_)⟩)
    · have hlt : i < A.length := by simpa [e1, e2, e3, e4, e5, bs_size] using hlt
      have h1 := numN_lt (bs A) i fun k hk => hd k (by omega)
      have h2 := ten24 (show i ≤ 24 by omega)
      have h3 := hd i hlt
      have h4 : numN (bs A) (i + 1) = 10 * numN (bs A) i + (byteN (bs A) i - 48) := rfl
      have hb := byteI_N (bs A) i
      unfold digB at h3
      obtain ⟨b, hbb⟩ : ∃ b, b = byteN (bs A) i := ⟨_, rfl⟩
      obtain ⟨x, hx⟩ : ∃ b, b = numN (bs A) i := ⟨_, rfl⟩
      rw [← hbb] at hb h3 h4
      rw [← hx] at h1 h4 ⊢
      have hw : ariI .sub .u8 (byteI (bs A) ((i : Nat) : Int)) 48 = ((b - 48 : Nat) : Int) := by
        rw [hb]; simp only [ariI, IntKind.wrap_u8]; omega
      have g1 := rfromInt_any 10 (by omega)
      have g2 := rmul10 x (by omega)
      have g3 := rfromInt_any ((b - 48 : Nat) : Int) (by omega)
      have g4 := radd_nn (x * 10) (b - 48) (by omega) (by omega)
      refine ev_zc [.bool (decide (10 < 0)), .agg (mgk 32 (10 : Int).natAbs)] (pure_gives (g1)) ?_
      refine ev_zc [.bool (decide (((x * 10 : Nat) : Int) < 0)), .agg (mgk 32 (((x * 10 : Nat) : Int) : Int).natAbs), .int .i64 0] (pure_gives (g2)) ?_
      refine ev_need (by simp) ?_
      refine ev_need (by simp [hlt, e1, e2, e3, e4, e5, bs_size]) ?_
      refine ev_fits ((b - 48 : Nat) : Int) (by simp [hw, e1, e2, e3, e4, e5, bs_size]) (rng_i64 _ (by omega)) ?_
      refine ev_call [.bool (decide (((b - 48 : Nat) : Int) < 0)), .agg (mgk 32 (((b - 48 : Nat) : Int) : Int).natAbs)] rfl rfl (pure_gives g3) (fun β => by simp [hw, e1, e2, e3, e4, e5, bs_size,  SW.den, SV.den, Cell.den, densP, Piece.den, denV, rowCells_mgk, iv_list, ivZ, mgl_agg]) (fun β => by simp [rowCells_mgk, iv_list, ivZ, mgl_agg]) ?_
      refine ev_zc [.bool (decide (((x * 10 + (b - 48) : Nat) : Int) < 0)), .agg (mgk 32 (((x * 10 + (b - 48) : Nat) : Int) : Int).natAbs), .int .i64 0] (pure_gives (g4)) ?_
      refine ev_fits ((i + 1 : Nat) : Int) (by simp) (rng_i64 _ (by omega)) ?_
      refine ev_nil ⟨[.int .i64 (i + 1 : Nat), .bool (decide (((x * 10 + (b - 48) : Nat) : Int) < 0)), .agg (mgk 32 (((x * 10 + (b - 48) : Nat) : Int) : Int).natAbs)], rfl, ⟨i + 1, by omega, by rw [h4, Nat.mul_comm 10 x]⟩, by simp [vInt]; omega, ?_⟩
      simp [denT, rowCells_mgk]
    · have hlt : ¬ i < A.length := by simpa [e1, e2, e3, e4, e5, bs_size] using hlt
      obtain rfl : i = A.length := by omega
      refine ⟨rfl, ?_⟩
      simp [denT, rowCells_mgk]
set_option maxHeartbeats 8000000 in
theorem read_loop_d (l d w r A : List UInt8) (P : Int) (n : Nat) (e1 : (bs l).extract 1 l.length = bs d) (e2 : (bs d).extract 0 n = bs w) (e3 : (bs d).extract n d.length = bs r) (e5 : bs w ++ bs r = bs A) (hA : A.length ≤ 24) (hd : ∀ j, j < A.length → digB (bs A) j) :
    Ev.holds Tryz.prog (env ([.string (bs l), .int .i64 P, .int .i64 (n : Nat)] ++ [.int .i64 (A.length : Nat), .bool (decide (((numN (bs A) A.length : Nat) : Int) < 0)), .agg (mgk 32 (((numN (bs A) A.length : Nat) : Int) : Int).natAbs)])) (.loop 84 0 vsyS84_0d vsyH84_0d (.exit 0) .none 3) := by
  refine loop_holds plain (m := 3) (x := .exit 0) (alt := none) [.string (bs l), .int .i64 P, .int .i64 (n : Nat)] [.int .i64 (A.length : Nat), .bool (decide (((numN (bs A) A.length : Nat) : Int) < 0)), .agg (mgk 32 (((numN (bs A) A.length : Nat) : Int) : Int).natAbs)] tyReadd_ok tyReadd_fine
    (fun vs => ∃ i : Nat, i ≤ A.length ∧ vs = [.int .i64 (i : Nat), .bool (decide (((numN (bs A) i : Nat) : Int) < 0)), .agg (mgk 32 (((numN (bs A) i : Nat) : Int) : Int).natAbs)])
    (fun vs => A.length - (vInt (vs.getD 0 undef)).toNat) tyReadd_diff ?_ ?_
  · refine ⟨[.int .i64 (0 : Nat), .bool (decide (((numN (bs A) 0 : Nat) : Int) < 0)), .agg (mgk 32 (((numN (bs A) 0 : Nat) : Int) : Int).natAbs)], rfl, ⟨0, by omega, rfl⟩, ?_⟩
    simp [tyReadd_d, numN, rowCells_mgk, mgl_zero, denT]
  · rintro vs hl ⟨i, hi, rfl⟩
    clear hl
    refine tree_ite (ev_nil ⟨fun hlt => tree_leaf ?_, fun hlt => tree_leaf (ev_nil ?_)⟩)
    · have hlt : i < A.length := by simpa [e1, e2, e3, e5, bs_size] using hlt
      have h1 := numN_lt (bs A) i fun k hk => hd k (by omega)
      have h2 := ten24 (show i ≤ 24 by omega)
      have h3 := hd i hlt
      have h4 : numN (bs A) (i + 1) = 10 * numN (bs A) i + (byteN (bs A) i - 48) := rfl
      have hb := byteI_N (bs A) i
      unfold digB at h3
      obtain ⟨b, hbb⟩ : ∃ b, b = byteN (bs A) i := ⟨_, rfl⟩
      obtain ⟨x, hx⟩ : ∃ b, b = numN (bs A) i := ⟨_, rfl⟩
      rw [← hbb] at hb h3 h4
      rw [← hx] at h1 h4 ⊢
      have hw : ariI .sub .u8 (byteI (bs A) ((i : Nat) : Int)) 48 = ((b - 48 : Nat) : Int) := by
        rw [hb]; simp only [ariI, IntKind.wrap_u8]; omega
      have g1 := rfromInt_any 10 (by omega)
      have g2 := rmul10 x (by omega)
      have g3 := rfromInt_any ((b - 48 : Nat) : Int) (by omega)
      have g4 := radd_nn (x * 10) (b - 48) (by omega) (by omega)
      refine ev_zc [.bool (decide (10 < 0)), .agg (mgk 32 (10 : Int).natAbs)] (pure_gives (g1)) ?_
      refine ev_zc [.bool (decide (((x * 10 : Nat) : Int) < 0)), .agg (mgk 32 (((x * 10 : Nat) : Int) : Int).natAbs), .int .i64 0] (pure_gives (g2)) ?_
      refine ev_need (by simp) ?_
      refine ev_need (by simp [hlt, e1, e2, e3, e5, bs_size]) ?_
      refine ev_fits ((b - 48 : Nat) : Int) (by simp [hw, e1, e2, e3, e5, bs_size]) (rng_i64 _ (by omega)) ?_
      refine ev_call [.bool (decide (((b - 48 : Nat) : Int) < 0)), .agg (mgk 32 (((b - 48 : Nat) : Int) : Int).natAbs)] rfl rfl (pure_gives g3) (fun β => by simp [hw, e1, e2, e3, e5, bs_size,  SW.den, SV.den, Cell.den, densP, Piece.den, denV, rowCells_mgk, iv_list, ivZ, mgl_agg]) (fun β => by simp [rowCells_mgk, iv_list, ivZ, mgl_agg]) ?_
      refine ev_zc [.bool (decide (((x * 10 + (b - 48) : Nat) : Int) < 0)), .agg (mgk 32 (((x * 10 + (b - 48) : Nat) : Int) : Int).natAbs), .int .i64 0] (pure_gives (g4)) ?_
      refine ev_fits ((i + 1 : Nat) : Int) (by simp) (rng_i64 _ (by omega)) ?_
      refine ev_nil ⟨[.int .i64 (i + 1 : Nat), .bool (decide (((x * 10 + (b - 48) : Nat) : Int) < 0)), .agg (mgk 32 (((x * 10 + (b - 48) : Nat) : Int) : Int).natAbs)], rfl, ⟨i + 1, by omega, by rw [h4, Nat.mul_comm 10 x]⟩, by simp [vInt]; omega, ?_⟩
      simp [denT, rowCells_mgk]
    · have hlt : ¬ i < A.length := by simpa [e1, e2, e3, e5, bs_size] using hlt
      obtain rfl : i = A.length := by omega
      refine ⟨rfl, ?_⟩
      simp [denT, rowCells_mgk]
set_option maxHeartbeats 8000000 in
theorem read_loop_e (l w r f A : List UInt8) (P : Int) (n k : Nat) (e2 : (bs l).extract 0 n = bs w) (e3 : (bs l).extract n l.length = bs r) (e4 : (bs r).extract 1 r.length = bs f) (e5 : bs w ++ bs f = bs A) (hA : A.length ≤ 24) (hd : ∀ j, j < A.length → digB (bs A) j) :
    Ev.holds Tryz.prog (env ([.string (bs l), .int .i64 P, .int .i64 (n : Nat), .int .i64 (k : Nat)] ++ [.int .i64 (A.length : Nat), .bool (decide (((numN (bs A) A.length : Nat) : Int) < 0)), .agg (mgk 32 (((numN (bs A) A.length : Nat) : Int) : Int).natAbs)])) (.loop 84 0 vsyS84_0e vsyH84_0e (.exit 0) .none 3) := by
  refine loop_holds plain (m := 3) (x := .exit 0) (alt := none) [.string (bs l), .int .i64 P, .int .i64 (n : Nat), .int .i64 (k : Nat)] [.int .i64 (A.length : Nat), .bool (decide (((numN (bs A) A.length : Nat) : Int) < 0)), .agg (mgk 32 (((numN (bs A) A.length : Nat) : Int) : Int).natAbs)] tyReade_ok tyReade_fine
    (fun vs => ∃ i : Nat, i ≤ A.length ∧ vs = [.int .i64 (i : Nat), .bool (decide (((numN (bs A) i : Nat) : Int) < 0)), .agg (mgk 32 (((numN (bs A) i : Nat) : Int) : Int).natAbs)])
    (fun vs => A.length - (vInt (vs.getD 0 undef)).toNat) tyReade_diff ?_ ?_
  · refine ⟨[.int .i64 (0 : Nat), .bool (decide (((numN (bs A) 0 : Nat) : Int) < 0)), .agg (mgk 32 (((numN (bs A) 0 : Nat) : Int) : Int).natAbs)], rfl, ⟨0, by omega, rfl⟩, ?_⟩
    simp [tyReade_d, numN, rowCells_mgk, mgl_zero, denT]
  · rintro vs hl ⟨i, hi, rfl⟩
    clear hl
    refine tree_ite (ev_nil ⟨fun hlt => tree_leaf ?_, fun hlt => tree_leaf (ev_nil ?_)⟩)
    · have hlt : i < A.length := by simpa [e2, e3, e4, e5, bs_size] using hlt
      have h1 := numN_lt (bs A) i fun k hk => hd k (by omega)
      have h2 := ten24 (show i ≤ 24 by omega)
      have h3 := hd i hlt
      have h4 : numN (bs A) (i + 1) = 10 * numN (bs A) i + (byteN (bs A) i - 48) := rfl
      have hb := byteI_N (bs A) i
      unfold digB at h3
      obtain ⟨b, hbb⟩ : ∃ b, b = byteN (bs A) i := ⟨_, rfl⟩
      obtain ⟨x, hx⟩ : ∃ b, b = numN (bs A) i := ⟨_, rfl⟩
      rw [← hbb] at hb h3 h4
      rw [← hx] at h1 h4 ⊢
      have hw : ariI .sub .u8 (byteI (bs A) ((i : Nat) : Int)) 48 = ((b - 48 : Nat) : Int) := by
        rw [hb]; simp only [ariI, IntKind.wrap_u8]; omega
      have g1 := rfromInt_any 10 (by omega)
      have g2 := rmul10 x (by omega)
      have g3 := rfromInt_any ((b - 48 : Nat) : Int) (by omega)
      have g4 := radd_nn (x * 10) (b - 48) (by omega) (by omega)
      refine ev_zc [.bool (decide (10 < 0)), .agg (mgk 32 (10 : Int).natAbs)] (pure_gives (g1)) ?_
      refine ev_zc [.bool (decide (((x * 10 : Nat) : Int) < 0)), .agg (mgk 32 (((x * 10 : Nat) : Int) : Int).natAbs), .int .i64 0] (pure_gives (g2)) ?_
      refine ev_need (by simp) ?_
      refine ev_need (by simp [hlt, e2, e3, e4, e5, bs_size]) ?_
      refine ev_fits ((b - 48 : Nat) : Int) (by simp [hw, e2, e3, e4, e5, bs_size]) (rng_i64 _ (by omega)) ?_
      refine ev_call [.bool (decide (((b - 48 : Nat) : Int) < 0)), .agg (mgk 32 (((b - 48 : Nat) : Int) : Int).natAbs)] rfl rfl (pure_gives g3) (fun β => by simp [hw, e2, e3, e4, e5, bs_size,  SW.den, SV.den, Cell.den, densP, Piece.den, denV, rowCells_mgk, iv_list, ivZ, mgl_agg]) (fun β => by simp [rowCells_mgk, iv_list, ivZ, mgl_agg]) ?_
      refine ev_zc [.bool (decide (((x * 10 + (b - 48) : Nat) : Int) < 0)), .agg (mgk 32 (((x * 10 + (b - 48) : Nat) : Int) : Int).natAbs), .int .i64 0] (pure_gives (g4)) ?_
      refine ev_fits ((i + 1 : Nat) : Int) (by simp) (rng_i64 _ (by omega)) ?_
      refine ev_nil ⟨[.int .i64 (i + 1 : Nat), .bool (decide (((x * 10 + (b - 48) : Nat) : Int) < 0)), .agg (mgk 32 (((x * 10 + (b - 48) : Nat) : Int) : Int).natAbs)], rfl, ⟨i + 1, by omega, by rw [h4, Nat.mul_comm 10 x]⟩, by simp [vInt]; omega, ?_⟩
      simp [denT, rowCells_mgk]
    · have hlt : ¬ i < A.length := by simpa [e2, e3, e4, e5, bs_size] using hlt
      obtain rfl : i = A.length := by omega
      refine ⟨rfl, ?_⟩
      simp [denT, rowCells_mgk]
set_option maxHeartbeats 8000000 in
theorem read_loop_f (l w r A : List UInt8) (P : Int) (n : Nat) (e2 : (bs l).extract 0 n = bs w) (e3 : (bs l).extract n l.length = bs r) (e5 : bs w ++ bs r = bs A) (hA : A.length ≤ 24) (hd : ∀ j, j < A.length → digB (bs A) j) :
    Ev.holds Tryz.prog (env ([.string (bs l), .int .i64 P, .int .i64 (n : Nat)] ++ [.int .i64 (A.length : Nat), .bool (decide (((numN (bs A) A.length : Nat) : Int) < 0)), .agg (mgk 32 (((numN (bs A) A.length : Nat) : Int) : Int).natAbs)])) (.loop 84 0 vsyS84_0f vsyH84_0f (.exit 0) .none 3) := by
  refine loop_holds plain (m := 3) (x := .exit 0) (alt := none) [.string (bs l), .int .i64 P, .int .i64 (n : Nat)] [.int .i64 (A.length : Nat), .bool (decide (((numN (bs A) A.length : Nat) : Int) < 0)), .agg (mgk 32 (((numN (bs A) A.length : Nat) : Int) : Int).natAbs)] tyReadf_ok tyReadf_fine
    (fun vs => ∃ i : Nat, i ≤ A.length ∧ vs = [.int .i64 (i : Nat), .bool (decide (((numN (bs A) i : Nat) : Int) < 0)), .agg (mgk 32 (((numN (bs A) i : Nat) : Int) : Int).natAbs)])
    (fun vs => A.length - (vInt (vs.getD 0 undef)).toNat) tyReadf_diff ?_ ?_
  · refine ⟨[.int .i64 (0 : Nat), .bool (decide (((numN (bs A) 0 : Nat) : Int) < 0)), .agg (mgk 32 (((numN (bs A) 0 : Nat) : Int) : Int).natAbs)], rfl, ⟨0, by omega, rfl⟩, ?_⟩
    simp [tyReadf_d, numN, rowCells_mgk, mgl_zero, denT]
  · rintro vs hl ⟨i, hi, rfl⟩
    clear hl
    refine tree_ite (ev_nil ⟨fun hlt => tree_leaf ?_, fun hlt => tree_leaf (ev_nil ?_)⟩)
    · have hlt : i < A.length := by simpa [e2, e3, e5, bs_size] using hlt
      have h1 := numN_lt (bs A) i fun k hk => hd k (by omega)
      have h2 := ten24 (show i ≤ 24 by omega)
      have h3 := hd i hlt
      have h4 : numN (bs A) (i + 1) = 10 * numN (bs A) i + (byteN (bs A) i - 48) := rfl
      have hb := byteI_N (bs A) i
      unfold digB at h3
      obtain ⟨b, hbb⟩ : ∃ b, b = byteN (bs A) i := ⟨_, rfl⟩
      obtain ⟨x, hx⟩ : ∃ b, b = numN (bs A) i := ⟨_, rfl⟩
      rw [← hbb] at hb h3 h4
      rw [← hx] at h1 h4 ⊢
      have hw : ariI .sub .u8 (byteI (bs A) ((i : Nat) : Int)) 48 = ((b - 48 : Nat) : Int) := by
        rw [hb]; simp only [ariI, IntKind.wrap_u8]; omega
      have g1 := rfromInt_any 10 (by omega)
      have g2 := rmul10 x (by omega)
      have g3 := rfromInt_any ((b - 48 : Nat) : Int) (by omega)
      have g4 := radd_nn (x * 10) (b - 48) (by omega) (by omega)
      refine ev_zc [.bool (decide (10 < 0)), .agg (mgk 32 (10 : Int).natAbs)] (pure_gives (g1)) ?_
      refine ev_zc [.bool (decide (((x * 10 : Nat) : Int) < 0)), .agg (mgk 32 (((x * 10 : Nat) : Int) : Int).natAbs), .int .i64 0] (pure_gives (g2)) ?_
      refine ev_need (by simp) ?_
      refine ev_need (by simp [hlt, e2, e3, e5, bs_size]) ?_
      refine ev_fits ((b - 48 : Nat) : Int) (by simp [hw, e2, e3, e5, bs_size]) (rng_i64 _ (by omega)) ?_
      refine ev_call [.bool (decide (((b - 48 : Nat) : Int) < 0)), .agg (mgk 32 (((b - 48 : Nat) : Int) : Int).natAbs)] rfl rfl (pure_gives g3) (fun β => by simp [hw, e2, e3, e5, bs_size,  SW.den, SV.den, Cell.den, densP, Piece.den, denV, rowCells_mgk, iv_list, ivZ, mgl_agg]) (fun β => by simp [rowCells_mgk, iv_list, ivZ, mgl_agg]) ?_
      refine ev_zc [.bool (decide (((x * 10 + (b - 48) : Nat) : Int) < 0)), .agg (mgk 32 (((x * 10 + (b - 48) : Nat) : Int) : Int).natAbs), .int .i64 0] (pure_gives (g4)) ?_
      refine ev_fits ((i + 1 : Nat) : Int) (by simp) (rng_i64 _ (by omega)) ?_
      refine ev_nil ⟨[.int .i64 (i + 1 : Nat), .bool (decide (((x * 10 + (b - 48) : Nat) : Int) < 0)), .agg (mgk 32 (((x * 10 + (b - 48) : Nat) : Int) : Int).natAbs)], rfl, ⟨i + 1, by omega, by rw [h4, Nat.mul_comm 10 x]⟩, by simp [vInt]; omega, ?_⟩
      simp [denT, rowCells_mgk]
    · have hlt : ¬ i < A.length := by simpa [e2, e3, e5, bs_size] using hlt
      obtain rfl : i = A.length := by omega
      refine ⟨rfl, ?_⟩
      simp [denT, rowCells_mgk]
set_option maxHeartbeats 8000000 in
theorem read_loop_g (l w r f A : List UInt8) (P : Int) (n k : Nat) (e2 : (bs l).extract 0 n = bs w) (e3 : (bs l).extract n l.length = bs r) (e4 : (bs r).extract 1 r.length = bs f) (e5 : bs w ++ bs f = bs A) (hA : A.length ≤ 24) (hd : ∀ j, j < A.length → digB (bs A) j) :
    Ev.holds Tryz.prog (env ([.string (bs l), .int .i64 P, .int .i64 (n : Nat), .int .i64 (k : Nat)] ++ [.int .i64 (A.length : Nat), .bool (decide (((numN (bs A) A.length : Nat) : Int) < 0)), .agg (mgk 32 (((numN (bs A) A.length : Nat) : Int) : Int).natAbs)])) (.loop 84 0 vsyS84_0g vsyH84_0g (.exit 0) .none 3) := by
  refine loop_holds plain (m := 3) (x := .exit 0) (alt := none) [.string (bs l), .int .i64 P, .int .i64 (n : Nat), .int .i64 (k : Nat)] [.int .i64 (A.length : Nat), .bool (decide (((numN (bs A) A.length : Nat) : Int) < 0)), .agg (mgk 32 (((numN (bs A) A.length : Nat) : Int) : Int).natAbs)] tyReadg_ok tyReadg_fine
    (fun vs => ∃ i : Nat, i ≤ A.length ∧ vs = [.int .i64 (i : Nat), .bool (decide (((numN (bs A) i : Nat) : Int) < 0)), .agg (mgk 32 (((numN (bs A) i : Nat) : Int) : Int).natAbs)])
    (fun vs => A.length - (vInt (vs.getD 0 undef)).toNat) tyReadg_diff ?_ ?_
  · refine ⟨[.int .i64 (0 : Nat), .bool (decide (((numN (bs A) 0 : Nat) : Int) < 0)), .agg (mgk 32 (((numN (bs A) 0 : Nat) : Int) : Int).natAbs)], rfl, ⟨0, by omega, rfl⟩, ?_⟩
    simp [tyReadg_d, numN, rowCells_mgk, mgl_zero, denT]
  · rintro vs hl ⟨i, hi, rfl⟩
    clear hl
    refine tree_ite (ev_nil ⟨fun hlt => tree_leaf ?_, fun hlt => tree_leaf (ev_nil ?_)⟩)
    · have hlt : i < A.length := by simpa [e2, e3, e4, e5, bs_size] using hlt
      have h1 := numN_lt (bs A) i fun k hk => hd k (by omega)
      have h2 := ten24 (show i ≤ 24 by omega)
      have h3 := hd i hlt
      have h4 : numN (bs A) (i + 1) = 10 * numN (bs A) i + (byteN (bs A) i - 48) := rfl
      have hb := byteI_N (bs A) i
      unfold digB at h3
      obtain ⟨b, hbb⟩ : ∃ b, b = byteN (bs A) i := ⟨_, rfl⟩
      obtain ⟨x, hx⟩ : ∃ b, b = numN (bs A) i := ⟨_, rfl⟩
      rw [← hbb] at hb h3 h4
      rw [← hx] at h1 h4 ⊢
      have hw : ariI .sub .u8 (byteI (bs A) ((i : Nat) : Int)) 48 = ((b - 48 : Nat) : Int) := by
        rw [hb]; simp only [ariI, IntKind.wrap_u8]; omega
      have g1 := rfromInt_any 10 (by omega)
      have g2 := rmul10 x (by omega)
      have g3 := rfromInt_any ((b - 48 : Nat) : Int) (by omega)
      have g4 := radd_nn (x * 10) (b - 48) (by omega) (by omega)
      refine ev_zc [.bool (decide (10 < 0)), .agg (mgk 32 (10 : Int).natAbs)] (pure_gives (g1)) ?_
      refine ev_zc [.bool (decide (((x * 10 : Nat) : Int) < 0)), .agg (mgk 32 (((x * 10 : Nat) : Int) : Int).natAbs), .int .i64 0] (pure_gives (g2)) ?_
      refine ev_need (by simp) ?_
      refine ev_need (by simp [hlt, e2, e3, e4, e5, bs_size]) ?_
      refine ev_fits ((b - 48 : Nat) : Int) (by simp [hw, e2, e3, e4, e5, bs_size]) (rng_i64 _ (by omega)) ?_
      refine ev_call [.bool (decide (((b - 48 : Nat) : Int) < 0)), .agg (mgk 32 (((b - 48 : Nat) : Int) : Int).natAbs)] rfl rfl (pure_gives g3) (fun β => by simp [hw, e2, e3, e4, e5, bs_size,  SW.den, SV.den, Cell.den, densP, Piece.den, denV, rowCells_mgk, iv_list, ivZ, mgl_agg]) (fun β => by simp [rowCells_mgk, iv_list, ivZ, mgl_agg]) ?_
      refine ev_zc [.bool (decide (((x * 10 + (b - 48) : Nat) : Int) < 0)), .agg (mgk 32 (((x * 10 + (b - 48) : Nat) : Int) : Int).natAbs), .int .i64 0] (pure_gives (g4)) ?_
      refine ev_fits ((i + 1 : Nat) : Int) (by simp) (rng_i64 _ (by omega)) ?_
      refine ev_nil ⟨[.int .i64 (i + 1 : Nat), .bool (decide (((x * 10 + (b - 48) : Nat) : Int) < 0)), .agg (mgk 32 (((x * 10 + (b - 48) : Nat) : Int) : Int).natAbs)], rfl, ⟨i + 1, by omega, by rw [h4, Nat.mul_comm 10 x]⟩, by simp [vInt]; omega, ?_⟩
      simp [denT, rowCells_mgk]
    · have hlt : ¬ i < A.length := by simpa [e2, e3, e4, e5, bs_size] using hlt
      obtain rfl : i = A.length := by omega
      refine ⟨rfl, ?_⟩
      simp [denT, rowCells_mgk]
set_option maxHeartbeats 8000000 in
theorem read_loop_h (l w r A : List UInt8) (P : Int) (n : Nat) (e2 : (bs l).extract 0 n = bs w) (e3 : (bs l).extract n l.length = bs r) (e5 : bs w ++ bs r = bs A) (hA : A.length ≤ 24) (hd : ∀ j, j < A.length → digB (bs A) j) :
    Ev.holds Tryz.prog (env ([.string (bs l), .int .i64 P, .int .i64 (n : Nat)] ++ [.int .i64 (A.length : Nat), .bool (decide (((numN (bs A) A.length : Nat) : Int) < 0)), .agg (mgk 32 (((numN (bs A) A.length : Nat) : Int) : Int).natAbs)])) (.loop 84 0 vsyS84_0h vsyH84_0h (.exit 0) .none 3) := by
  refine loop_holds plain (m := 3) (x := .exit 0) (alt := none) [.string (bs l), .int .i64 P, .int .i64 (n : Nat)] [.int .i64 (A.length : Nat), .bool (decide (((numN (bs A) A.length : Nat) : Int) < 0)), .agg (mgk 32 (((numN (bs A) A.length : Nat) : Int) : Int).natAbs)] tyReadh_ok tyReadh_fine
    (fun vs => ∃ i : Nat, i ≤ A.length ∧ vs = [.int .i64 (i : Nat), .bool (decide (((numN (bs A) i : Nat) : Int) < 0)), .agg (mgk 32 (((numN (bs A) i : Nat) : Int) : Int).natAbs)])
    (fun vs => A.length - (vInt (vs.getD 0 undef)).toNat) tyReadh_diff ?_ ?_
  · refine ⟨[.int .i64 (0 : Nat), .bool (decide (((numN (bs A) 0 : Nat) : Int) < 0)), .agg (mgk 32 (((numN (bs A) 0 : Nat) : Int) : Int).natAbs)], rfl, ⟨0, by omega, rfl⟩, ?_⟩
    simp [tyReadh_d, numN, rowCells_mgk, mgl_zero, denT]
  · rintro vs hl ⟨i, hi, rfl⟩
    clear hl
    refine tree_ite (ev_nil ⟨fun hlt => tree_leaf ?_, fun hlt => tree_leaf (ev_nil ?_)⟩)
    · have hlt : i < A.length := by simpa [e2, e3, e5, bs_size] using hlt
      have h1 := numN_lt (bs A) i fun k hk => hd k (by omega)
      have h2 := ten24 (show i ≤ 24 by omega)
      have h3 := hd i hlt
      have h4 : numN (bs A) (i + 1) = 10 * numN (bs A) i + (byteN (bs A) i - 48) := rfl
      have hb := byteI_N (bs A) i
      unfold digB at h3
      obtain ⟨b, hbb⟩ : ∃ b, b = byteN (bs A) i := ⟨_, rfl⟩
      obtain ⟨x, hx⟩ : ∃ b, b = numN (bs A) i := ⟨_, rfl⟩
      rw [← hbb] at hb h3 h4
      rw [← hx] at h1 h4 ⊢
      have hw : ariI .sub .u8 (byteI (bs A) ((i : Nat) : Int)) 48 = ((b - 48 : Nat) : Int) := by
        rw [hb]; simp only [ariI, IntKind.wrap_u8]; omega
      have g1 := rfromInt_any 10 (by omega)
      have g2 := rmul10 x (by omega)
      have g3 := rfromInt_any ((b - 48 : Nat) : Int) (by omega)
      have g4 := radd_nn (x * 10) (b - 48) (by omega) (by omega)
      refine ev_zc [.bool (decide (10 < 0)), .agg (mgk 32 (10 : Int).natAbs)] (pure_gives (g1)) ?_
      refine ev_zc [.bool (decide (((x * 10 : Nat) : Int) < 0)), .agg (mgk 32 (((x * 10 : Nat) : Int) : Int).natAbs), .int .i64 0] (pure_gives (g2)) ?_
      refine ev_need (by simp) ?_
      refine ev_need (by simp [hlt, e2, e3, e5, bs_size]) ?_
      refine ev_fits ((b - 48 : Nat) : Int) (by simp [hw, e2, e3, e5, bs_size]) (rng_i64 _ (by omega)) ?_
      refine ev_call [.bool (decide (((b - 48 : Nat) : Int) < 0)), .agg (mgk 32 (((b - 48 : Nat) : Int) : Int).natAbs)] rfl rfl (pure_gives g3) (fun β => by simp [hw, e2, e3, e5, bs_size,  SW.den, SV.den, Cell.den, densP, Piece.den, denV, rowCells_mgk, iv_list, ivZ, mgl_agg]) (fun β => by simp [rowCells_mgk, iv_list, ivZ, mgl_agg]) ?_
      refine ev_zc [.bool (decide (((x * 10 + (b - 48) : Nat) : Int) < 0)), .agg (mgk 32 (((x * 10 + (b - 48) : Nat) : Int) : Int).natAbs), .int .i64 0] (pure_gives (g4)) ?_
      refine ev_fits ((i + 1 : Nat) : Int) (by simp) (rng_i64 _ (by omega)) ?_
      refine ev_nil ⟨[.int .i64 (i + 1 : Nat), .bool (decide (((x * 10 + (b - 48) : Nat) : Int) < 0)), .agg (mgk 32 (((x * 10 + (b - 48) : Nat) : Int) : Int).natAbs)], rfl, ⟨i + 1, by omega, by rw [h4, Nat.mul_comm 10 x]⟩, by simp [vInt]; omega, ?_⟩
      simp [denT, rowCells_mgk]
    · have hlt : ¬ i < A.length := by simpa [e2, e3, e5, bs_size] using hlt
      obtain rfl : i = A.length := by omega
      refine ⟨rfl, ?_⟩
      simp [denT, rowCells_mgk]
set_option maxHeartbeats 8000000 in
theorem read_loop_m (l w r f A : List UInt8) (P : Int) (n k : Nat) (e2 : (bs l).extract 0 n = bs w) (e3 : (bs l).extract n l.length = bs r) (e4 : (bs r).extract 1 r.length = bs f) (e5 : bs w ++ bs f = bs A) (hA : A.length ≤ 24) (hd : ∀ j, j < A.length → digB (bs A) j) :
    Ev.holds Tryz.prog (env ([.string (bs l), .int .i64 P, .int .i64 (n : Nat), .int .i64 (k : Nat)] ++ [.int .i64 (A.length : Nat), .bool (decide (((numN (bs A) A.length : Nat) : Int) < 0)), .agg (mgk 32 (((numN (bs A) A.length : Nat) : Int) : Int).natAbs)])) (.loop 84 0 vsyS84_0m vsyH84_0m (.exit 0) .none 3) := by
  refine loop_holds plain (m := 3) (x := .exit 0) (alt := none) [.string (bs l), .int .i64 P, .int .i64 (n : Nat), .int .i64 (k : Nat)] [.int .i64 (A.length : Nat), .bool (decide (((numN (bs A) A.length : Nat) : Int) < 0)), .agg (mgk 32 (((numN (bs A) A.length : Nat) : Int) : Int).natAbs)] tyReadm_ok tyReadm_fine
    (fun vs => ∃ i : Nat, i ≤ A.length ∧ vs = [.int .i64 (i : Nat), .bool (decide (((numN (bs A) i : Nat) : Int) < 0)), .agg (mgk 32 (((numN (bs A) i : Nat) : Int) : Int).natAbs)])
    (fun vs => A.length - (vInt (vs.getD 0 undef)).toNat) tyReadm_diff ?_ ?_
  · refine ⟨[.int .i64 (0 : Nat), .bool (decide (((numN (bs A) 0 : Nat) : Int) < 0)), .agg (mgk 32 (((numN (bs A) 0 : Nat) : Int) : Int).natAbs)], rfl, ⟨0, by omega, rfl⟩, ?_⟩
    simp [tyReadm_d, numN, rowCells_mgk, mgl_zero, denT]
  · rintro vs hl ⟨i, hi, rfl⟩
    clear hl
    refine tree_ite (ev_nil ⟨fun hlt => tree_leaf ?_, fun hlt => tree_leaf (ev_nil ?_)⟩)
    · have hlt : i < A.length := by simpa [e2, e3, e4, e5, bs_size] using hlt
      have h1 := numN_lt (bs A) i fun k hk => hd k (by omega)
      have h2 := ten24 (show i ≤ 24 by omega)
      have h3 := hd i hlt
      have h4 : numN (bs A) (i + 1) = 10 * numN (bs A) i + (byteN (bs A) i - 48) := rfl
      have hb := byteI_N (bs A) i
      unfold digB at h3
      obtain ⟨b, hbb⟩ : ∃ b, b = byteN (bs A) i := ⟨_, rfl⟩
      obtain ⟨x, hx⟩ : ∃ b, b = numN (bs A) i := ⟨_, rfl⟩
      rw [← hbb] at hb h3 h4
      rw [← hx] at h1 h4 ⊢
      have hw : ariI .sub .u8 (byteI (bs A) ((i : Nat) : Int)) 48 = ((b - 48 : Nat) : Int) := by
        rw [hb]; simp only [ariI, IntKind.wrap_u8]; omega
      have g1 := rfromInt_any 10 (by omega)
      have g2 := rmul10 x (by omega)
      have g3 := rfromInt_any ((b - 48 : Nat) : Int) (by omega)
      have g4 := radd_nn (x * 10) (b - 48) (by omega) (by omega)
      refine ev_zc [.bool (decide (10 < 0)), .agg (mgk 32 (10 : Int).natAbs)] (pure_gives (g1)) ?_
      refine ev_zc [.bool (decide (((x * 10 : Nat) : Int) < 0)), .agg (mgk 32 (((x * 10 : Nat) : Int) : Int).natAbs), .int .i64 0] (pure_gives (g2)) ?_
      refine ev_need (by simp) ?_
      refine ev_need (by simp [hlt, e2, e3, e4, e5, bs_size]) ?_
      refine ev_fits ((b - 48 : Nat) : Int) (by simp [hw, e2, e3, e4, e5, bs_size]) (rng_i64 _ (by omega)) ?_
      refine ev_call [.bool (decide (((b - 48 : Nat) : Int) < 0)), .agg (mgk 32 (((b - 48 : Nat) : Int) : Int).natAbs)] rfl rfl (pure_gives g3) (fun β => by simp [hw, e2, e3, e4, e5, bs_size,  SW.den, SV.den, Cell.den, densP, Piece.den, denV, rowCells_mgk, iv_list, ivZ, mgl_agg]) (fun β => by simp [rowCells_mgk, iv_list, ivZ, mgl_agg]) ?_
      refine ev_zc [.bool (decide (((x * 10 + (b - 48) : Nat) : Int) < 0)), .agg (mgk 32 (((x * 10 + (b - 48) : Nat) : Int) : Int).natAbs), .int .i64 0] (pure_gives (g4)) ?_
      refine ev_fits ((i + 1 : Nat) : Int) (by simp) (rng_i64 _ (by omega)) ?_
      refine ev_nil ⟨[.int .i64 (i + 1 : Nat), .bool (decide (((x * 10 + (b - 48) : Nat) : Int) < 0)), .agg (mgk 32 (((x * 10 + (b - 48) : Nat) : Int) : Int).natAbs)], rfl, ⟨i + 1, by omega, by rw [h4, Nat.mul_comm 10 x]⟩, by simp [vInt]; omega, ?_⟩
      simp [denT, rowCells_mgk]
    · have hlt : ¬ i < A.length := by simpa [e2, e3, e4, e5, bs_size] using hlt
      obtain rfl : i = A.length := by omega
      refine ⟨rfl, ?_⟩
      simp [denT, rowCells_mgk]
set_option maxHeartbeats 8000000 in
theorem read_loop_n (l w r A : List UInt8) (P : Int) (n : Nat) (e2 : (bs l).extract 0 n = bs w) (e3 : (bs l).extract n l.length = bs r) (e5 : bs w ++ bs r = bs A) (hA : A.length ≤ 24) (hd : ∀ j, j < A.length → digB (bs A) j) :
    Ev.holds Tryz.prog (env ([.string (bs l), .int .i64 P, .int .i64 (n : Nat)] ++ [.int .i64 (A.length : Nat), .bool (decide (((numN (bs A) A.length : Nat) : Int) < 0)), .agg (mgk 32 (((numN (bs A) A.length : Nat) : Int) : Int).natAbs)])) (.loop 84 0 vsyS84_0n vsyH84_0n (.exit 0) .none 3) := by
  refine loop_holds plain (m := 3) (x := .exit 0) (alt := none) [.string (bs l), .int .i64 P, .int .i64 (n : Nat)] [.int .i64 (A.length : Nat), .bool (decide (((numN (bs A) A.length : Nat) : Int) < 0)), .agg (mgk 32 (((numN (bs A) A.length : Nat) : Int) : Int).natAbs)] tyReadn_ok tyReadn_fine
    (fun vs => ∃ i : Nat, i ≤ A.length ∧ vs = [.int .i64 (i : Nat), .bool (decide (((numN (bs A) i : Nat) : Int) < 0)), .agg (mgk 32 (((numN (bs A) i : Nat) : Int) : Int).natAbs)])
    (fun vs => A.length - (vInt (vs.getD 0 undef)).toNat) tyReadn_diff ?_ ?_
  · refine ⟨[.int .i64 (0 : Nat), .bool (decide (((numN (bs A) 0 : Nat) : Int) < 0)), .agg (mgk 32 (((numN (bs A) 0 : Nat) : Int) : Int).natAbs)], rfl, ⟨0, by omega, rfl⟩, ?_⟩
    simp [tyReadn_d, numN, rowCells_mgk, mgl_zero, denT]
  · rintro vs hl ⟨i, hi, rfl⟩
    clear hl
    refine tree_ite (ev_nil ⟨fun hlt => tree_leaf ?_, fun hlt => tree_leaf (ev_nil ?_)⟩)
    · have hlt : i < A.length := by simpa [e2, e3, e5, bs_size] using hlt
      have h1 := numN_lt (bs A) i fun k hk => hd k (by omega)
      have h2 := ten24 (show i ≤ 24 by omega)
      have h3 := hd i hlt
      have h4 : numN (bs A) (i + 1) = 10 * numN (bs A) i + (byteN (bs A) i - 48) := rfl
      have hb := byteI_N (bs A) i
      unfold digB at h3
      obtain ⟨b, hbb⟩ : ∃ b, b = byteN (bs A) i := ⟨_, rfl⟩
      obtain ⟨x, hx⟩ : ∃ b, b = numN (bs A) i := ⟨_, rfl⟩
      rw [← hbb] at hb h3 h4
      rw [← hx] at h1 h4 ⊢
      have hw : ariI .sub .u8 (byteI (bs A) ((i : Nat) : Int)) 48 = ((b - 48 : Nat) : Int) := by
        rw [hb]; simp only [ariI, IntKind.wrap_u8]; omega
      have g1 := rfromInt_any 10 (by omega)
      have g2 := rmul10 x (by omega)
      have g3 := rfromInt_any ((b - 48 : Nat) : Int) (by omega)
      have g4 := radd_nn (x * 10) (b - 48) (by omega) (by omega)
      refine ev_zc [.bool (decide (10 < 0)), .agg (mgk 32 (10 : Int).natAbs)] (pure_gives (g1)) ?_
      refine ev_zc [.bool (decide (((x * 10 : Nat) : Int) < 0)), .agg (mgk 32 (((x * 10 : Nat) : Int) : Int).natAbs), .int .i64 0] (pure_gives (g2)) ?_
      refine ev_need (by simp) ?_
      refine ev_need (by simp [hlt, e2, e3, e5, bs_size]) ?_
      refine ev_fits ((b - 48 : Nat) : Int) (by simp [hw, e2, e3, e5, bs_size]) (rng_i64 _ (by omega)) ?_
      refine ev_call [.bool (decide (((b - 48 : Nat) : Int) < 0)), .agg (mgk 32 (((b - 48 : Nat) : Int) : Int).natAbs)] rfl rfl (pure_gives g3) (fun β => by simp [hw, e2, e3, e5, bs_size,  SW.den, SV.den, Cell.den, densP, Piece.den, denV, rowCells_mgk, iv_list, ivZ, mgl_agg]) (fun β => by simp [rowCells_mgk, iv_list, ivZ, mgl_agg]) ?_
      refine ev_zc [.bool (decide (((x * 10 + (b - 48) : Nat) : Int) < 0)), .agg (mgk 32 (((x * 10 + (b - 48) : Nat) : Int) : Int).natAbs), .int .i64 0] (pure_gives (g4)) ?_
      refine ev_fits ((i + 1 : Nat) : Int) (by simp) (rng_i64 _ (by omega)) ?_
      refine ev_nil ⟨[.int .i64 (i + 1 : Nat), .bool (decide (((x * 10 + (b - 48) : Nat) : Int) < 0)), .agg (mgk 32 (((x * 10 + (b - 48) : Nat) : Int) : Int).natAbs)], rfl, ⟨i + 1, by omega, by rw [h4, Nat.mul_comm 10 x]⟩, by simp [vInt]; omega, ?_⟩
      simp [denT, rowCells_mgk]
    · have hlt : ¬ i < A.length := by simpa [e2, e3, e5, bs_size] using hlt
      obtain rfl : i = A.length := by omega
      refine ⟨rfl, ?_⟩
      simp [denT, rowCells_mgk]
set_option maxHeartbeats 8000000 in
theorem read_loop_o (l w r f A : List UInt8) (P : Int) (n k : Nat) (e2 : (bs l).extract 0 n = bs w) (e3 : (bs l).extract n l.length = bs r) (e4 : (bs r).extract 1 r.length = bs f) (e5 : bs w ++ bs f = bs A) (hA : A.length ≤ 24) (hd : ∀ j, j < A.length → digB (bs A) j) :
    Ev.holds Tryz.prog (env ([.string (bs l), .int .i64 P, .int .i64 (n : Nat), .int .i64 (k : Nat)] ++ [.int .i64 (A.length : Nat), .bool (decide (((numN (bs A) A.length : Nat) : Int) < 0)), .agg (mgk 32 (((numN (bs A) A.length : Nat) : Int) : Int).natAbs)])) (.loop 84 0 vsyS84_0o vsyH84_0o (.exit 0) .none 3) := by
  refine loop_holds plain (m := 3) (x := .exit 0) (alt := none) [.string (bs l), .int .i64 P, .int .i64 (n : Nat), .int .i64 (k : Nat)] [.int .i64 (A.length : Nat), .bool (decide (((numN (bs A) A.length : Nat) : Int) < 0)), .agg (mgk 32 (((numN (bs A) A.length : Nat) : Int) : Int).natAbs)] tyReado_ok tyReado_fine
    (fun vs => ∃ i : Nat, i ≤ A.length ∧ vs = [.int .i64 (i : Nat), .bool (decide (((numN (bs A) i : Nat) : Int) < 0)), .agg (mgk 32 (((numN (bs A) i : Nat) : Int) : Int).natAbs)])
    (fun vs => A.length - (vInt (vs.getD 0 undef)).toNat) tyReado_diff ?_ ?_
  · refine ⟨[.int .i64 (0 : Nat), .bool (decide (((numN (bs A) 0 : Nat) : Int) < 0)), .agg (mgk 32 (((numN (bs A) 0 : Nat) : Int) : Int).natAbs)], rfl, ⟨0, by omega, rfl⟩, ?_⟩
    simp [tyReado_d, numN, rowCells_mgk, mgl_zero, denT]
  · rintro vs hl ⟨i, hi, rfl⟩
    clear hl
    refine tree_ite (ev_nil ⟨fun hlt => tree_leaf ?_, fun hlt => tree_leaf (ev_nil ?_)⟩)
    · have hlt : i < A.length := by simpa [e2, e3, e4, e5, bs_size] using hlt
      have h1 := numN_lt (bs A) i fun k hk => hd k (by omega)
      have h2 := ten24 (show i ≤ 24 by omega)
      have h3 := hd i hlt
      have h4 : numN (bs A) (i + 1) = 10 * numN (bs A) i + (byteN (bs A) i - 48) := rfl
      have hb := byteI_N (bs A) i
      unfold digB at h3
      obtain ⟨b, hbb⟩ : ∃ b, b = byteN (bs A) i := ⟨_, rfl⟩
      obtain ⟨x, hx⟩ : ∃ b, b = numN (bs A) i := ⟨_, rfl⟩
      rw [← hbb] at hb h3 h4
      rw [← hx] at h1 h4 ⊢
      have hw : ariI .sub .u8 (byteI (bs A) ((i : Nat) : Int)) 48 = ((b - 48 : Nat) : Int) := by
        rw [hb]; simp only [ariI, IntKind.wrap_u8]; omega
      have g1 := rfromInt_any 10 (by omega)
      have g2 := rmul10 x (by omega)
      have g3 := rfromInt_any ((b - 48 : Nat) : Int) (by omega)
      have g4 := radd_nn (x * 10) (b - 48) (by omega) (by omega)
      refine ev_zc [.bool (decide (10 < 0)), .agg (mgk 32 (10 : Int).natAbs)] (pure_gives (g1)) ?_
      refine ev_zc [.bool (decide (((x * 10 : Nat) : Int) < 0)), .agg (mgk 32 (((x * 10 : Nat) : Int) : Int).natAbs), .int .i64 0] (pure_gives (g2)) ?_
      refine ev_need (by simp) ?_
      refine ev_need (by simp [hlt, e2, e3, e4, e5, bs_size]) ?_
      refine ev_fits ((b - 48 : Nat) : Int) (by simp [hw, e2, e3, e4, e5, bs_size]) (rng_i64 _ (by omega)) ?_
      refine ev_call [.bool (decide (((b - 48 : Nat) : Int) < 0)), .agg (mgk 32 (((b - 48 : Nat) : Int) : Int).natAbs)] rfl rfl (pure_gives g3) (fun β => by simp [hw, e2, e3, e4, e5, bs_size,  SW.den, SV.den, Cell.den, densP, Piece.den, denV, rowCells_mgk, iv_list, ivZ, mgl_agg]) (fun β => by simp [rowCells_mgk, iv_list, ivZ, mgl_agg]) ?_
      refine ev_zc [.bool (decide (((x * 10 + (b - 48) : Nat) : Int) < 0)), .agg (mgk 32 (((x * 10 + (b - 48) : Nat) : Int) : Int).natAbs), .int .i64 0] (pure_gives (g4)) ?_
      refine ev_fits ((i + 1 : Nat) : Int) (by simp) (rng_i64 _ (by omega)) ?_
      refine ev_nil ⟨[.int .i64 (i + 1 : Nat), .bool (decide (((x * 10 + (b - 48) : Nat) : Int) < 0)), .agg (mgk 32 (((x * 10 + (b - 48) : Nat) : Int) : Int).natAbs)], rfl, ⟨i + 1, by omega, by rw [h4, Nat.mul_comm 10 x]⟩, by simp [vInt]; omega, ?_⟩
      simp [denT, rowCells_mgk]
    · have hlt : ¬ i < A.length := by simpa [e2, e3, e4, e5, bs_size] using hlt
      obtain rfl : i = A.length := by omega
      refine ⟨rfl, ?_⟩
      simp [denT, rowCells_mgk]
set_option maxHeartbeats 8000000 in
theorem read_loop_p (l w r A : List UInt8) (P : Int) (n : Nat) (e2 : (bs l).extract 0 n = bs w) (e3 : (bs l).extract n l.length = bs r) (e5 : bs w ++ bs r = bs A) (hA : A.length ≤ 24) (hd : ∀ j, j < A.length → digB (bs A) j) :
    Ev.holds Tryz.prog (env ([.string (bs l), .int .i64 P, .int .i64 (n : Nat)] ++ [.int .i64 (A.length : Nat), .bool (decide (((numN (bs A) A.length : Nat) : Int) < 0)), .agg (mgk 32 (((numN (bs A) A.length : Nat) : Int) : Int).natAbs)])) (.loop 84 0 vsyS84_0p vsyH84_0p (.exit 0) .none 3) := by
  refine loop_holds plain (m := 3) (x := .exit 0) (alt := none) [.string (bs l), .int .i64 P, .int .i64 (n : Nat)] [.int .i64 (A.length : Nat), .bool (decide (((numN (bs A) A.length : Nat) : Int) < 0)), .agg (mgk 32 (((numN (bs A) A.length : Nat) : Int) : Int).natAbs)] tyReadp_ok tyReadp_fine
    (fun vs => ∃ i : Nat, i ≤ A.length ∧ vs = [.int .i64 (i : Nat), .bool (decide (((numN (bs A) i : Nat) : Int) < 0)), .agg (mgk 32 (((numN (bs A) i : Nat) : Int) : Int).natAbs)])
    (fun vs => A.length - (vInt (vs.getD 0 undef)).toNat) tyReadp_diff ?_ ?_
  · refine ⟨[.int .i64 (0 : Nat), .bool (decide (((numN (bs A) 0 : Nat) : Int) < 0)), .agg (mgk 32 (((numN (bs A) 0 : Nat) : Int) : Int).natAbs)], rfl, ⟨0, by omega, rfl⟩, ?_⟩
    simp [tyReadp_d, numN, rowCells_mgk, mgl_zero, denT]
  · rintro vs hl ⟨i, hi, rfl⟩
    clear hl
    refine tree_ite (ev_nil ⟨fun hlt => tree_leaf ?_, fun hlt => tree_leaf (ev_nil ?_)⟩)
    · have hlt : i < A.length := by simpa [e2, e3, e5, bs_size] using hlt
      have h1 := numN_lt (bs A) i fun k hk => hd k (by omega)
      have h2 := ten24 (show i ≤ 24 by omega)
      have h3 := hd i hlt
      have h4 : numN (bs A) (i + 1) = 10 * numN (bs A) i + (byteN (bs A) i - 48) := rfl
      have hb := byteI_N (bs A) i
      unfold digB at h3
      obtain ⟨b, hbb⟩ : ∃ b, b = byteN (bs A) i := ⟨_, rfl⟩
      obtain ⟨x, hx⟩ : ∃ b, b = numN (bs A) i := ⟨_, rfl⟩
      rw [← hbb] at hb h3 h4
      rw [← hx] at h1 h4 ⊢
      have hw : ariI .sub .u8 (byteI (bs A) ((i : Nat) : Int)) 48 = ((b - 48 : Nat) : Int) := by
        rw [hb]; simp only [ariI, IntKind.wrap_u8]; omega
      have g1 := rfromInt_any 10 (by omega)
      have g2 := rmul10 x (by omega)
      have g3 := rfromInt_any ((b - 48 : Nat) : Int) (by omega)
      have g4 := radd_nn (x * 10) (b - 48) (by omega) (by omega)
      refine ev_zc [.bool (decide (10 < 0)), .agg (mgk 32 (10 : Int).natAbs)] (pure_gives (g1)) ?_
      refine ev_zc [.bool (decide (((x * 10 : Nat) : Int) < 0)), .agg (mgk 32 (((x * 10 : Nat) : Int) : Int).natAbs), .int .i64 0] (pure_gives (g2)) ?_
      refine ev_need (by simp) ?_
      refine ev_need (by simp [hlt, e2, e3, e5, bs_size]) ?_
      refine ev_fits ((b - 48 : Nat) : Int) (by simp [hw, e2, e3, e5, bs_size]) (rng_i64 _ (by omega)) ?_
      refine ev_call [.bool (decide (((b - 48 : Nat) : Int) < 0)), .agg (mgk 32 (((b - 48 : Nat) : Int) : Int).natAbs)] rfl rfl (pure_gives g3) (fun β => by simp [hw, e2, e3, e5, bs_size,  SW.den, SV.den, Cell.den, densP, Piece.den, denV, rowCells_mgk, iv_list, ivZ, mgl_agg]) (fun β => by simp [rowCells_mgk, iv_list, ivZ, mgl_agg]) ?_
      refine ev_zc [.bool (decide (((x * 10 + (b - 48) : Nat) : Int) < 0)), .agg (mgk 32 (((x * 10 + (b - 48) : Nat) : Int) : Int).natAbs), .int .i64 0] (pure_gives (g4)) ?_
      refine ev_fits ((i + 1 : Nat) : Int) (by simp) (rng_i64 _ (by omega)) ?_
      refine ev_nil ⟨[.int .i64 (i + 1 : Nat), .bool (decide (((x * 10 + (b - 48) : Nat) : Int) < 0)), .agg (mgk 32 (((x * 10 + (b - 48) : Nat) : Int) : Int).natAbs)], rfl, ⟨i + 1, by omega, by rw [h4, Nat.mul_comm 10 x]⟩, by simp [vInt]; omega, ?_⟩
      simp [denT, rowCells_mgk]
    · have hlt : ¬ i < A.length := by simpa [e2, e3, e5, bs_size] using hlt
      obtain rfl : i = A.length := by omega
      refine ⟨rfl, ?_⟩
      simp [denT, rowCells_mgk]
end Go.Proofs.YtkiefjbfepjcbaaGreatDoor
end
section
namespace Go.Proofs.YtkiefjbfepjcbaaGreatDoor
open Go.RowKit Go.Proofs.YtkiefjbfepjcbaaGreatDoor.Sx
set_option linter.unusedSimpArgs false
set_option linter.unusedVariables false
attribute [local simp] BTm.den Tm.i Tm.s Tm.den env vInt vBool vStr exI SW.den SV.den Cell.den densP Piece.den denV

theorem dp_none {d : List UInt8} {P : Int} (h : runD d = 0 ∨ 15 < runD d ∨ (1 < runD d ∧ byteN (bs d) 0 = 48)) : docParts d P = none := if_pos h
theorem dp_go {d : List UInt8} {P : Int} (h : ¬ (runD d = 0 ∨ 15 < runD d ∨ (1 < runD d ∧ byteN (bs d) 0 = 48))) :
    docParts d P = match d.drop (runD d) with | [] => some (d.take (runD d), []) | c :: t => if c = 46 ∧ runD t ≠ 0 ∧ runD t = t.length ∧ (t.length : Int) ≤ P then some (d.take (runD d), t) else none := if_neg h
theorem take_dig (d : List UInt8) : ∀ j, j < (d.take (runD d)).length → digB (bs (d.take (runD d))) j := fun j h => by
  have h1 := runD_le d
  rw [List.length_take] at h
  rw [digB_bs, getD_take (by omega)]
  exact runD_dig d j (by omega)
theorem all_dig {t : List UInt8} (h : runD t = t.length) : ∀ j, j < t.length → digB (bs t) j := fun j hj => by
  rw [digB_bs]; exact runD_dig t j (by omega)
theorem app_dig {w f : List UInt8} (hw : ∀ j, j < w.length → digB (bs w) j) (hf : ∀ j, j < f.length → digB (bs f) j) : ∀ j, j < (w ++ f).length → digB (bs (w ++ f)) j := fun j h => by
  rw [List.length_append] at h
  unfold digB
  by_cases hj : j < w.length
  · rw [byteN_app_l w f hj]; exact hw j hj
  · obtain ⟨i, rfl⟩ : ∃ i, j = w.length + i := ⟨j - w.length, by omega⟩
    rw [byteN_app_r]; exact hf i (by omega)
def numA (A : List UInt8) : Nat := numN (bs A) A.length
theorem numA_lt {A : List UInt8} (hA : A.length ≤ 24) (hd : ∀ j, j < A.length → digB (bs A) j) : numA A < 2 ^ 90 := by
  have h1 := numN_lt (bs A) A.length hd
  have h2 := ten24 hA
  unfold numA; omega
theorem mk_num {D : Nat} (hD : D < 2 ^ 90) (z : Int) (hz : z = (D : Nat) ∨ z = -(D : Nat)) {k : Nat} (hk : k ≤ 9) : ∃ a b, mkZ z (ten k) = .tuple #[.agg (rvZ a b), .int .i64 0] ∧ a.natAbs < pw 32 ∧ b.natAbs < pw 32 := by
  have h1 := ten_le hk
  have h2 := ten_pos k
  obtain ⟨a, b, he, hq⟩ := q_make z (ten k) 90 (by omega) (by omega) (Nat.lt_of_lt_of_le (m := 2 ^ 40) (by omega) (Nat.pow_le_pow_right (by omega) (by omega))) (by omega)
  exact ⟨a, b, he, lt_pw32 hq.la (by omega), lt_pw32 hq.lb (by omega)⟩
theorem tup_agg {x y : Array Value} (h : Value.tuple #[.agg x, .int .i64 0] = .tuple #[.agg y, .int .i64 0]) : x = y := by cases h; rfl
def readR (o : Option (List UInt8 × List UInt8)) (m : Bool) (v : Value) : Prop :=
  match o with
  | none => v = .tuple #[.agg (rvZ 0 0), .bool false]
  | some (w, f) => if m = true ∧ numA (w ++ f) = 0 then v = .tuple #[.agg (rvZ 0 0), .bool false]
      else ∃ a b, mkZ (if m = true then -((numA (w ++ f) : Nat) : Int) else ((numA (w ++ f) : Nat) : Int)) (ten f.length) = .tuple #[.agg (rvZ a b), .int .i64 0] ∧ a.natAbs < pw 32 ∧ b.natAbs < pw 32 ∧ v = .tuple #[.agg (rvZ a b), .bool true]
set_option maxHeartbeats 64000000 in
theorem readF_main (l : List UInt8) (hl : l.length ≤ 9223372036854775807) (P : Int) (hP : P ≤ 9) (V : Value) (hR : readR (docParts l P) false V) :
    tyReadF.den Tryz.prog (fun ρ' ret => ∀ β, ret.val.den (env ρ') β = V) [.string (bs l), .int .i64 P] := by
  refine tree_ite ?_
  have hbad : docParts l P = none → V = .tuple #[.agg (rvZ 0 0), .bool false] := fun h => by rw [h] at hR; exact hR
  have g0 := run_any l (by omega)
  obtain ⟨n, hrun⟩ : ∃ n, runD l = n := ⟨_, rfl⟩
  have hnl : n ≤ l.length := by rw [← hrun]; exact runD_le l
  rw [hrun] at g0
  have hb0 := byteI_N (bs l) 0
  refine ev_call [.int .i64 (n : Nat)] rfl rfl (pure_gives g0) (fun β => by simp [bs_size, SW.den, SV.den, Cell.den, densP, Piece.den, denV]) (fun β => by simp) ?_
  obtain ⟨w, hw⟩ : ∃ w, w = l.take n := ⟨_, rfl⟩
  obtain ⟨r, hr⟩ : ∃ r, r = l.drop n := ⟨_, rfl⟩
  have e2 : (bs l).extract 0 n = bs w := by rw [bs_sub, hw]; simp
  have e3 : (bs l).extract n l.length = bs r := by rw [bs_sub, hr, List.take_of_length_le (by rw [List.length_drop]; omega)]
  by_cases h0 : n = 0
  · refine ev_nil (way_true (by simp <;> omega) (tree_leaf ?_))
    refine ev_nil fun β => ?_
    rw [hbad (dp_none (.inl (by omega))), ← zero_rat]; simp [denT]
  · refine ev_nil (way_false (by simp <;> omega) (tree_ite ?_))
    by_cases h1 : 15 < n
    · refine ev_nil (way_true (by simp <;> omega) (tree_leaf ?_))
      refine ev_nil fun β => ?_
      rw [hbad (dp_none (.inr (.inl (by omega)))), ← zero_rat]; simp [denT]
    · refine ev_nil (way_false (by simp <;> omega) (tree_ite ?_))
      by_cases h2 : 1 < n
      · refine ev_nil (way_true (by simp <;> omega) (tree_ite ?_))
        refine ev_need (by simp) ?_
        refine ev_need (by simp [bs_size] <;> omega) ?_
        generalize hbb : byteN (bs l) 0 = b at *
        by_cases h3 : b = 48
        · have h3' : byteI (bs l) 0 = 48 := by rw [show (0 : Int) = ((0 : Nat) : Int) from rfl, hb0, h3]; rfl
          refine ev_nil (way_true (by simp [bs_size, h3'] <;> omega) (tree_leaf ?_))
          refine ev_nil fun β => ?_
          rw [hbad (dp_none (.inr (.inr ⟨by omega, by rw [hbb]; exact h3⟩))), ← zero_rat]; simp [denT]
        · have h3' : byteI (bs l) 0 ≠ 48 := by rw [show (0 : Int) = ((0 : Nat) : Int) from rfl, hb0]; omega
          refine ev_nil (way_false (by simp [bs_size, h3'] <;> omega) (tree_ite ?_))
          have hok : ¬ (runD l = 0 ∨ 15 < runD l ∨ (1 < runD l ∧ byteN (bs l) 0 = 48)) := by rw [hrun, hbb]; omega
          have hgo := fun P => dp_go (P := P) hok
          rw [hrun] at hgo
          refine ev_need (by simp) ?_
          refine ev_need (by simp [e2, e3, bs_size]; omega) ?_
          refine ev_need (by simp) ?_
          refine ev_need (by simp [e2, e3, bs_size]; omega) ?_
          have hwl : w.length = n := by rw [hw, List.length_take]; omega
          have hwd : ∀ j, j < w.length → digB (bs w) j := by rw [hw, ← hrun]; exact take_dig l
          have hrl : r.length + n = l.length := by rw [hr, List.length_drop]; omega
          rw [← hr, ← hw] at hgo
          clear hw hr
          cases r with
          | nil =>
            refine ev_nil (way_false (by simp [e2, e3, bs_size] <;> omega) (tree_leaf ?_))
            have hq : docParts l P = some (w, []) := hgo P
            obtain ⟨A, hAe⟩ : ∃ A, w ++ [] = A := ⟨_, rfl⟩
            have e5 : bs w ++ bs [] = bs A := by rw [bs_cat, hAe]
            have hlen : A.length = w.length := by rw [← hAe]; simp
            have hn : w.length = n := hwl
            have hA : A.length ≤ 24 := by rw [hlen, hn]; omega
            have hd : ∀ j, j < A.length → digB (bs A) j := by rw [← hAe]; exact app_dig hwd (fun j h => absurd h (by simp))
            have hD := numA_lt hA hd
            have gp := ten_d 0 (by omega)
            refine ev_fits (A.length : Nat) (by simp [e2, e3, bs_size, hn, hlen] <;> omega) (rng_i64 _ (by omega)) ?_
            refine ev_loop [.int .i64 (A.length : Nat), .bool (decide (((numA A : Nat) : Int) < 0)), .agg (mgk 32 (((numA A : Nat) : Int) : Int).natAbs)] rfl rfl (read_loop_n l w [] A P n  e2 e3 e5 hA hd) ?_
            obtain ⟨a, b, he, ha, hb⟩ := mk_num hD ((numA A : Nat) : Int) (.inl rfl) (k := 0) (by omega)
            have hS : ((numA A : Nat) : Int).natAbs < pw 32 := lt_pw32 (k := 90) (by rw [Int.natAbs_natCast]; exact hD) (by omega)
            have gm := (make_Z ((numA A : Nat) : Int) (ten 0) hS (lt_pw32 (ten_bits (by omega)) (by omega))).2
            rw [he] at gm
            rw [hq] at hR
            unfold readR at hR
            simp only [hAe, List.length_nil] at hR
            rw [if_neg (fun h => by cases h.1)] at hR
            obtain ⟨a', b', he', ha', hb', hv⟩ := hR
            rw [if_neg (by simp), he] at he'
            rw [← tup_agg he'] at hv
            subst hv
            clear he' ha' hb' hbad
            generalize hDD : numA A = D0 at *
            generalize hT : ten 0 = T at *
            generalize ((D0 : Nat) : Int) = S at *
            refine ev_zc [.bool (decide (T < 0)), .agg (mgk 32 (T : Int).natAbs), .bool (decide (1 < 0)), .agg (mgk 32 (1 : Int).natAbs)] (pure_gives (gp)) ?_
            refine ev_zc [.bool (decide (a < 0)), .agg (mgk 32 (a : Int).natAbs), .bool (decide (b < 0)), .agg (mgk 32 (b : Int).natAbs), .int .i64 0] (pure_gives (gm)) ?_
            refine ev_nil fun β => ?_
            simp [rowCells_mgk, iv_list, rv_list, ivZ, rvZ, mgl_agg]
          | cons c t =>
            have e4 : (bs (c :: t)).extract 1 (t.length + 1) = bs t := by rw [bs_sub]; simp
            have hbc : byteI (bs (c :: t)) 0 = (c.toNat : Int) := bs_byte (c :: t) 0
            have hgo : docParts l P = if c = 46 ∧ runD t ≠ 0 ∧ runD t = t.length ∧ (t.length : Int) ≤ P then some (w, t) else none := hgo P
            refine ev_nil (way_true (by simp [e2, e3, bs_size] <;> omega) (tree_ite ?_))
            refine ev_need (by simp) ?_
            refine ev_need (by simp [e2, e3, bs_size] <;> omega) ?_
            by_cases hc : c = 46
            · have hc' : (c.toNat : Int) = 46 := by rw [hc]; rfl
              refine ev_nil (way_true (by simp [e2, e3, bs_size, hbc, hc'] <;> omega) (tree_ite ?_))
              refine ev_need (by simp) ?_
              refine ev_need (by simp [e2, e3, bs_size] <;> omega) ?_
              have gt := run_any t (by simp at hrl; omega)
              obtain ⟨v, hv⟩ : ∃ v, v = runD t := ⟨_, rfl⟩
              rw [← hv] at gt hgo
              refine ev_call [.int .i64 (v : Nat)] rfl rfl (pure_gives gt) (fun β => by simp [e2, e3, bs_size, e4, SW.den, SV.den, Cell.den, densP, Piece.den, denV]) (fun β => by simp) ?_
              by_cases h3 : v = 0
              · refine ev_nil (way_true (by simp <;> omega) (tree_leaf ?_))
                refine ev_nil fun β => ?_
                rw [hbad (by rw [hgo]; exact if_neg (fun h => h.2.1 h3)), ← zero_rat]; simp [denT]
              · refine ev_nil (way_false (by simp <;> omega) (tree_ite ?_))
                by_cases h4 : v = t.length
                · subst h4
                  refine ev_nil (way_true (by simp [e2, e3, bs_size, e4] <;> omega) (tree_ite ?_))
                  by_cases h5 : P < (t.length : Int)
                  · refine ev_nil (way_true (by simp <;> omega) (tree_leaf ?_))
                    refine ev_nil fun β => ?_
                    rw [hbad (by rw [hgo]; exact if_neg (fun h => absurd h.2.2.2 (by omega))), ← zero_rat]; simp [denT]
                  · refine ev_nil (way_false (by simp <;> omega) (tree_leaf ?_))
                    have hq : docParts l P = some (w, t) := by rw [hgo]; exact if_pos ⟨hc, h3, rfl, by omega⟩
                    have h4 : runD t = t.length := hv.symm
                    obtain ⟨A, hAe⟩ : ∃ A, w ++ t = A := ⟨_, rfl⟩
                    have e5 : bs w ++ bs t = bs A := by rw [bs_cat, hAe]
                    have hlen : A.length = w.length + t.length := by rw [← hAe]; simp
                    have hn : w.length = n := hwl
                    have hA : A.length ≤ 24 := by rw [hlen, hn]; omega
                    have hd : ∀ j, j < A.length → digB (bs A) j := by rw [← hAe]; exact app_dig hwd (all_dig h4)
                    have hD := numA_lt hA hd
                    have gp := ten_d t.length (by omega)
                    refine ev_fits (A.length : Nat) (by simp [e2, e3, bs_size, e4, hn, hlen] <;> omega) (rng_i64 _ (by omega)) ?_
                    refine ev_loop [.int .i64 (A.length : Nat), .bool (decide (((numA A : Nat) : Int) < 0)), .agg (mgk 32 (((numA A : Nat) : Int) : Int).natAbs)] rfl rfl (read_loop_m l w (c :: t) t A P n t.length  e2 e3 e4 e5 hA hd) ?_
                    obtain ⟨a, b, he, ha, hb⟩ := mk_num hD ((numA A : Nat) : Int) (.inl rfl) (k := t.length) (by omega)
                    have hS : ((numA A : Nat) : Int).natAbs < pw 32 := lt_pw32 (k := 90) (by rw [Int.natAbs_natCast]; exact hD) (by omega)
                    have gm := (make_Z ((numA A : Nat) : Int) (ten t.length) hS (lt_pw32 (ten_bits (by omega)) (by omega))).2
                    rw [he] at gm
                    rw [hq] at hR
                    unfold readR at hR
                    simp only [hAe, List.length_nil] at hR
                    rw [if_neg (fun h => by cases h.1)] at hR
                    obtain ⟨a', b', he', ha', hb', hv⟩ := hR
                    rw [if_neg (by simp), he] at he'
                    rw [← tup_agg he'] at hv
                    subst hv
                    clear he' ha' hb' hbad
                    generalize hDD : numA A = D0 at *
                    generalize hT : ten t.length = T at *
                    generalize ((D0 : Nat) : Int) = S at *
                    refine ev_zc [.bool (decide (T < 0)), .agg (mgk 32 (T : Int).natAbs), .bool (decide (1 < 0)), .agg (mgk 32 (1 : Int).natAbs)] (pure_gives (gp)) ?_
                    refine ev_zc [.bool (decide (a < 0)), .agg (mgk 32 (a : Int).natAbs), .bool (decide (b < 0)), .agg (mgk 32 (b : Int).natAbs), .int .i64 0] (pure_gives (gm)) ?_
                    refine ev_nil fun β => ?_
                    simp [rowCells_mgk, iv_list, rv_list, ivZ, rvZ, mgl_agg]
                · refine ev_nil (way_false (by simp [e2, e3, bs_size, e4] <;> omega) (tree_leaf ?_))
                  refine ev_nil fun β => ?_
                  rw [hbad (by rw [hgo]; exact if_neg (fun h => h4 h.2.2.1)), ← zero_rat]; simp [denT]
            · have hc' : (c.toNat : Int) ≠ 46 := fun h => hc (UInt8.toNat_inj.1 (by simpa using Int.ofNat.inj h))
              refine ev_nil (way_false (by simp [e2, e3, bs_size, hbc, hc'] <;> omega) (tree_leaf ?_))
              refine ev_nil fun β => ?_
              rw [hbad (by rw [hgo]; exact if_neg (fun h => hc h.1)), ← zero_rat]; simp [denT]
      · refine ev_nil (way_false (by simp <;> omega) (tree_ite ?_))
        have hok : ¬ (runD l = 0 ∨ 15 < runD l ∨ (1 < runD l ∧ byteN (bs l) 0 = 48)) := by rw [hrun]; omega
        have hgo := fun P => dp_go (P := P) hok
        rw [hrun] at hgo
        refine ev_need (by simp) ?_
        refine ev_need (by simp [e2, e3, bs_size]; omega) ?_
        refine ev_need (by simp) ?_
        refine ev_need (by simp [e2, e3, bs_size]; omega) ?_
        have hwl : w.length = n := by rw [hw, List.length_take]; omega
        have hwd : ∀ j, j < w.length → digB (bs w) j := by rw [hw, ← hrun]; exact take_dig l
        have hrl : r.length + n = l.length := by rw [hr, List.length_drop]; omega
        rw [← hr, ← hw] at hgo
        clear hw hr
        cases r with
        | nil =>
          refine ev_nil (way_false (by simp [e2, e3, bs_size] <;> omega) (tree_leaf ?_))
          have hq : docParts l P = some (w, []) := hgo P
          obtain ⟨A, hAe⟩ : ∃ A, w ++ [] = A := ⟨_, rfl⟩
          have e5 : bs w ++ bs [] = bs A := by rw [bs_cat, hAe]
          have hlen : A.length = w.length := by rw [← hAe]; simp
          have hn : w.length = n := hwl
          have hA : A.length ≤ 24 := by rw [hlen, hn]; omega
          have hd : ∀ j, j < A.length → digB (bs A) j := by rw [← hAe]; exact app_dig hwd (fun j h => absurd h (by simp))
          have hD := numA_lt hA hd
          have gp := ten_d 0 (by omega)
          refine ev_fits (A.length : Nat) (by simp [e2, e3, bs_size, hn, hlen] <;> omega) (rng_i64 _ (by omega)) ?_
          refine ev_loop [.int .i64 (A.length : Nat), .bool (decide (((numA A : Nat) : Int) < 0)), .agg (mgk 32 (((numA A : Nat) : Int) : Int).natAbs)] rfl rfl (read_loop_p l w [] A P n  e2 e3 e5 hA hd) ?_
          obtain ⟨a, b, he, ha, hb⟩ := mk_num hD ((numA A : Nat) : Int) (.inl rfl) (k := 0) (by omega)
          have hS : ((numA A : Nat) : Int).natAbs < pw 32 := lt_pw32 (k := 90) (by rw [Int.natAbs_natCast]; exact hD) (by omega)
          have gm := (make_Z ((numA A : Nat) : Int) (ten 0) hS (lt_pw32 (ten_bits (by omega)) (by omega))).2
          rw [he] at gm
          rw [hq] at hR
          unfold readR at hR
          simp only [hAe, List.length_nil] at hR
          rw [if_neg (fun h => by cases h.1)] at hR
          obtain ⟨a', b', he', ha', hb', hv⟩ := hR
          rw [if_neg (by simp), he] at he'
          rw [← tup_agg he'] at hv
          subst hv
          clear he' ha' hb' hbad
          generalize hDD : numA A = D0 at *
          generalize hT : ten 0 = T at *
          generalize ((D0 : Nat) : Int) = S at *
          refine ev_zc [.bool (decide (T < 0)), .agg (mgk 32 (T : Int).natAbs), .bool (decide (1 < 0)), .agg (mgk 32 (1 : Int).natAbs)] (pure_gives (gp)) ?_
          refine ev_zc [.bool (decide (a < 0)), .agg (mgk 32 (a : Int).natAbs), .bool (decide (b < 0)), .agg (mgk 32 (b : Int).natAbs), .int .i64 0] (pure_gives (gm)) ?_
          refine ev_nil fun β => ?_
          simp [rowCells_mgk, iv_list, rv_list, ivZ, rvZ, mgl_agg]
        | cons c t =>
          have e4 : (bs (c :: t)).extract 1 (t.length + 1) = bs t := by rw [bs_sub]; simp
          have hbc : byteI (bs (c :: t)) 0 = (c.toNat : Int) := bs_byte (c :: t) 0
          have hgo : docParts l P = if c = 46 ∧ runD t ≠ 0 ∧ runD t = t.length ∧ (t.length : Int) ≤ P then some (w, t) else none := hgo P
          refine ev_nil (way_true (by simp [e2, e3, bs_size] <;> omega) (tree_ite ?_))
          refine ev_need (by simp) ?_
          refine ev_need (by simp [e2, e3, bs_size] <;> omega) ?_
          by_cases hc : c = 46
          · have hc' : (c.toNat : Int) = 46 := by rw [hc]; rfl
            refine ev_nil (way_true (by simp [e2, e3, bs_size, hbc, hc'] <;> omega) (tree_ite ?_))
            refine ev_need (by simp) ?_
            refine ev_need (by simp [e2, e3, bs_size] <;> omega) ?_
            have gt := run_any t (by simp at hrl; omega)
            obtain ⟨v, hv⟩ : ∃ v, v = runD t := ⟨_, rfl⟩
            rw [← hv] at gt hgo
            refine ev_call [.int .i64 (v : Nat)] rfl rfl (pure_gives gt) (fun β => by simp [e2, e3, bs_size, e4, SW.den, SV.den, Cell.den, densP, Piece.den, denV]) (fun β => by simp) ?_
            by_cases h3 : v = 0
            · refine ev_nil (way_true (by simp <;> omega) (tree_leaf ?_))
              refine ev_nil fun β => ?_
              rw [hbad (by rw [hgo]; exact if_neg (fun h => h.2.1 h3)), ← zero_rat]; simp [denT]
            · refine ev_nil (way_false (by simp <;> omega) (tree_ite ?_))
              by_cases h4 : v = t.length
              · subst h4
                refine ev_nil (way_true (by simp [e2, e3, bs_size, e4] <;> omega) (tree_ite ?_))
                by_cases h5 : P < (t.length : Int)
                · refine ev_nil (way_true (by simp <;> omega) (tree_leaf ?_))
                  refine ev_nil fun β => ?_
                  rw [hbad (by rw [hgo]; exact if_neg (fun h => absurd h.2.2.2 (by omega))), ← zero_rat]; simp [denT]
                · refine ev_nil (way_false (by simp <;> omega) (tree_leaf ?_))
                  have hq : docParts l P = some (w, t) := by rw [hgo]; exact if_pos ⟨hc, h3, rfl, by omega⟩
                  have h4 : runD t = t.length := hv.symm
                  obtain ⟨A, hAe⟩ : ∃ A, w ++ t = A := ⟨_, rfl⟩
                  have e5 : bs w ++ bs t = bs A := by rw [bs_cat, hAe]
                  have hlen : A.length = w.length + t.length := by rw [← hAe]; simp
                  have hn : w.length = n := hwl
                  have hA : A.length ≤ 24 := by rw [hlen, hn]; omega
                  have hd : ∀ j, j < A.length → digB (bs A) j := by rw [← hAe]; exact app_dig hwd (all_dig h4)
                  have hD := numA_lt hA hd
                  have gp := ten_d t.length (by omega)
                  refine ev_fits (A.length : Nat) (by simp [e2, e3, bs_size, e4, hn, hlen] <;> omega) (rng_i64 _ (by omega)) ?_
                  refine ev_loop [.int .i64 (A.length : Nat), .bool (decide (((numA A : Nat) : Int) < 0)), .agg (mgk 32 (((numA A : Nat) : Int) : Int).natAbs)] rfl rfl (read_loop_o l w (c :: t) t A P n t.length  e2 e3 e4 e5 hA hd) ?_
                  obtain ⟨a, b, he, ha, hb⟩ := mk_num hD ((numA A : Nat) : Int) (.inl rfl) (k := t.length) (by omega)
                  have hS : ((numA A : Nat) : Int).natAbs < pw 32 := lt_pw32 (k := 90) (by rw [Int.natAbs_natCast]; exact hD) (by omega)
                  have gm := (make_Z ((numA A : Nat) : Int) (ten t.length) hS (lt_pw32 (ten_bits (by omega)) (by omega))).2
                  rw [he] at gm
                  rw [hq] at hR
                  unfold readR at hR
                  simp only [hAe, List.length_nil] at hR
                  rw [if_neg (fun h => by cases h.1)] at hR
                  obtain ⟨a', b', he', ha', hb', hv⟩ := hR
                  rw [if_neg (by simp), he] at he'
                  rw [← tup_agg he'] at hv
                  subst hv
                  clear he' ha' hb' hbad
                  generalize hDD : numA A = D0 at *
                  generalize hT : ten t.length = T at *
                  generalize ((D0 : Nat) : Int) = S at *
                  refine ev_zc [.bool (decide (T < 0)), .agg (mgk 32 (T : Int).natAbs), .bool (decide (1 < 0)), .agg (mgk 32 (1 : Int).natAbs)] (pure_gives (gp)) ?_
                  refine ev_zc [.bool (decide (a < 0)), .agg (mgk 32 (a : Int).natAbs), .bool (decide (b < 0)), .agg (mgk 32 (b : Int).natAbs), .int .i64 0] (pure_gives (gm)) ?_
                  refine ev_nil fun β => ?_
                  simp [rowCells_mgk, iv_list, rv_list, ivZ, rvZ, mgl_agg]
              · refine ev_nil (way_false (by simp [e2, e3, bs_size, e4] <;> omega) (tree_leaf ?_))
                refine ev_nil fun β => ?_
                rw [hbad (by rw [hgo]; exact if_neg (fun h => h4 h.2.2.1)), ← zero_rat]; simp [denT]
          · have hc' : (c.toNat : Int) ≠ 46 := fun h => hc (UInt8.toNat_inj.1 (by simpa using Int.ofNat.inj h))
            refine ev_nil (way_false (by simp [e2, e3, bs_size, hbc, hc'] <;> omega) (tree_leaf ?_))
            refine ev_nil fun β => ?_
            rw [hbad (by rw [hgo]; exact if_neg (fun h => hc h.1)), ← zero_rat]; simp [denT]
set_option maxHeartbeats 64000000 in
theorem readM_main (l d : List UInt8) (hl : l.length ≤ 9223372036854775807) (hl1 : l.length = d.length + 1) (e1 : (bs l).extract 1 l.length = bs d) (P : Int) (hP : P ≤ 9) (V : Value) (hR : readR (docParts d P) true V) (hb45 : byteI (bs l) 0 = 45) :
    tyReadT.den Tryz.prog (fun ρ' ret => ∀ β, ret.val.den (env ρ') β = V) [.string (bs l), .int .i64 P] := by
  refine tree_ite ?_
  refine ev_nil (way_true (by simp [bs_size, hl1] <;> omega) (tree_ite ?_))
  refine ev_need (by simp) ?_
  refine ev_need (by simp [bs_size, hl1] <;> omega) ?_
  refine ev_nil (way_true (by simp [hb45] <;> omega) (tree_ite ?_))
  refine ev_need (by simp) ?_
  refine ev_need (by simp [bs_size, hl1] <;> omega) ?_
  have hbad : docParts d P = none → V = .tuple #[.agg (rvZ 0 0), .bool false] := fun h => by rw [h] at hR; exact hR
  have g0 := run_any d (by omega)
  obtain ⟨n, hrun⟩ : ∃ n, runD d = n := ⟨_, rfl⟩
  have hnl : n ≤ d.length := by rw [← hrun]; exact runD_le d
  rw [hrun] at g0
  have hb0 := byteI_N (bs d) 0
  refine ev_call [.int .i64 (n : Nat)] rfl rfl (pure_gives g0) (fun β => by simp [e1, bs_size, SW.den, SV.den, Cell.den, densP, Piece.den, denV]) (fun β => by simp) ?_
  obtain ⟨w, hw⟩ : ∃ w, w = d.take n := ⟨_, rfl⟩
  obtain ⟨r, hr⟩ : ∃ r, r = d.drop n := ⟨_, rfl⟩
  have e2 : (bs d).extract 0 n = bs w := by rw [bs_sub, hw]; simp
  have e3 : (bs d).extract n d.length = bs r := by rw [bs_sub, hr, List.take_of_length_le (by rw [List.length_drop]; omega)]
  by_cases h0 : n = 0
  · refine ev_nil (way_true (by simp <;> omega) (tree_leaf ?_))
    refine ev_nil fun β => ?_
    rw [hbad (dp_none (.inl (by omega))), ← zero_rat]; simp [denT]
  · refine ev_nil (way_false (by simp <;> omega) (tree_ite ?_))
    by_cases h1 : 15 < n
    · refine ev_nil (way_true (by simp <;> omega) (tree_leaf ?_))
      refine ev_nil fun β => ?_
      rw [hbad (dp_none (.inr (.inl (by omega)))), ← zero_rat]; simp [denT]
    · refine ev_nil (way_false (by simp <;> omega) (tree_ite ?_))
      by_cases h2 : 1 < n
      · refine ev_nil (way_true (by simp <;> omega) (tree_ite ?_))
        refine ev_need (by simp) ?_
        refine ev_need (by simp [e1, bs_size] <;> omega) ?_
        generalize hbb : byteN (bs d) 0 = b at *
        by_cases h3 : b = 48
        · have h3' : byteI (bs d) 0 = 48 := by rw [show (0 : Int) = ((0 : Nat) : Int) from rfl, hb0, h3]; rfl
          refine ev_nil (way_true (by simp [e1, bs_size, h3'] <;> omega) (tree_leaf ?_))
          refine ev_nil fun β => ?_
          rw [hbad (dp_none (.inr (.inr ⟨by omega, by rw [hbb]; exact h3⟩))), ← zero_rat]; simp [denT]
        · have h3' : byteI (bs d) 0 ≠ 48 := by rw [show (0 : Int) = ((0 : Nat) : Int) from rfl, hb0]; omega
          refine ev_nil (way_false (by simp [e1, bs_size, h3'] <;> omega) (tree_ite ?_))
          have hok : ¬ (runD d = 0 ∨ 15 < runD d ∨ (1 < runD d ∧ byteN (bs d) 0 = 48)) := by rw [hrun, hbb]; omega
          have hgo := fun P => dp_go (P := P) hok
          rw [hrun] at hgo
          refine ev_need (by simp) ?_
          refine ev_need (by simp [e1, e2, e3, bs_size]; omega) ?_
          refine ev_need (by simp) ?_
          refine ev_need (by simp [e1, e2, e3, bs_size]; omega) ?_
          have hwl : w.length = n := by rw [hw, List.length_take]; omega
          have hwd : ∀ j, j < w.length → digB (bs w) j := by rw [hw, ← hrun]; exact take_dig d
          have hrl : r.length + n = d.length := by rw [hr, List.length_drop]; omega
          rw [← hr, ← hw] at hgo
          clear hw hr
          cases r with
          | nil =>
            refine ev_nil (way_false (by simp [e1, e2, e3, bs_size] <;> omega) (tree_ite ?_))
            have hq : docParts d P = some (w, []) := hgo P
            obtain ⟨A, hAe⟩ : ∃ A, w ++ [] = A := ⟨_, rfl⟩
            have e5 : bs w ++ bs [] = bs A := by rw [bs_cat, hAe]
            have hlen : A.length = w.length := by rw [← hAe]; simp
            have hn : w.length = n := hwl
            have hA : A.length ≤ 24 := by rw [hlen, hn]; omega
            have hd : ∀ j, j < A.length → digB (bs A) j := by rw [← hAe]; exact app_dig hwd (fun j h => absurd h (by simp))
            have hD := numA_lt hA hd
            have gp := ten_d 0 (by omega)
            refine ev_fits (A.length : Nat) (by simp [e1, e2, e3, bs_size, hn, hlen] <;> omega) (rng_i64 _ (by omega)) ?_
            refine ev_loop [.int .i64 (A.length : Nat), .bool (decide (((numA A : Nat) : Int) < 0)), .agg (mgk 32 (((numA A : Nat) : Int) : Int).natAbs)] rfl rfl (read_loop_b l d w [] A P n e1 e2 e3 e5 hA hd) ?_
            obtain ⟨a, b, he, ha, hb⟩ := mk_num hD (-((numA A : Nat) : Int)) (.inr rfl) (k := 0) (by omega)
            have hS : ((numA A : Nat) : Int).natAbs < pw 32 := lt_pw32 (k := 90) (by rw [Int.natAbs_natCast]; exact hD) (by omega)
            have gs := rsign_Z _ hS
            have gn := rneg_Z _ hS
            have hs0 : sgn ((numA A : Nat) : Int) = 0 ↔ numA A = 0 := sgq_zero.trans (by omega)
            have gm := (make_Z (-((numA A : Nat) : Int)) (ten 0) (by rw [Int.natAbs_neg]; exact hS) (lt_pw32 (ten_bits (by omega)) (by omega))).2
            rw [he] at gm
            rw [hq] at hR
            unfold readR at hR
            simp only [hAe, List.length_nil] at hR
            generalize sgn ((numA A : Nat) : Int) = sg at gs hs0
            generalize hDD : numA A = D0 at *
            generalize hT : ten 0 = T at *
            generalize ((D0 : Nat) : Int) = S at *
            refine ev_zc [.int .i64 sg] (pure_gives (gs)) ?_
            by_cases h0 : D0 = 0
            · have h1 := hs0.2 h0
              refine ev_nil (way_true (by simp <;> omega) (tree_leaf ?_))
              refine ev_nil fun β => ?_
              rw [if_pos ⟨trivial, h0⟩] at hR
              rw [hR, ← zero_rat]; simp [denT]
            · have h1 : sg ≠ 0 := fun e => h0 (hs0.1 e)
              refine ev_nil (way_false (by simp <;> omega) (tree_leaf ?_))
              rw [if_neg (fun h => h0 h.2)] at hR
              obtain ⟨a', b', he', ha', hb', hv⟩ := hR
              rw [if_pos trivial, he] at he'
              rw [← tup_agg he'] at hv
              subst hv
              clear he' ha' hb'
              refine ev_zc [.bool (decide (-S < 0)), .agg (mgk 32 (-S : Int).natAbs)] (pure_gives (gn)) ?_
              refine ev_zc [.bool (decide (T < 0)), .agg (mgk 32 (T : Int).natAbs), .bool (decide (1 < 0)), .agg (mgk 32 (1 : Int).natAbs)] (pure_gives (gp)) ?_
              refine ev_zc [.bool (decide (a < 0)), .agg (mgk 32 (a : Int).natAbs), .bool (decide (b < 0)), .agg (mgk 32 (b : Int).natAbs), .int .i64 0] (pure_gives (gm)) ?_
              refine ev_nil fun β => ?_
              simp [rowCells_mgk, iv_list, rv_list, ivZ, rvZ, mgl_agg]
          | cons c t =>
            have e4 : (bs (c :: t)).extract 1 (t.length + 1) = bs t := by rw [bs_sub]; simp
            have hbc : byteI (bs (c :: t)) 0 = (c.toNat : Int) := bs_byte (c :: t) 0
            have hgo : docParts d P = if c = 46 ∧ runD t ≠ 0 ∧ runD t = t.length ∧ (t.length : Int) ≤ P then some (w, t) else none := hgo P
            refine ev_nil (way_true (by simp [e1, e2, e3, bs_size] <;> omega) (tree_ite ?_))
            refine ev_need (by simp) ?_
            refine ev_need (by simp [e1, e2, e3, bs_size] <;> omega) ?_
            by_cases hc : c = 46
            · have hc' : (c.toNat : Int) = 46 := by rw [hc]; rfl
              refine ev_nil (way_true (by simp [e1, e2, e3, bs_size, hbc, hc'] <;> omega) (tree_ite ?_))
              refine ev_need (by simp) ?_
              refine ev_need (by simp [e1, e2, e3, bs_size] <;> omega) ?_
              have gt := run_any t (by simp at hrl; omega)
              obtain ⟨v, hv⟩ : ∃ v, v = runD t := ⟨_, rfl⟩
              rw [← hv] at gt hgo
              refine ev_call [.int .i64 (v : Nat)] rfl rfl (pure_gives gt) (fun β => by simp [e1, e2, e3, bs_size, e4, SW.den, SV.den, Cell.den, densP, Piece.den, denV]) (fun β => by simp) ?_
              by_cases h3 : v = 0
              · refine ev_nil (way_true (by simp <;> omega) (tree_leaf ?_))
                refine ev_nil fun β => ?_
                rw [hbad (by rw [hgo]; exact if_neg (fun h => h.2.1 h3)), ← zero_rat]; simp [denT]
              · refine ev_nil (way_false (by simp <;> omega) (tree_ite ?_))
                by_cases h4 : v = t.length
                · subst h4
                  refine ev_nil (way_true (by simp [e1, e2, e3, bs_size, e4] <;> omega) (tree_ite ?_))
                  by_cases h5 : P < (t.length : Int)
                  · refine ev_nil (way_true (by simp <;> omega) (tree_leaf ?_))
                    refine ev_nil fun β => ?_
                    rw [hbad (by rw [hgo]; exact if_neg (fun h => absurd h.2.2.2 (by omega))), ← zero_rat]; simp [denT]
                  · refine ev_nil (way_false (by simp <;> omega) (tree_ite ?_))
                    have hq : docParts d P = some (w, t) := by rw [hgo]; exact if_pos ⟨hc, h3, rfl, by omega⟩
                    have h4 : runD t = t.length := hv.symm
                    obtain ⟨A, hAe⟩ : ∃ A, w ++ t = A := ⟨_, rfl⟩
                    have e5 : bs w ++ bs t = bs A := by rw [bs_cat, hAe]
                    have hlen : A.length = w.length + t.length := by rw [← hAe]; simp
                    have hn : w.length = n := hwl
                    have hA : A.length ≤ 24 := by rw [hlen, hn]; omega
                    have hd : ∀ j, j < A.length → digB (bs A) j := by rw [← hAe]; exact app_dig hwd (all_dig h4)
                    have hD := numA_lt hA hd
                    have gp := ten_d t.length (by omega)
                    refine ev_fits (A.length : Nat) (by simp [e1, e2, e3, bs_size, e4, hn, hlen] <;> omega) (rng_i64 _ (by omega)) ?_
                    refine ev_loop [.int .i64 (A.length : Nat), .bool (decide (((numA A : Nat) : Int) < 0)), .agg (mgk 32 (((numA A : Nat) : Int) : Int).natAbs)] rfl rfl (read_loop_a l d w (c :: t) t A P n t.length e1 e2 e3 e4 e5 hA hd) ?_
                    obtain ⟨a, b, he, ha, hb⟩ := mk_num hD (-((numA A : Nat) : Int)) (.inr rfl) (k := t.length) (by omega)
                    have hS : ((numA A : Nat) : Int).natAbs < pw 32 := lt_pw32 (k := 90) (by rw [Int.natAbs_natCast]; exact hD) (by omega)
                    have gs := rsign_Z _ hS
                    have gn := rneg_Z _ hS
                    have hs0 : sgn ((numA A : Nat) : Int) = 0 ↔ numA A = 0 := sgq_zero.trans (by omega)
                    have gm := (make_Z (-((numA A : Nat) : Int)) (ten t.length) (by rw [Int.natAbs_neg]; exact hS) (lt_pw32 (ten_bits (by omega)) (by omega))).2
                    rw [he] at gm
                    rw [hq] at hR
                    unfold readR at hR
                    simp only [hAe, List.length_nil] at hR
                    generalize sgn ((numA A : Nat) : Int) = sg at gs hs0
                    generalize hDD : numA A = D0 at *
                    generalize hT : ten t.length = T at *
                    generalize ((D0 : Nat) : Int) = S at *
                    refine ev_zc [.int .i64 sg] (pure_gives (gs)) ?_
                    by_cases h0 : D0 = 0
                    · have h1 := hs0.2 h0
                      refine ev_nil (way_true (by simp <;> omega) (tree_leaf ?_))
                      refine ev_nil fun β => ?_
                      rw [if_pos ⟨trivial, h0⟩] at hR
                      rw [hR, ← zero_rat]; simp [denT]
                    · have h1 : sg ≠ 0 := fun e => h0 (hs0.1 e)
                      refine ev_nil (way_false (by simp <;> omega) (tree_leaf ?_))
                      rw [if_neg (fun h => h0 h.2)] at hR
                      obtain ⟨a', b', he', ha', hb', hv⟩ := hR
                      rw [if_pos trivial, he] at he'
                      rw [← tup_agg he'] at hv
                      subst hv
                      clear he' ha' hb'
                      refine ev_zc [.bool (decide (-S < 0)), .agg (mgk 32 (-S : Int).natAbs)] (pure_gives (gn)) ?_
                      refine ev_zc [.bool (decide (T < 0)), .agg (mgk 32 (T : Int).natAbs), .bool (decide (1 < 0)), .agg (mgk 32 (1 : Int).natAbs)] (pure_gives (gp)) ?_
                      refine ev_zc [.bool (decide (a < 0)), .agg (mgk 32 (a : Int).natAbs), .bool (decide (b < 0)), .agg (mgk 32 (b : Int).natAbs), .int .i64 0] (pure_gives (gm)) ?_
                      refine ev_nil fun β => ?_
                      simp [rowCells_mgk, iv_list, rv_list, ivZ, rvZ, mgl_agg]
                · refine ev_nil (way_false (by simp [e1, e2, e3, bs_size, e4] <;> omega) (tree_leaf ?_))
                  refine ev_nil fun β => ?_
                  rw [hbad (by rw [hgo]; exact if_neg (fun h => h4 h.2.2.1)), ← zero_rat]; simp [denT]
            · have hc' : (c.toNat : Int) ≠ 46 := fun h => hc (UInt8.toNat_inj.1 (by simpa using Int.ofNat.inj h))
              refine ev_nil (way_false (by simp [e1, e2, e3, bs_size, hbc, hc'] <;> omega) (tree_leaf ?_))
              refine ev_nil fun β => ?_
              rw [hbad (by rw [hgo]; exact if_neg (fun h => hc h.1)), ← zero_rat]; simp [denT]
      · refine ev_nil (way_false (by simp <;> omega) (tree_ite ?_))
        have hok : ¬ (runD d = 0 ∨ 15 < runD d ∨ (1 < runD d ∧ byteN (bs d) 0 = 48)) := by rw [hrun]; omega
        have hgo := fun P => dp_go (P := P) hok
        rw [hrun] at hgo
        refine ev_need (by simp) ?_
        refine ev_need (by simp [e1, e2, e3, bs_size]; omega) ?_
        refine ev_need (by simp) ?_
        refine ev_need (by simp [e1, e2, e3, bs_size]; omega) ?_
        have hwl : w.length = n := by rw [hw, List.length_take]; omega
        have hwd : ∀ j, j < w.length → digB (bs w) j := by rw [hw, ← hrun]; exact take_dig d
        have hrl : r.length + n = d.length := by rw [hr, List.length_drop]; omega
        rw [← hr, ← hw] at hgo
        clear hw hr
        cases r with
        | nil =>
          refine ev_nil (way_false (by simp [e1, e2, e3, bs_size] <;> omega) (tree_ite ?_))
          have hq : docParts d P = some (w, []) := hgo P
          obtain ⟨A, hAe⟩ : ∃ A, w ++ [] = A := ⟨_, rfl⟩
          have e5 : bs w ++ bs [] = bs A := by rw [bs_cat, hAe]
          have hlen : A.length = w.length := by rw [← hAe]; simp
          have hn : w.length = n := hwl
          have hA : A.length ≤ 24 := by rw [hlen, hn]; omega
          have hd : ∀ j, j < A.length → digB (bs A) j := by rw [← hAe]; exact app_dig hwd (fun j h => absurd h (by simp))
          have hD := numA_lt hA hd
          have gp := ten_d 0 (by omega)
          refine ev_fits (A.length : Nat) (by simp [e1, e2, e3, bs_size, hn, hlen] <;> omega) (rng_i64 _ (by omega)) ?_
          refine ev_loop [.int .i64 (A.length : Nat), .bool (decide (((numA A : Nat) : Int) < 0)), .agg (mgk 32 (((numA A : Nat) : Int) : Int).natAbs)] rfl rfl (read_loop_d l d w [] A P n e1 e2 e3 e5 hA hd) ?_
          obtain ⟨a, b, he, ha, hb⟩ := mk_num hD (-((numA A : Nat) : Int)) (.inr rfl) (k := 0) (by omega)
          have hS : ((numA A : Nat) : Int).natAbs < pw 32 := lt_pw32 (k := 90) (by rw [Int.natAbs_natCast]; exact hD) (by omega)
          have gs := rsign_Z _ hS
          have gn := rneg_Z _ hS
          have hs0 : sgn ((numA A : Nat) : Int) = 0 ↔ numA A = 0 := sgq_zero.trans (by omega)
          have gm := (make_Z (-((numA A : Nat) : Int)) (ten 0) (by rw [Int.natAbs_neg]; exact hS) (lt_pw32 (ten_bits (by omega)) (by omega))).2
          rw [he] at gm
          rw [hq] at hR
          unfold readR at hR
          simp only [hAe, List.length_nil] at hR
          generalize sgn ((numA A : Nat) : Int) = sg at gs hs0
          generalize hDD : numA A = D0 at *
          generalize hT : ten 0 = T at *
          generalize ((D0 : Nat) : Int) = S at *
          refine ev_zc [.int .i64 sg] (pure_gives (gs)) ?_
          by_cases h0 : D0 = 0
          · have h1 := hs0.2 h0
            refine ev_nil (way_true (by simp <;> omega) (tree_leaf ?_))
            refine ev_nil fun β => ?_
            rw [if_pos ⟨trivial, h0⟩] at hR
            rw [hR, ← zero_rat]; simp [denT]
          · have h1 : sg ≠ 0 := fun e => h0 (hs0.1 e)
            refine ev_nil (way_false (by simp <;> omega) (tree_leaf ?_))
            rw [if_neg (fun h => h0 h.2)] at hR
            obtain ⟨a', b', he', ha', hb', hv⟩ := hR
            rw [if_pos trivial, he] at he'
            rw [← tup_agg he'] at hv
            subst hv
            clear he' ha' hb'
            refine ev_zc [.bool (decide (-S < 0)), .agg (mgk 32 (-S : Int).natAbs)] (pure_gives (gn)) ?_
            refine ev_zc [.bool (decide (T < 0)), .agg (mgk 32 (T : Int).natAbs), .bool (decide (1 < 0)), .agg (mgk 32 (1 : Int).natAbs)] (pure_gives (gp)) ?_
            refine ev_zc [.bool (decide (a < 0)), .agg (mgk 32 (a : Int).natAbs), .bool (decide (b < 0)), .agg (mgk 32 (b : Int).natAbs), .int .i64 0] (pure_gives (gm)) ?_
            refine ev_nil fun β => ?_
            simp [rowCells_mgk, iv_list, rv_list, ivZ, rvZ, mgl_agg]
        | cons c t =>
          have e4 : (bs (c :: t)).extract 1 (t.length + 1) = bs t := by rw [bs_sub]; simp
          have hbc : byteI (bs (c :: t)) 0 = (c.toNat : Int) := bs_byte (c :: t) 0
          have hgo : docParts d P = if c = 46 ∧ runD t ≠ 0 ∧ runD t = t.length ∧ (t.length : Int) ≤ P then some (w, t) else none := hgo P
          refine ev_nil (way_true (by simp [e1, e2, e3, bs_size] <;> omega) (tree_ite ?_))
          refine ev_need (by simp) ?_
          refine ev_need (by simp [e1, e2, e3, bs_size] <;> omega) ?_
          by_cases hc : c = 46
          · have hc' : (c.toNat : Int) = 46 := by rw [hc]; rfl
            refine ev_nil (way_true (by simp [e1, e2, e3, bs_size, hbc, hc'] <;> omega) (tree_ite ?_))
            refine ev_need (by simp) ?_
            refine ev_need (by simp [e1, e2, e3, bs_size] <;> omega) ?_
            have gt := run_any t (by simp at hrl; omega)
            obtain ⟨v, hv⟩ : ∃ v, v = runD t := ⟨_, rfl⟩
            rw [← hv] at gt hgo
            refine ev_call [.int .i64 (v : Nat)] rfl rfl (pure_gives gt) (fun β => by simp [e1, e2, e3, bs_size, e4, SW.den, SV.den, Cell.den, densP, Piece.den, denV]) (fun β => by simp) ?_
            by_cases h3 : v = 0
            · refine ev_nil (way_true (by simp <;> omega) (tree_leaf ?_))
              refine ev_nil fun β => ?_
              rw [hbad (by rw [hgo]; exact if_neg (fun h => h.2.1 h3)), ← zero_rat]; simp [denT]
            · refine ev_nil (way_false (by simp <;> omega) (tree_ite ?_))
              by_cases h4 : v = t.length
              · subst h4
                refine ev_nil (way_true (by simp [e1, e2, e3, bs_size, e4] <;> omega) (tree_ite ?_))
                by_cases h5 : P < (t.length : Int)
                · refine ev_nil (way_true (by simp <;> omega) (tree_leaf ?_))
                  refine ev_nil fun β => ?_
                  rw [hbad (by rw [hgo]; exact if_neg (fun h => absurd h.2.2.2 (by omega))), ← zero_rat]; simp [denT]
                · refine ev_nil (way_false (by simp <;> omega) (tree_ite ?_))
                  have hq : docParts d P = some (w, t) := by rw [hgo]; exact if_pos ⟨hc, h3, rfl, by omega⟩
                  have h4 : runD t = t.length := hv.symm
                  obtain ⟨A, hAe⟩ : ∃ A, w ++ t = A := ⟨_, rfl⟩
                  have e5 : bs w ++ bs t = bs A := by rw [bs_cat, hAe]
                  have hlen : A.length = w.length + t.length := by rw [← hAe]; simp
                  have hn : w.length = n := hwl
                  have hA : A.length ≤ 24 := by rw [hlen, hn]; omega
                  have hd : ∀ j, j < A.length → digB (bs A) j := by rw [← hAe]; exact app_dig hwd (all_dig h4)
                  have hD := numA_lt hA hd
                  have gp := ten_d t.length (by omega)
                  refine ev_fits (A.length : Nat) (by simp [e1, e2, e3, bs_size, e4, hn, hlen] <;> omega) (rng_i64 _ (by omega)) ?_
                  refine ev_loop [.int .i64 (A.length : Nat), .bool (decide (((numA A : Nat) : Int) < 0)), .agg (mgk 32 (((numA A : Nat) : Int) : Int).natAbs)] rfl rfl (read_loop_c l d w (c :: t) t A P n t.length e1 e2 e3 e4 e5 hA hd) ?_
                  obtain ⟨a, b, he, ha, hb⟩ := mk_num hD (-((numA A : Nat) : Int)) (.inr rfl) (k := t.length) (by omega)
                  have hS : ((numA A : Nat) : Int).natAbs < pw 32 := lt_pw32 (k := 90) (by rw [Int.natAbs_natCast]; exact hD) (by omega)
                  have gs := rsign_Z _ hS
                  have gn := rneg_Z _ hS
                  have hs0 : sgn ((numA A : Nat) : Int) = 0 ↔ numA A = 0 := sgq_zero.trans (by omega)
                  have gm := (make_Z (-((numA A : Nat) : Int)) (ten t.length) (by rw [Int.natAbs_neg]; exact hS) (lt_pw32 (ten_bits (by omega)) (by omega))).2
                  rw [he] at gm
                  rw [hq] at hR
                  unfold readR at hR
                  simp only [hAe, List.length_nil] at hR
                  generalize sgn ((numA A : Nat) : Int) = sg at gs hs0
                  generalize hDD : numA A = D0 at *
                  generalize hT : ten t.length = T at *
                  generalize ((D0 : Nat) : Int) = S at *
                  refine ev_zc [.int .i64 sg] (pure_gives (gs)) ?_
                  by_cases h0 : D0 = 0
                  · have h1 := hs0.2 h0
                    refine ev_nil (way_true (by simp <;> omega) (tree_leaf ?_))
                    refine ev_nil fun β => ?_
                    rw [if_pos ⟨trivial, h0⟩] at hR
                    rw [hR, ← zero_rat]; simp [denT]
                  · have h1 : sg ≠ 0 := fun e => h0 (hs0.1 e)
                    refine ev_nil (way_false (by simp <;> omega) (tree_leaf ?_))
                    rw [if_neg (fun h => h0 h.2)] at hR
                    obtain ⟨a', b', he', ha', hb', hv⟩ := hR
                    rw [if_pos trivial, he] at he'
                    rw [← tup_agg he'] at hv
                    subst hv
                    clear he' ha' hb'
                    refine ev_zc [.bool (decide (-S < 0)), .agg (mgk 32 (-S : Int).natAbs)] (pure_gives (gn)) ?_
                    refine ev_zc [.bool (decide (T < 0)), .agg (mgk 32 (T : Int).natAbs), .bool (decide (1 < 0)), .agg (mgk 32 (1 : Int).natAbs)] (pure_gives (gp)) ?_
                    refine ev_zc [.bool (decide (a < 0)), .agg (mgk 32 (a : Int).natAbs), .bool (decide (b < 0)), .agg (mgk 32 (b : Int).natAbs), .int .i64 0] (pure_gives (gm)) ?_
                    refine ev_nil fun β => ?_
                    simp [rowCells_mgk, iv_list, rv_list, ivZ, rvZ, mgl_agg]
              · refine ev_nil (way_false (by simp [e1, e2, e3, bs_size, e4] <;> omega) (tree_leaf ?_))
                refine ev_nil fun β => ?_
                rw [hbad (by rw [hgo]; exact if_neg (fun h => h4 h.2.2.1)), ← zero_rat]; simp [denT]
          · have hc' : (c.toNat : Int) ≠ 46 := fun h => hc (UInt8.toNat_inj.1 (by simpa using Int.ofNat.inj h))
            refine ev_nil (way_false (by simp [e1, e2, e3, bs_size, hbc, hc'] <;> omega) (tree_leaf ?_))
            refine ev_nil fun β => ?_
            rw [hbad (by rw [hgo]; exact if_neg (fun h => hc h.1)), ← zero_rat]; simp [denT]
set_option maxHeartbeats 64000000 in
theorem readP_main (l : List UInt8) (hl : l.length ≤ 9223372036854775807) (hl1 : 0 < l.length) (P : Int) (hP : P ≤ 9) (V : Value) (hR : readR (docParts l P) false V) (hb45 : byteI (bs l) 0 ≠ 45) :
    tyReadT.den Tryz.prog (fun ρ' ret => ∀ β, ret.val.den (env ρ') β = V) [.string (bs l), .int .i64 P] := by
  refine tree_ite ?_
  refine ev_nil (way_true (by simp [bs_size, hl1] <;> omega) (tree_ite ?_))
  refine ev_need (by simp) ?_
  refine ev_need (by simp [bs_size, hl1] <;> omega) ?_
  refine ev_nil (way_false (by simp [hb45] <;> omega) (tree_ite ?_))
  have hbad : docParts l P = none → V = .tuple #[.agg (rvZ 0 0), .bool false] := fun h => by rw [h] at hR; exact hR
  have g0 := run_any l (by omega)
  obtain ⟨n, hrun⟩ : ∃ n, runD l = n := ⟨_, rfl⟩
  have hnl : n ≤ l.length := by rw [← hrun]; exact runD_le l
  rw [hrun] at g0
  have hb0 := byteI_N (bs l) 0
  refine ev_call [.int .i64 (n : Nat)] rfl rfl (pure_gives g0) (fun β => by simp [bs_size, SW.den, SV.den, Cell.den, densP, Piece.den, denV]) (fun β => by simp) ?_
  obtain ⟨w, hw⟩ : ∃ w, w = l.take n := ⟨_, rfl⟩
  obtain ⟨r, hr⟩ : ∃ r, r = l.drop n := ⟨_, rfl⟩
  have e2 : (bs l).extract 0 n = bs w := by rw [bs_sub, hw]; simp
  have e3 : (bs l).extract n l.length = bs r := by rw [bs_sub, hr, List.take_of_length_le (by rw [List.length_drop]; omega)]
  by_cases h0 : n = 0
  · refine ev_nil (way_true (by simp <;> omega) (tree_leaf ?_))
    refine ev_nil fun β => ?_
    rw [hbad (dp_none (.inl (by omega))), ← zero_rat]; simp [denT]
  · refine ev_nil (way_false (by simp <;> omega) (tree_ite ?_))
    by_cases h1 : 15 < n
    · refine ev_nil (way_true (by simp <;> omega) (tree_leaf ?_))
      refine ev_nil fun β => ?_
      rw [hbad (dp_none (.inr (.inl (by omega)))), ← zero_rat]; simp [denT]
    · refine ev_nil (way_false (by simp <;> omega) (tree_ite ?_))
      by_cases h2 : 1 < n
      · refine ev_nil (way_true (by simp <;> omega) (tree_ite ?_))
        refine ev_need (by simp) ?_
        refine ev_need (by simp [bs_size] <;> omega) ?_
        generalize hbb : byteN (bs l) 0 = b at *
        by_cases h3 : b = 48
        · have h3' : byteI (bs l) 0 = 48 := by rw [show (0 : Int) = ((0 : Nat) : Int) from rfl, hb0, h3]; rfl
          refine ev_nil (way_true (by simp [bs_size, h3'] <;> omega) (tree_leaf ?_))
          refine ev_nil fun β => ?_
          rw [hbad (dp_none (.inr (.inr ⟨by omega, by rw [hbb]; exact h3⟩))), ← zero_rat]; simp [denT]
        · have h3' : byteI (bs l) 0 ≠ 48 := by rw [show (0 : Int) = ((0 : Nat) : Int) from rfl, hb0]; omega
          refine ev_nil (way_false (by simp [bs_size, h3'] <;> omega) (tree_ite ?_))
          have hok : ¬ (runD l = 0 ∨ 15 < runD l ∨ (1 < runD l ∧ byteN (bs l) 0 = 48)) := by rw [hrun, hbb]; omega
          have hgo := fun P => dp_go (P := P) hok
          rw [hrun] at hgo
          refine ev_need (by simp) ?_
          refine ev_need (by simp [e2, e3, bs_size]; omega) ?_
          refine ev_need (by simp) ?_
          refine ev_need (by simp [e2, e3, bs_size]; omega) ?_
          have hwl : w.length = n := by rw [hw, List.length_take]; omega
          have hwd : ∀ j, j < w.length → digB (bs w) j := by rw [hw, ← hrun]; exact take_dig l
          have hrl : r.length + n = l.length := by rw [hr, List.length_drop]; omega
          rw [← hr, ← hw] at hgo
          clear hw hr
          cases r with
          | nil =>
            refine ev_nil (way_false (by simp [e2, e3, bs_size] <;> omega) (tree_leaf ?_))
            have hq : docParts l P = some (w, []) := hgo P
            obtain ⟨A, hAe⟩ : ∃ A, w ++ [] = A := ⟨_, rfl⟩
            have e5 : bs w ++ bs [] = bs A := by rw [bs_cat, hAe]
            have hlen : A.length = w.length := by rw [← hAe]; simp
            have hn : w.length = n := hwl
            have hA : A.length ≤ 24 := by rw [hlen, hn]; omega
            have hd : ∀ j, j < A.length → digB (bs A) j := by rw [← hAe]; exact app_dig hwd (fun j h => absurd h (by simp))
            have hD := numA_lt hA hd
            have gp := ten_d 0 (by omega)
            refine ev_fits (A.length : Nat) (by simp [e2, e3, bs_size, hn, hlen] <;> omega) (rng_i64 _ (by omega)) ?_
            refine ev_loop [.int .i64 (A.length : Nat), .bool (decide (((numA A : Nat) : Int) < 0)), .agg (mgk 32 (((numA A : Nat) : Int) : Int).natAbs)] rfl rfl (read_loop_f l w [] A P n  e2 e3 e5 hA hd) ?_
            obtain ⟨a, b, he, ha, hb⟩ := mk_num hD ((numA A : Nat) : Int) (.inl rfl) (k := 0) (by omega)
            have hS : ((numA A : Nat) : Int).natAbs < pw 32 := lt_pw32 (k := 90) (by rw [Int.natAbs_natCast]; exact hD) (by omega)
            have gm := (make_Z ((numA A : Nat) : Int) (ten 0) hS (lt_pw32 (ten_bits (by omega)) (by omega))).2
            rw [he] at gm
            rw [hq] at hR
            unfold readR at hR
            simp only [hAe, List.length_nil] at hR
            rw [if_neg (fun h => by cases h.1)] at hR
            obtain ⟨a', b', he', ha', hb', hv⟩ := hR
            rw [if_neg (by simp), he] at he'
            rw [← tup_agg he'] at hv
            subst hv
            clear he' ha' hb' hbad
            generalize hDD : numA A = D0 at *
            generalize hT : ten 0 = T at *
            generalize ((D0 : Nat) : Int) = S at *
            refine ev_zc [.bool (decide (T < 0)), .agg (mgk 32 (T : Int).natAbs), .bool (decide (1 < 0)), .agg (mgk 32 (1 : Int).natAbs)] (pure_gives (gp)) ?_
            refine ev_zc [.bool (decide (a < 0)), .agg (mgk 32 (a : Int).natAbs), .bool (decide (b < 0)), .agg (mgk 32 (b : Int).natAbs), .int .i64 0] (pure_gives (gm)) ?_
            refine ev_nil fun β => ?_
            simp [rowCells_mgk, iv_list, rv_list, ivZ, rvZ, mgl_agg]
          | cons c t =>
            have e4 : (bs (c :: t)).extract 1 (t.length + 1) = bs t := by rw [bs_sub]; simp
            have hbc : byteI (bs (c :: t)) 0 = (c.toNat : Int) := bs_byte (c :: t) 0
            have hgo : docParts l P = if c = 46 ∧ runD t ≠ 0 ∧ runD t = t.length ∧ (t.length : Int) ≤ P then some (w, t) else none := hgo P
            refine ev_nil (way_true (by simp [e2, e3, bs_size] <;> omega) (tree_ite ?_))
            refine ev_need (by simp) ?_
            refine ev_need (by simp [e2, e3, bs_size] <;> omega) ?_
            by_cases hc : c = 46
            · have hc' : (c.toNat : Int) = 46 := by rw [hc]; rfl
              refine ev_nil (way_true (by simp [e2, e3, bs_size, hbc, hc'] <;> omega) (tree_ite ?_))
              refine ev_need (by simp) ?_
              refine ev_need (by simp [e2, e3, bs_size] <;> omega) ?_
              have gt := run_any t (by simp at hrl; omega)
              obtain ⟨v, hv⟩ : ∃ v, v = runD t := ⟨_, rfl⟩
              rw [← hv] at gt hgo
              refine ev_call [.int .i64 (v : Nat)] rfl rfl (pure_gives gt) (fun β => by simp [e2, e3, bs_size, e4, SW.den, SV.den, Cell.den, densP, Piece.den, denV]) (fun β => by simp) ?_
              by_cases h3 : v = 0
              · refine ev_nil (way_true (by simp <;> omega) (tree_leaf ?_))
                refine ev_nil fun β => ?_
                rw [hbad (by rw [hgo]; exact if_neg (fun h => h.2.1 h3)), ← zero_rat]; simp [denT]
              · refine ev_nil (way_false (by simp <;> omega) (tree_ite ?_))
                by_cases h4 : v = t.length
                · subst h4
                  refine ev_nil (way_true (by simp [e2, e3, bs_size, e4] <;> omega) (tree_ite ?_))
                  by_cases h5 : P < (t.length : Int)
                  · refine ev_nil (way_true (by simp <;> omega) (tree_leaf ?_))
                    refine ev_nil fun β => ?_
                    rw [hbad (by rw [hgo]; exact if_neg (fun h => absurd h.2.2.2 (by omega))), ← zero_rat]; simp [denT]
                  · refine ev_nil (way_false (by simp <;> omega) (tree_leaf ?_))
                    have hq : docParts l P = some (w, t) := by rw [hgo]; exact if_pos ⟨hc, h3, rfl, by omega⟩
                    have h4 : runD t = t.length := hv.symm
                    obtain ⟨A, hAe⟩ : ∃ A, w ++ t = A := ⟨_, rfl⟩
                    have e5 : bs w ++ bs t = bs A := by rw [bs_cat, hAe]
                    have hlen : A.length = w.length + t.length := by rw [← hAe]; simp
                    have hn : w.length = n := hwl
                    have hA : A.length ≤ 24 := by rw [hlen, hn]; omega
                    have hd : ∀ j, j < A.length → digB (bs A) j := by rw [← hAe]; exact app_dig hwd (all_dig h4)
                    have hD := numA_lt hA hd
                    have gp := ten_d t.length (by omega)
                    refine ev_fits (A.length : Nat) (by simp [e2, e3, bs_size, e4, hn, hlen] <;> omega) (rng_i64 _ (by omega)) ?_
                    refine ev_loop [.int .i64 (A.length : Nat), .bool (decide (((numA A : Nat) : Int) < 0)), .agg (mgk 32 (((numA A : Nat) : Int) : Int).natAbs)] rfl rfl (read_loop_e l w (c :: t) t A P n t.length  e2 e3 e4 e5 hA hd) ?_
                    obtain ⟨a, b, he, ha, hb⟩ := mk_num hD ((numA A : Nat) : Int) (.inl rfl) (k := t.length) (by omega)
                    have hS : ((numA A : Nat) : Int).natAbs < pw 32 := lt_pw32 (k := 90) (by rw [Int.natAbs_natCast]; exact hD) (by omega)
                    have gm := (make_Z ((numA A : Nat) : Int) (ten t.length) hS (lt_pw32 (ten_bits (by omega)) (by omega))).2
                    rw [he] at gm
                    rw [hq] at hR
                    unfold readR at hR
                    simp only [hAe, List.length_nil] at hR
                    rw [if_neg (fun h => by cases h.1)] at hR
                    obtain ⟨a', b', he', ha', hb', hv⟩ := hR
                    rw [if_neg (by simp), he] at he'
                    rw [← tup_agg he'] at hv
                    subst hv
                    clear he' ha' hb' hbad
                    generalize hDD : numA A = D0 at *
                    generalize hT : ten t.length = T at *
                    generalize ((D0 : Nat) : Int) = S at *
                    refine ev_zc [.bool (decide (T < 0)), .agg (mgk 32 (T : Int).natAbs), .bool (decide (1 < 0)), .agg (mgk 32 (1 : Int).natAbs)] (pure_gives (gp)) ?_
                    refine ev_zc [.bool (decide (a < 0)), .agg (mgk 32 (a : Int).natAbs), .bool (decide (b < 0)), .agg (mgk 32 (b : Int).natAbs), .int .i64 0] (pure_gives (gm)) ?_
                    refine ev_nil fun β => ?_
                    simp [rowCells_mgk, iv_list, rv_list, ivZ, rvZ, mgl_agg]
                · refine ev_nil (way_false (by simp [e2, e3, bs_size, e4] <;> omega) (tree_leaf ?_))
                  refine ev_nil fun β => ?_
                  rw [hbad (by rw [hgo]; exact if_neg (fun h => h4 h.2.2.1)), ← zero_rat]; simp [denT]
            · have hc' : (c.toNat : Int) ≠ 46 := fun h => hc (UInt8.toNat_inj.1 (by simpa using Int.ofNat.inj h))
              refine ev_nil (way_false (by simp [e2, e3, bs_size, hbc, hc'] <;> omega) (tree_leaf ?_))
              refine ev_nil fun β => ?_
              rw [hbad (by rw [hgo]; exact if_neg (fun h => hc h.1)), ← zero_rat]; simp [denT]
      · refine ev_nil (way_false (by simp <;> omega) (tree_ite ?_))
        have hok : ¬ (runD l = 0 ∨ 15 < runD l ∨ (1 < runD l ∧ byteN (bs l) 0 = 48)) := by rw [hrun]; omega
        have hgo := fun P => dp_go (P := P) hok
        rw [hrun] at hgo
        refine ev_need (by simp) ?_
        refine ev_need (by simp [e2, e3, bs_size]; omega) ?_
        refine ev_need (by simp) ?_
        refine ev_need (by simp [e2, e3, bs_size]; omega) ?_
        have hwl : w.length = n := by rw [hw, List.length_take]; omega
        have hwd : ∀ j, j < w.length → digB (bs w) j := by rw [hw, ← hrun]; exact take_dig l
        have hrl : r.length + n = l.length := by rw [hr, List.length_drop]; omega
        rw [← hr, ← hw] at hgo
        clear hw hr
        cases r with
        | nil =>
          refine ev_nil (way_false (by simp [e2, e3, bs_size] <;> omega) (tree_leaf ?_))
          have hq : docParts l P = some (w, []) := hgo P
          obtain ⟨A, hAe⟩ : ∃ A, w ++ [] = A := ⟨_, rfl⟩
          have e5 : bs w ++ bs [] = bs A := by rw [bs_cat, hAe]
          have hlen : A.length = w.length := by rw [← hAe]; simp
          have hn : w.length = n := hwl
          have hA : A.length ≤ 24 := by rw [hlen, hn]; omega
          have hd : ∀ j, j < A.length → digB (bs A) j := by rw [← hAe]; exact app_dig hwd (fun j h => absurd h (by simp))
          have hD := numA_lt hA hd
          have gp := ten_d 0 (by omega)
          refine ev_fits (A.length : Nat) (by simp [e2, e3, bs_size, hn, hlen] <;> omega) (rng_i64 _ (by omega)) ?_
          refine ev_loop [.int .i64 (A.length : Nat), .bool (decide (((numA A : Nat) : Int) < 0)), .agg (mgk 32 (((numA A : Nat) : Int) : Int).natAbs)] rfl rfl (read_loop_h l w [] A P n  e2 e3 e5 hA hd) ?_
          obtain ⟨a, b, he, ha, hb⟩ := mk_num hD ((numA A : Nat) : Int) (.inl rfl) (k := 0) (by omega)
          have hS : ((numA A : Nat) : Int).natAbs < pw 32 := lt_pw32 (k := 90) (by rw [Int.natAbs_natCast]; exact hD) (by omega)
          have gm := (make_Z ((numA A : Nat) : Int) (ten 0) hS (lt_pw32 (ten_bits (by omega)) (by omega))).2
          rw [he] at gm
          rw [hq] at hR
          unfold readR at hR
          simp only [hAe, List.length_nil] at hR
          rw [if_neg (fun h => by cases h.1)] at hR
          obtain ⟨a', b', he', ha', hb', hv⟩ := hR
          rw [if_neg (by simp), he] at he'
          rw [← tup_agg he'] at hv
          subst hv
          clear he' ha' hb' hbad
          generalize hDD : numA A = D0 at *
          generalize hT : ten 0 = T at *
          generalize ((D0 : Nat) : Int) = S at *
          refine ev_zc [.bool (decide (T < 0)), .agg (mgk 32 (T : Int).natAbs), .bool (decide (1 < 0)), .agg (mgk 32 (1 : Int).natAbs)] (pure_gives (gp)) ?_
          refine ev_zc [.bool (decide (a < 0)), .agg (mgk 32 (a : Int).natAbs), .bool (decide (b < 0)), .agg (mgk 32 (b : Int).natAbs), .int .i64 0] (pure_gives (gm)) ?_
          refine ev_nil fun β => ?_
          simp [rowCells_mgk, iv_list, rv_list, ivZ, rvZ, mgl_agg]
        | cons c t =>
          have e4 : (bs (c :: t)).extract 1 (t.length + 1) = bs t := by rw [bs_sub]; simp
          have hbc : byteI (bs (c :: t)) 0 = (c.toNat : Int) := bs_byte (c :: t) 0
          have hgo : docParts l P = if c = 46 ∧ runD t ≠ 0 ∧ runD t = t.length ∧ (t.length : Int) ≤ P then some (w, t) else none := hgo P
          refine ev_nil (way_true (by simp [e2, e3, bs_size] <;> omega) (tree_ite ?_))
          refine ev_need (by simp) ?_
          refine ev_need (by simp [e2, e3, bs_size] <;> omega) ?_
          by_cases hc : c = 46
          · have hc' : (c.toNat : Int) = 46 := by rw [hc]; rfl
            refine ev_nil (way_true (by simp [e2, e3, bs_size, hbc, hc'] <;> omega) (tree_ite ?_))
            refine ev_need (by simp) ?_
            refine ev_need (by simp [e2, e3, bs_size] <;> omega) ?_
            have gt := run_any t (by simp at hrl; omega)
            obtain ⟨v, hv⟩ : ∃ v, v = runD t := ⟨_, rfl⟩
            rw [← hv] at gt hgo
            refine ev_call [.int .i64 (v : Nat)] rfl rfl (pure_gives gt) (fun β => by simp [e2, e3, bs_size, e4, SW.den, SV.den, Cell.den, densP, Piece.den, denV]) (fun β => by simp) ?_
            by_cases h3 : v = 0
            · refine ev_nil (way_true (by simp <;> omega) (tree_leaf ?_))
              refine ev_nil fun β => ?_
              rw [hbad (by rw [hgo]; exact if_neg (fun h => h.2.1 h3)), ← zero_rat]; simp [denT]
            · refine ev_nil (way_false (by simp <;> omega) (tree_ite ?_))
              by_cases h4 : v = t.length
              · subst h4
                refine ev_nil (way_true (by simp [e2, e3, bs_size, e4] <;> omega) (tree_ite ?_))
                by_cases h5 : P < (t.length : Int)
                · refine ev_nil (way_true (by simp <;> omega) (tree_leaf ?_))
                  refine ev_nil fun β => ?_
                  rw [hbad (by rw [hgo]; exact if_neg (fun h => absurd h.2.2.2 (by omega))), ← zero_rat]; simp [denT]
                · refine ev_nil (way_false (by simp <;> omega) (tree_leaf ?_))
                  have hq : docParts l P = some (w, t) := by rw [hgo]; exact if_pos ⟨hc, h3, rfl, by omega⟩
                  have h4 : runD t = t.length := hv.symm
                  obtain ⟨A, hAe⟩ : ∃ A, w ++ t = A := ⟨_, rfl⟩
                  have e5 : bs w ++ bs t = bs A := by rw [bs_cat, hAe]
                  have hlen : A.length = w.length + t.length := by rw [← hAe]; simp
                  have hn : w.length = n := hwl
                  have hA : A.length ≤ 24 := by rw [hlen, hn]; omega
                  have hd : ∀ j, j < A.length → digB (bs A) j := by rw [← hAe]; exact app_dig hwd (all_dig h4)
                  have hD := numA_lt hA hd
                  have gp := ten_d t.length (by omega)
                  refine ev_fits (A.length : Nat) (by simp [e2, e3, bs_size, e4, hn, hlen] <;> omega) (rng_i64 _ (by omega)) ?_
                  refine ev_loop [.int .i64 (A.length : Nat), .bool (decide (((numA A : Nat) : Int) < 0)), .agg (mgk 32 (((numA A : Nat) : Int) : Int).natAbs)] rfl rfl (read_loop_g l w (c :: t) t A P n t.length  e2 e3 e4 e5 hA hd) ?_
                  obtain ⟨a, b, he, ha, hb⟩ := mk_num hD ((numA A : Nat) : Int) (.inl rfl) (k := t.length) (by omega)
                  have hS : ((numA A : Nat) : Int).natAbs < pw 32 := lt_pw32 (k := 90) (by rw [Int.natAbs_natCast]; exact hD) (by omega)
                  have gm := (make_Z ((numA A : Nat) : Int) (ten t.length) hS (lt_pw32 (ten_bits (by omega)) (by omega))).2
                  rw [he] at gm
                  rw [hq] at hR
                  unfold readR at hR
                  simp only [hAe, List.length_nil] at hR
                  rw [if_neg (fun h => by cases h.1)] at hR
                  obtain ⟨a', b', he', ha', hb', hv⟩ := hR
                  rw [if_neg (by simp), he] at he'
                  rw [← tup_agg he'] at hv
                  subst hv
                  clear he' ha' hb' hbad
                  generalize hDD : numA A = D0 at *
                  generalize hT : ten t.length = T at *
                  generalize ((D0 : Nat) : Int) = S at *
                  refine ev_zc [.bool (decide (T < 0)), .agg (mgk 32 (T : Int).natAbs), .bool (decide (1 < 0)), .agg (mgk 32 (1 : Int).natAbs)] (pure_gives (gp)) ?_
                  refine ev_zc [.bool (decide (a < 0)), .agg (mgk 32 (a : Int).natAbs), .bool (decide (b < 0)), .agg (mgk 32 (b : Int).natAbs), .int .i64 0] (pure_gives (gm)) ?_
                  refine ev_nil fun β => ?_
                  simp [rowCells_mgk, iv_list, rv_list, ivZ, rvZ, mgl_agg]
              · refine ev_nil (way_false (by simp [e2, e3, bs_size, e4] <;> omega) (tree_leaf ?_))
                refine ev_nil fun β => ?_
                rw [hbad (by rw [hgo]; exact if_neg (fun h => h4 h.2.2.1)), ← zero_rat]; simp [denT]
          · have hc' : (c.toNat : Int) ≠ 46 := fun h => hc (UInt8.toNat_inj.1 (by simpa using Int.ofNat.inj h))
            refine ev_nil (way_false (by simp [e2, e3, bs_size, hbc, hc'] <;> omega) (tree_leaf ?_))
            refine ev_nil fun β => ?_
            rw [hbad (by rw [hgo]; exact if_neg (fun h => hc h.1)), ← zero_rat]; simp [denT]
end Go.Proofs.YtkiefjbfepjcbaaGreatDoor
end
section
namespace Go.Proofs.YtkiefjbfepjcbaaGreatDoor
open Go.RowKit Go.Proofs.YtkiefjbfepjcbaaGreatDoor.Sx
set_option linter.unusedSimpArgs false
set_option linter.unusedVariables false
attribute [local simp] BTm.den Tm.i Tm.s Tm.den env vInt vBool vStr exI SW.den SV.den Cell.den densP Piece.den denV

theorem parts_good {d : List UInt8} {P : Nat} (hP : P ≤ 9) {w f : List UInt8} (h : docParts d P = some (w, f)) : (w ++ f).length ≤ 24 ∧ (∀ j, j < (w ++ f).length → digB (bs (w ++ f)) j) ∧ f.length ≤ 9 := by
  rw [doc_eq] at h
  by_cases hk : parseOk (cutOf d).1 (cutOf d).2.1 (cutOf d).2.2 P = true
  · rw [if_pos hk] at h
    simp only [Option.some.injEq, Prod.mk.injEq] at h
    obtain ⟨rfl, rfl⟩ := h
    obtain ⟨o1, o2, o3, o4⟩ := parts_ok hP hk (fun hn => cut_none hn)
    exact ⟨by rw [List.length_append]; omega, app_dig o3 o4, o2⟩
  · rw [if_neg hk] at h; cases h
def decO (o : Option (List UInt8 × List UInt8)) (m : Bool) : Value := match o with | some (w, f) => decV m w f | none => errV 32
theorem parseV_doc (l : List UInt8) (P : Int) : parseV l P = decO (docParts (minusOf l).1 P) (minusOf l).2 := by
  unfold parseV
  rw [doc_eq]
  split <;> rfl
theorem read_form (o : Option (List UInt8 × List UInt8)) (m : Bool) (good : ∀ w f, o = some (w, f) → (w ++ f).length ≤ 24 ∧ (∀ j, j < (w ++ f).length → digB (bs (w ++ f)) j) ∧ f.length ≤ 9) :
    ∃ (a b : Int) (ok : Bool), readR o m (.tuple #[.agg (rvZ a b), .bool ok]) ∧ a.natAbs < pw 32 ∧ b.natAbs < pw 32 ∧ decO o m = if ok = true then .tuple #[.agg (rvZ a b), .int .i64 0] else errV 32 := by
  cases o with
  | none => exact ⟨0, 0, false, rfl, pw_pos 32, pw_pos 32, (if_neg (by simp)).symm⟩
  | some p =>
    obtain ⟨w, f⟩ := p
    obtain ⟨g1, g2, g3⟩ := good w f rfl
    have hD := numA_lt g1 g2
    have hn : decN w f = numA (w ++ f) := (num_all w f).symm
    have e1 : decO (some (w, f)) m = decV m w f := rfl
    rw [e1]
    unfold readR decV
    rw [hn]
    simp only []
    generalize numA (w ++ f) = D at *
    cases m with
    | false =>
      obtain ⟨a, b, he, ha, hb⟩ := mk_num hD _ (.inl rfl) g3
      refine ⟨a, b, true, ?_, ha, hb, ?_⟩
      · rw [if_neg (fun h => by cases h.1)]
        exact ⟨a, b, by rw [if_neg (by simp)]; exact he, ha, hb, rfl⟩
      · rw [if_neg (by simp), if_pos rfl]; exact he
    | true =>
      by_cases h0 : D = 0
      · refine ⟨0, 0, false, ?_, pw_pos 32, pw_pos 32, ?_⟩
        · rw [if_pos ⟨rfl, h0⟩]
        · rw [if_pos rfl, if_pos h0, if_neg (by simp)]
      · obtain ⟨a, b, he, ha, hb⟩ := mk_num hD _ (.inr rfl) g3
        refine ⟨a, b, true, ?_, ha, hb, ?_⟩
        · rw [if_neg (fun h => h0 h.2)]
          exact ⟨a, b, by rw [if_pos rfl]; exact he, ha, hb, rfl⟩
        · rw [if_pos rfl, if_neg h0, if_pos rfl]; exact he
theorem read_f (l : List UInt8) (hl : l.length ≤ 9223372036854775807) (P : Nat) (hP : P ≤ 9) :
    ∃ (a b : Int) (ok : Bool), Gives Tryz.prog 84 #[.string (bs l), .int .i64 (P : Nat), .bool false] (.tuple #[.agg (rvZ a b), .bool ok]) ∧ a.natAbs < pw 32 ∧ b.natAbs < pw 32 ∧ decO (docParts l P) false = if ok = true then .tuple #[.agg (rvZ a b), .int .i64 0] else errV 32 := by
  obtain ⟨a, b, ok, hr, ha, hb, hv⟩ := read_form (docParts l P) false (fun w f h => parts_good hP h)
  refine ⟨a, b, ok, ?_, ha, hb, hv⟩
  have main := readF_main l hl (P : Nat) (by omega) _ hr
  have h := pure_of plain [.string (bs l), .int .i64 (P : Nat)] tyReadF_ok (by kernel_rfl) _ main
  refine gives_pure ?_
  simpa [strW, intW, denT] using h
theorem read_t (l : List UInt8) (hl : l.length ≤ 9223372036854775807) (P : Nat) (hP : P ≤ 9) :
    ∃ (a b : Int) (ok : Bool), Gives Tryz.prog 84 #[.string (bs l), .int .i64 (P : Nat), .bool true] (.tuple #[.agg (rvZ a b), .bool ok]) ∧ a.natAbs < pw 32 ∧ b.natAbs < pw 32 ∧ parseV l P = if ok = true then .tuple #[.agg (rvZ a b), .int .i64 0] else errV 32 := by
  obtain ⟨a, b, ok, hr, ha, hb, hv⟩ := read_form (docParts (minusOf l).1 P) (minusOf l).2 (fun w f h => parts_good hP h)
  refine ⟨a, b, ok, ?_, ha, hb, by rw [parseV_doc]; exact hv⟩
  obtain ⟨V, hV⟩ : ∃ V, V = Value.tuple #[.agg (rvZ a b), .bool ok] := ⟨_, rfl⟩
  rw [← hV] at hr ⊢
  have main : tyReadT.den Tryz.prog (fun ρ' ret => ∀ β, ret.val.den (env ρ') β = V) [.string (bs l), .int .i64 (P : Nat)] := by
    clear hV hv
    cases l with
    | nil =>
      have hq : docParts (minusOf ([] : List UInt8)).1 P = none := dp_none (.inl rfl)
      rw [hq] at hr
      have hr' : V = .tuple #[.agg (rvZ 0 0), .bool false] := hr
      have g0 := run_any [] (by simp)
      refine tree_ite ?_
      refine ev_nil (way_false (by simp [bs_size] <;> omega) (tree_ite ?_))
      refine ev_call [.int .i64 ((0 : Nat) : Int)] rfl rfl (pure_gives g0) (fun β => by simp) (fun β => by simp [runD, SW.den, SV.den, Cell.den, densP, Piece.den, denV]) ?_
      refine ev_nil (way_true (by simp <;> omega) (tree_leaf ?_))
      refine ev_nil fun β => ?_
      rw [hr', ← zero_rat]; simp [denT]
    | cons c t =>
      have hb : byteI (bs (c :: t)) 0 = (c.toNat : Int) := bs_byte (c :: t) 0
      by_cases hc : c = 45
      · have e : minusOf (c :: t) = (t, true) := if_pos hc
        rw [e] at hr
        exact readM_main (c :: t) t hl (by simp) (by rw [bs_sub]; simp) (P : Nat) (by omega) V hr (by rw [hb, hc]; rfl)
      · have e : minusOf (c :: t) = (c :: t, false) := if_neg hc
        rw [e] at hr
        exact readP_main (c :: t) hl (by simp) (P : Nat) (by omega) V hr (by rw [hb]; exact fun h => hc (UInt8.toNat_inj.1 (by simpa using Int.ofNat.inj h)))
  have h := pure_of plain [.string (bs l), .int .i64 (P : Nat)] tyReadT_ok (by kernel_rfl) _ main
  refine gives_pure ?_
  simpa [strW, intW, denT] using h
theorem parse_d (l : List UInt8) (hl : l.length ≤ 9223372036854775807) (P : Nat) (hP : P ≤ 9) : Gives Tryz.prog 36 #[.string (bs l), .int .i64 (P : Nat)] (parseV l P) := by
  obtain ⟨a, b, ok, g, ha, hb, hv⟩ := read_t l hl P hP
  rw [hv]
  clear hv
  have main : ∀ V, V = (if ok = true then .tuple #[.agg (rvZ a b), .int .i64 0] else errV 32) → tdParse.den Tryz.prog (fun ρ' ret => ∀ β, ret.val.den (env ρ') β = V) [.string (bs l), .int .i64 (P : Nat)] := by
    intro V hV
    refine tree_ite (ev_nil (way_false (by simp) (tree_ite (ev_nil (way_false (by simp; omega) (tree_ite ?_))))))
    refine ev_zc [.bool (decide (a < 0)), .agg (mgk 32 (a : Int).natAbs), .bool (decide (b < 0)), .agg (mgk 32 (b : Int).natAbs), .bool ok] (pure_gives (g)) ?_
    cases ok with
    | true =>
      refine ev_nil (way_true (by simp <;> omega) (tree_leaf ?_))
      refine ev_nil fun β => ?_
      rw [hV, if_pos rfl]; simp [rowCells_mgk, iv_list, rv_list, ivZ, rvZ, mgl_agg]
    | false =>
      refine ev_nil (way_false (by simp <;> omega) (tree_leaf ?_))
      refine ev_nil fun β => ?_
      rw [hV, if_neg (by simp), errV, ← zero_rat]; simp [denT]
  have h := pure_of plain [.string (bs l), .int .i64 (P : Nat)] tdParse_ok (by kernel_rfl) _ (main _ rfl)
  refine gives_pure ?_
  simpa [strW, intW, denT] using h
theorem parse_dout (l : List UInt8) (P : Int) (h : ¬ (0 ≤ P ∧ P ≤ 9)) : Gives Tryz.prog 36 #[.string (bs l), .int .i64 P] (errV 30) := by
  have main : tdParse.den Tryz.prog (fun ρ' ret => ∀ β, ret.val.den (env ρ') β = errV 30) [.string (bs l), .int .i64 P] := by
    by_cases h0 : P < 0
    · refine tree_ite (ev_nil (way_true (by simp [h0]) (tree_leaf (ev_nil fun β => ?_))))
      rw [errV, ← zero_rat]; simp [denT]
    · refine tree_ite (ev_nil (way_false (by simp; omega) (tree_ite (ev_nil (way_true (by simp; omega) (tree_leaf (ev_nil fun β => ?_)))))))
      rw [errV, ← zero_rat]; simp [denT]
  have h := pure_of plain [.string (bs l), .int .i64 P] tdParse_ok (by kernel_rfl) _ main
  refine gives_pure ?_
  simpa [strW, intW, denT] using h
theorem rf_parse (l : List UInt8) (hl : l.length ≤ 9223372036854775807) (P : Nat) (hP : P ≤ 9) : RF (parseV l P) := by
  obtain ⟨a, b, ok, g, ha, hb, hv⟩ := read_t l hl P hP
  rw [hv]
  exact rf_if ⟨_, _, _, _, _, rfl, ha, hb⟩ (rf_err _)
theorem parse_both (l : List UInt8) (hl : l.length ≤ 9223372036854775807) (P : Int) : ∃ V, RF V ∧ Gives Tryz.prog 35 #[.string (bs l), .int .i64 P] V ∧ Gives Tryz.prog 36 #[.string (bs l), .int .i64 P] V := by
  by_cases h : 0 ≤ P ∧ P ≤ 9
  · obtain ⟨k, rfl⟩ : ∃ k : Nat, P = (k : Nat) := ⟨P.toNat, by omega⟩
    exact ⟨_, rf_parse l hl k (by omega), parse_p l hl k (by omega), parse_d l hl k (by omega)⟩
  · exact ⟨_, rf_err 30, parse_out l P h, parse_dout l P h⟩
def quo100 (a b : Int) : Value := quoR (decide (a < 0)) a.natAbs (decide (b < 0)) b.natAbs (decide ((100 : Int) < 0)) (100 : Int).natAbs (decide ((1 : Int) < 0)) (1 : Int).natAbs
theorem quo100_both (a b : Int) (ha : a.natAbs < pw 32) (hb : b.natAbs < pw 32) : Gives Tryz.prog 87 #[.agg (rvZ a b), .agg (rvZ 100 1)] (quo100 a b) ∧ Gives Tryz.prog 27 #[.agg (rvZ a b), .agg (rvZ 100 1)] (quo100 a b) :=
  quo_rat _ _ _ _ _ _ _ _ ha hb (lt_pw32 (k := 8) (by decide) (by omega)) (lt_pw32 (k := 8) (by decide) (by omega))
theorem err_ok {a b : Int} {ok : Bool} (h : errV 32 = if ok = true then .tuple #[.agg (rvZ a b), .int .i64 0] else errV 32) : ok = false := by
  cases ok with
  | false => rfl
  | true =>
    rw [if_pos rfl] at h
    unfold errV at h
    generalize rvZ 0 0 = x at h
    generalize rvZ a b = y at h
    cases h
set_option maxHeartbeats 16000000 in
theorem percent_both (l : List UInt8) (hl : l.length ≤ 9223372036854775807) : ∃ V, RF V ∧ Gives Tryz.prog 37 #[.string (bs l)] V ∧ Gives Tryz.prog 38 #[.string (bs l)] V := by
  have gc := cutS_any l hl
  have hs := bs_size l
  have errP : ∀ β ρ, SW.den ρ β (.tuple [.agg [.one (.bool (.lit false)), .rep .u32 0 32, .one (.bool (.lit false)), .rep .u32 0 32], .cell (.int .i64 (.lit 32))]) = errV 32 := fun β ρ => by
    rw [errV, ← zero_rat]; simp [denT]
  rcases List.eq_nil_or_concat l with rfl | ⟨p, c, hpc⟩
  · have e0 : pctOf ([] : List UInt8) = ([], false) := by unfold pctOf; rw [if_neg (by simp)]
    rw [e0] at gc
    refine ⟨errV 32, rf_err _, ?_, ?_⟩
    · have main : tvPercent.den Tryz.prog (fun ρ' ret => ∀ β, ret.val.den (env ρ') β = errV 32) [.string (bs [])] := by
        refine tree_ite ?_
        refine ev_zc [.string (bs []), .bool false] (pure_gives (gc)) ?_
        refine ev_nil (way_false (by simp <;> omega) (tree_leaf ?_))
        exact ev_nil fun β => errP β _
      have h := pure_of plain [.string (bs [])] tvPercent_ok (by kernel_rfl) _ main
      refine gives_pure ?_
      simpa [strW, denT] using h
    · have main : tdPercent.den Tryz.prog (fun ρ' ret => ∀ β, ret.val.den (env ρ') β = errV 32) [.string (bs [])] := by
        refine tree_ite ?_
        refine ev_nil (way_true (by simp [bs_size] <;> omega) (tree_leaf ?_))
        exact ev_nil fun β => errP β _
      have h := pure_of plain [.string (bs [])] tdPercent_ok (by kernel_rfl) _ main
      refine gives_pure ?_
      simpa [strW, denT] using h
  · rw [List.concat_eq_append] at hpc
    subst hpc
    have hlen : (p ++ [c]).length = p.length + 1 := by simp
    have hb : byteI (bs (p ++ [c])) (p.length : Nat) = (c.toNat : Int) := by rw [bs_byte]; simp
    rw [hlen] at hs hl
    by_cases hc : c = 37
    · have e : pctOf (p ++ [c]) = (p, true) := by unfold pctOf; rw [if_pos (by simp [hc])]; simp
      have hc' : (c.toNat : Int) = 37 := by rw [hc]; rfl
      rw [hc'] at hb
      rw [e] at gc
      have e1 : (bs (p ++ [c])).extract 0 p.length = bs p := by rw [bs_sub]; simp
      generalize bs (p ++ [c]) = L at *
      have gh := hasP_any p
      obtain ⟨a, b, ok, gr, ha, hb2, hv⟩ := read_f p (by omega) 6 (by omega)
      obtain ⟨q1, q2⟩ := quo100_both a b ha hb2
      obtain ⟨qs, qt, qn, qm, qe, hq, hqn, hqm⟩ := rf_quo (decide (a < 0)) (decide (b < 0)) (decide ((100 : Int) < 0)) (decide ((1 : Int) < 0)) a.natAbs b.natAbs (100 : Int).natAbs (1 : Int).natAbs
      have hq' : quo100 a b = .tuple #[.agg (rv qs qn qt qm), .int .i64 qe] := hq
      rw [hq'] at q1 q2
      clear hq hq'
      have w1 := whole_p 100 (by omega)
      have w2 := whole_d 100 (by omega)
      have gp := parse_p p (by omega) 6 (by omega)
      rw [parseV_doc] at gp
      have doc : ∀ V, V = (if ok = true then .tuple #[.agg (rv qs qn qt qm), .int .i64 qe] else errV 32) → Gives Tryz.prog 38 #[.string L] V := by
        intro V hV
        have main : tdPercent.den Tryz.prog (fun ρ' ret => ∀ β, ret.val.den (env ρ') β = V) [.string L] := by
          refine tree_ite ?_
          refine ev_nil (way_false (by simp [hs] <;> omega) (tree_ite ?_))
          refine ev_fits (p.length : Nat) (by simp [hs] <;> omega) (rng_i64 _ (by omega)) ?_
          refine ev_need (by simp [hs] <;> omega) ?_
          refine ev_need (by simp [hs] <;> omega) ?_
          refine ev_nil (way_true (by simp [hs, hb] <;> omega) (tree_ite ?_))
          refine ev_fits (p.length : Nat) (by simp [hs] <;> omega) (rng_i64 _ (by omega)) ?_
          refine ev_need (by simp [hs] <;> omega) ?_
          refine ev_need (by simp [hs] <;> omega) ?_
          refine ev_call [.bool (decide (a < 0)), .agg (mgk 32 (a : Int).natAbs), .bool (decide (b < 0)), .agg (mgk 32 (b : Int).natAbs), .bool ok] rfl rfl (pure_gives gr) (fun β => by simp [hs, e1, SW.den, SV.den, Cell.den, densP, Piece.den, denV]) (fun β => by simp [rowCells_mgk, iv_list, rv_list, ivZ, rvZ, mgl_agg]) ?_
          cases ok with
          | true =>
            refine ev_nil (way_true (by simp <;> omega) (tree_leaf ?_))
            refine ev_zc [.bool (decide (100 < 0)), .agg (mgk 32 (100 : Int).natAbs), .bool (decide (1 < 0)), .agg (mgk 32 (1 : Int).natAbs)] (pure_gives (w2)) ?_
            refine ev_zc [.bool qs, .agg (mgk 32 qn), .bool qt, .agg (mgk 32 qm), .int .i64 qe] (pure_gives (q2)) ?_
            refine ev_nil fun β => ?_
            rw [hV, if_pos rfl]; simp [rowCells_mgk, iv_list, rv_list, ivZ, rvZ, mgl_agg]
          | false =>
            refine ev_nil (way_false (by simp <;> omega) (tree_leaf ?_))
            refine ev_nil fun β => ?_
            rw [hV, if_neg (by simp)]; exact errP β _
        have h := pure_of plain [.string L] tdPercent_ok (by kernel_rfl) _ main
        refine gives_pure ?_
        simpa [strW, denT] using h
      have prog : ∀ V, V = (if ok = true then .tuple #[.agg (rv qs qn qt qm), .int .i64 qe] else errV 32) → Gives Tryz.prog 37 #[.string L] V := by
        intro V hV
        have main : tvPercent.den Tryz.prog (fun ρ' ret => ∀ β, ret.val.den (env ρ') β = V) [.string L] := by
          refine tree_ite ?_
          refine ev_zc [.string (bs p), .bool true] (pure_gives (gc)) ?_
          refine ev_nil (way_true (by simp <;> omega) (tree_ite ?_))
          cases hm : (minusOf p).2 with
          | true =>
            rw [hm] at gh
            have hok : ok = false := by
              have hn : docParts p ((6 : Nat) : Int) = none := by
                cases p with
                | nil => cases hm
                | cons x t =>
                  by_cases hx : x = 45
                  · exact dp_none (.inl (by rw [hx]; rfl))
                  · rw [show minusOf (x :: t) = (x :: t, false) from if_neg hx] at hm; cases hm
              rw [hn] at hv
              exact err_ok hv
            refine ev_zc [.bool true] (pure_gives (gh)) ?_
            refine ev_nil (way_true (by simp <;> omega) (tree_leaf ?_))
            refine ev_nil fun β => ?_
            rw [hV, hok, if_neg (by simp)]; exact errP β _
          | false =>
            rw [hm] at gh gp
            have hp1 : (minusOf p).1 = p := by
              cases p with
              | nil => rfl
              | cons x t =>
                by_cases hx : x = 45
                · rw [show minusOf (x :: t) = (t, true) from if_pos hx] at hm; cases hm
                · rw [show minusOf (x :: t) = (x :: t, false) from if_neg hx]
            rw [hp1, hv] at gp
            refine ev_zc [.bool false] (pure_gives (gh)) ?_
            refine ev_nil (way_false (by simp <;> omega) (tree_ite ?_))
            cases ok with
            | true =>
              rw [if_pos rfl] at gp
              refine ev_zc [.bool (decide (a < 0)), .agg (mgk 32 (a : Int).natAbs), .bool (decide (b < 0)), .agg (mgk 32 (b : Int).natAbs), .int .i64 0] (pure_gives (gp)) ?_
              refine ev_nil (way_true (by simp <;> omega) (tree_leaf ?_))
              refine ev_zc [.bool (decide (100 < 0)), .agg (mgk 32 (100 : Int).natAbs), .bool (decide (1 < 0)), .agg (mgk 32 (1 : Int).natAbs)] (pure_gives (w1)) ?_
              refine ev_zc [.bool qs, .agg (mgk 32 qn), .bool qt, .agg (mgk 32 qm), .int .i64 qe] (pure_gives (q1)) ?_
              refine ev_nil fun β => ?_
              rw [hV, if_pos rfl]; simp [rowCells_mgk, iv_list, rv_list, ivZ, rvZ, mgl_agg]
            | false =>
              rw [if_neg (by simp)] at gp
              unfold errV at gp
              refine ev_zc [.bool (decide (0 < 0)), .agg (mgk 32 (0 : Int).natAbs), .bool (decide (0 < 0)), .agg (mgk 32 (0 : Int).natAbs), .int .i64 32] (pure_gives (gp)) ?_
              refine ev_nil (way_false (by simp <;> omega) (tree_leaf ?_))
              refine ev_nil fun β => ?_
              rw [hV, if_neg (by simp), errV, ← zero_rat]; simp [denT]
        have h := pure_of plain [.string L] tvPercent_ok (by kernel_rfl) _ main
        refine gives_pure ?_
        simpa [strW, denT] using h
      exact ⟨_, rf_if ⟨_, _, _, _, _, rfl, hqn, hqm⟩ (rf_err _), prog _ rfl, doc _ rfl⟩
    · have e : pctOf (p ++ [c]) = (p ++ [c], false) := by unfold pctOf; rw [if_neg (by simp [hc])]
      have hc' : (c.toNat : Int) ≠ 37 := fun h => hc (UInt8.toNat_inj.1 (by simpa using Int.ofNat.inj h))
      rw [e] at gc
      rw [← hb] at hc'
      refine ⟨errV 32, rf_err _, ?_, ?_⟩
      · have main : tvPercent.den Tryz.prog (fun ρ' ret => ∀ β, ret.val.den (env ρ') β = errV 32) [.string (bs (p ++ [c]))] := by
          refine tree_ite ?_
          refine ev_zc [.string (bs (p ++ [c])), .bool false] (pure_gives (gc)) ?_
          refine ev_nil (way_false (by simp <;> omega) (tree_leaf ?_))
          exact ev_nil fun β => errP β _
        have h := pure_of plain [.string (bs (p ++ [c]))] tvPercent_ok (by kernel_rfl) _ main
        refine gives_pure ?_
        simpa [strW, denT] using h
      · have main : tdPercent.den Tryz.prog (fun ρ' ret => ∀ β, ret.val.den (env ρ') β = errV 32) [.string (bs (p ++ [c]))] := by
          generalize bs (p ++ [c]) = L at *
          refine tree_ite ?_
          refine ev_nil (way_false (by simp [hs] <;> omega) (tree_ite ?_))
          refine ev_fits (p.length : Nat) (by simp [hs] <;> omega) (rng_i64 _ (by omega)) ?_
          refine ev_need (by simp [hs] <;> omega) ?_
          refine ev_need (by simp [hs] <;> omega) ?_
          refine ev_nil (way_false (by simp [hs, hc'] <;> omega) (tree_leaf ?_))
          exact ev_nil fun β => errP β _
        have h := pure_of plain [.string (bs (p ++ [c]))] tdPercent_ok (by kernel_rfl) _ main
        refine gives_pure ?_
        simpa [strW, denT] using h
set_option maxHeartbeats 4000000 in
theorem dtexts_reads [Outer] (hT : HasTab) (s : ByteArray) (P : Int) (hl : s.size ≤ 9223372036854775807) :
    Reads Tryz.prog 7 #[.string s, .int .i64 P] (.bool true) := fun w hr => by
  obtain ⟨V, ⟨sp, tp, np, mp, ep, rfl, p1, p2⟩, g1, g2⟩ := parse_both s.data.toList (by rw [Array.length_toList]; exact hl) P
  obtain ⟨U, ⟨sq, tq, nq, mq, eq, rfl, q1, q2⟩, g3, g4⟩ := percent_both s.data.toList (by rw [Array.length_toList]; exact hl)
  rw [bs_L] at g1 g2 g3 g4
  have gk := dknown_reads hT
  have main : tDTexts.den Tryz.prog (fun ρ' ret => ∀ β, ret.val.den (env ρ') β = .bool true) [.string s, .int .i64 P] := by
    refine tree_ite ?_
    refine ev_zc [.bool sp, .agg (mgk 32 np), .bool tp, .agg (mgk 32 mp), .int .i64 ep] (pure_gives (g1)) ?_
    refine ev_zc [.bool sp, .agg (mgk 32 np), .bool tp, .agg (mgk 32 mp), .int .i64 ep] (pure_gives (g2)) ?_
    refine ev_zc [.bool sq, .agg (mgk 32 nq), .bool tq, .agg (mgk 32 mq), .int .i64 eq] (pure_gives (g3)) ?_
    refine ev_zc [.bool sq, .agg (mgk 32 nq), .bool tq, .agg (mgk 32 mq), .int .i64 eq] (pure_gives (g4)) ?_
    refine ev_turn [.bool true] rfl rfl (fun β _ => Reads.ev gk rfl (by simp [denT])) ?_
    refine ev_nil (way_true (by simp) (tree_ite ?_))
    refine ev_same (true) rfl (fun β => by simp [rowCells_mgk, iv_list, rv_list, ivZ, rvZ, mgl_agg]) (fun β => by simp [rowCells_mgk, iv_list, rv_list, ivZ, rvZ, mgl_agg]) (same_r1 sp tp np mp p1 p2) ?_
    refine ev_nil (way_true (by simp) (tree_ite ?_))
    refine ev_nil (way_true (by simp) (tree_ite ?_))
    refine ev_same (true) rfl (fun β => by simp [rowCells_mgk, iv_list, rv_list, ivZ, rvZ, mgl_agg]) (fun β => by simp [rowCells_mgk, iv_list, rv_list, ivZ, rvZ, mgl_agg]) (same_r1 sq tq nq mq q1 q2) ?_
    refine ev_nil (way_true (by simp) (tree_leaf ?_))
    refine ev_nil fun β => ?_
    simp [rowCells_mgk, iv_list, rv_list, ivZ, rvZ, mgl_agg]
  have h := reads_of plain [.string s, .int .i64 P] tDTexts_ok (by kernel_rfl) _ main w hr
  simpa [strW, intW, denT] using h
end Go.Proofs.YtkiefjbfepjcbaaGreatDoor
end
