/- Digits: Atoi, isDigits, number, two digits; of both sides. -/
import Derived.Test.YteemnnajfiimlaaDoorJr
import Derived.Test.YteemnnajfiimlaaDoorJt
namespace Go.Proofs.YteemnnajfiimlaaDoor
open Go.RowKit Go.Proofs.YteemnnajfiimlaaDoor.Sx
set_option linter.unusedSimpArgs false
set_option linter.unusedVariables false

def dgb (b : UInt8) : Bool := decide (48 ≤ b.toNat) && decide (b.toNat ≤ 57)
def digL (l : List UInt8) : Bool := l.all dgb
def numF (a : Nat) (b : UInt8) : Nat := a * 10 + (b.toNat - 48)
def numL (l : List UInt8) : Nat := l.foldl numF 0
theorem dgb_iff {b : UInt8} : dgb b = true ↔ 48 ≤ b.toNat ∧ b.toNat ≤ 57 := by unfold dgb; simp
theorem decFrom_num : ∀ (l : List UInt8) (a : Nat), digL l = true → Lib.decFrom a l = some (l.foldl numF a)
  | [], a, _ => rfl
  | b :: r, a, h => by
    simp only [digL, List.all_cons, Bool.and_eq_true] at h
    have hb := dgb_iff.1 h.1
    simp only [Lib.decFrom, Lib.digitVal, if_pos hb]
    exact decFrom_num r _ h.2
theorem atoi_num {l : List UInt8} (h : digL l = true) (hl : l ≠ []) : Lib.atoi l = some ((numL l : Nat) : Int) := by
  cases l with
  | nil => exact absurd rfl hl
  | cons b r =>
    have h2 := h
    simp only [digL, List.all_cons, Bool.and_eq_true] at h2
    have hb := dgb_iff.1 h2.1
    have n1 : (b == 45) = false := by rw [beq_eq_false_iff_ne]; intro e; subst e; exact absurd hb.1 (by decide)
    have n2 : (b == 43) = false := by rw [beq_eq_false_iff_ne]; intro e; subst e; exact absurd hb.1 (by decide)
    simp only [Lib.atoi, n1, n2, Bool.false_eq_true, if_false, Lib.decNat, List.isEmpty_cons]
    rw [decFrom_num _ _ h]; rfl
theorem numL_snoc (l : List UInt8) (b : UInt8) : numL (l ++ [b]) = numL l * 10 + (b.toNat - 48) := by
  unfold numL; rw [List.foldl_append]; rfl
theorem take_snoc {l : List UInt8} {i : Nat} (h : i < l.length) : l.take (i + 1) = l.take i ++ [l.getD i 0] := by
  rw [List.take_add_one, List.getElem?_eq_getElem h, List.getD_eq_getElem?_getD, List.getElem?_eq_getElem h]; rfl
theorem numL_lt : ∀ (n : Nat) (l : List UInt8), l.length = n → digL l = true → numL l < 10 ^ n
  | 0, l, h, _ => by cases l with
    | nil => decide
    | cons => simp at h
  | n + 1, l, h, hd => by
    have e : l = l.take n ++ [l.getD n 0] := by rw [← take_snoc (by omega), List.take_of_length_le (by omega)]
    have h1 : digL (l.take n) = true := by
      unfold digL at *; rw [List.all_eq_true] at *; exact fun x hx => hd x (List.mem_of_mem_take hx)
    have h2 : dgb (l.getD n 0) = true := by
      unfold digL at hd; rw [List.all_eq_true] at hd
      refine hd _ ?_
      rw [List.getD_eq_getElem?_getD, List.getElem?_eq_getElem (by omega), Option.getD_some]
      exact List.getElem_mem _
    have h3 := numL_lt n (l.take n) (by simp; omega) h1
    have h4 := dgb_iff.1 h2
    rw [e, numL_snoc, Nat.pow_succ]
    generalize (l.getD n 0).toNat = z at *
    omega
theorem atoi_any {l : List UInt8} (h : digL l = true) (h0 : l ≠ []) (hl : l.length ≤ 18) : Gives Tryd.prog 50 #[.string (bs l)] (.tuple #[.int .i64 ((numL l : Nat) : Int), .nilIface]) := fun w =>
  (Tryd.strconv_Atoi (bs l) _ (by rw [bs_size]; exact hl) (by rw [L_bs]; exact atoi_num h h0) w).mono fun e w' ⟨he, t, hw⟩ => ⟨he, by
    subst hw
    exact ⟨rfl, rfl, rfl, by rw [Lib.bytesWorld_size]; omega, fun k hk => Lib.bytesWorld_at_old w _ t k hk⟩⟩
theorem number_p {l : List UInt8} (h : digL l = true) (h0 : l ≠ []) (hl : l.length ≤ 18) : Gives Tryd.prog 43 #[.string (bs l)] (.int .i64 ((numL l : Nat) : Int)) := by
  have main : tpNumber.den Tryd.prog (fun ρ' ret => ∀ β, ret.val.den (env ρ') β = .int .i64 ((numL l : Nat) : Int)) [.string (bs l)] := by
    refine tree_leaf ?_
    refine ev_call [.int .i64 ((numL l : Nat) : Int), .nilIface] rfl rfl (pure_gives (atoi_any h h0 hl)) (fun β => by simp [BTm.den, Tm.i, Tm.s, Tm.den, env, vInt, vBool, vStr, exI, SW.den, SV.den, Cell.den, densP, Piece.den, denV, denT]) (fun β => by simp [BTm.den, Tm.i, Tm.s, Tm.den, env, vInt, vBool, vStr, exI, SW.den, SV.den, Cell.den, densP, Piece.den, denV, denT, fix, Value.oneCell']) ?_
    refine ev_nil fun β => ?_
    simp [BTm.den, Tm.i, Tm.s, Tm.den, env, vInt, vBool, vStr, exI, SW.den, SV.den, Cell.den, densP, Piece.den, denV, denT]
  have h := pure_of plain [.string (bs l)] tpNumber_ok (by kernel_rfl) _ main
  refine gives_pure ?_
  simpa [strW, BTm.den, Tm.i, Tm.s, Tm.den, env, vInt, vBool, vStr, exI, SW.den, SV.den, Cell.den, densP, Piece.den, denV, denT] using h

/-- Where digits end. -/
theorem dig_end (l : List UInt8) : ∃ (j : Nat) (bad : Bool), digL l = (!bad) ∧ j ≤ l.length ∧ digL (l.take j) = true ∧ (bad = true → j < l.length ∧ dgb (l.getD j 0) = false) ∧ (bad = false → j = l.length) := by
  induction l with
  | nil => exact ⟨0, false, rfl, Nat.le_refl _, rfl, (fun h => by cases h), fun _ => rfl⟩
  | cons b r ih =>
    cases hb : dgb b with
    | false => exact ⟨0, true, by simp [digL, hb], by omega, rfl, fun _ => ⟨by simp, by simpa using hb⟩, (fun h => by cases h)⟩
    | true =>
      obtain ⟨j, bad, h1, h2, h3, h4, h5⟩ := ih
      refine ⟨j + 1, bad, by rw [← h1]; simp [digL, hb], by simpa using h2, by simpa [digL, hb] using h3, fun h => ?_, fun h => by simp [h5 h]⟩
      obtain ⟨a, c⟩ := h4 h
      exact ⟨by simpa using a, by simpa using c⟩
theorem dig_at {l : List UInt8} {j : Nat} (h : digL (l.take j) = true) {i : Nat} (hi : i < j) (hl : i < l.length) : dgb (l.getD i 0) = true := by
  unfold digL at h; rw [List.all_eq_true] at h
  refine h _ ?_
  rw [List.getD_eq_getElem?_getD, List.getElem?_eq_getElem hl, Option.getD_some]
  rw [List.mem_take_iff_getElem]
  exact ⟨i, by omega, rfl⟩
theorem dig_take {l : List UInt8} {j i : Nat} (h : digL (l.take j) = true) (hi : i ≤ j) : digL (l.take i) = true := by
  unfold digL at *; rw [List.all_eq_true] at *
  intro x hx
  have e : l.take i = (l.take j).take i := by rw [List.take_take, Nat.min_eq_left hi]
  rw [e] at hx
  exact h x (List.mem_of_mem_take hx)
/-- Behind a digit in front of the end. -/
theorem step_end {l : List UInt8} {j i : Nat} {bad : Bool} (h4 : bad = true → j < l.length ∧ dgb (l.getD j 0) = false) (h5 : bad = false → j = l.length) (hij : i ≤ j) (hlt : i < l.length) (hd : dgb (l.getD i 0) = true) : i + 1 ≤ j := by
  rcases Nat.lt_or_ge i j with h | h
  · omega
  · have : i = j := by omega
    subst this
    cases bad with
    | true => rw [(h4 rfl).2] at hd; cases hd
    | false => have := h5 rfl; omega
theorem stop_end {l : List UInt8} {j i : Nat} {bad : Bool} (h3 : digL (l.take j) = true) (h5 : bad = false → j = l.length) (hij : i ≤ j) (hlt : i < l.length) (hd : dgb (l.getD i 0) = false) : bad = true ∧ i = j := by
  have : i = j := by
    rcases Nat.lt_or_ge i j with h | h
    · rw [dig_at h3 h hlt] at hd; cases hd
    · omega
  subst this
  cases bad with
  | true => exact ⟨rfl, rfl⟩
  | false => have := h5 rfl; omega
theorem dgb_lo {b : UInt8} (h : (b.toNat : Int) < 48) : dgb b = false := by
  rw [Bool.eq_false_iff]; intro e; have := (dgb_iff.1 e).1; omega
theorem dgb_hi {b : UInt8} (h : 57 < (b.toNat : Int)) : dgb b = false := by
  rw [Bool.eq_false_iff]; intro e; have := (dgb_iff.1 e).2; omega
set_option maxHeartbeats 4000000 in
theorem isdig_loop (l : List UInt8) (hl : l.length ≤ 1000) (j : Nat) (bad : Bool) (h1 : j ≤ l.length) (h3 : digL (l.take j) = true) (h4 : bad = true → j < l.length ∧ dgb (l.getD j 0) = false) (h5 : bad = false → j = l.length) :
    Ev.holds Tryd.prog (env [.string (bs l), .int .i64 (j : Nat), .bool false, .bool bad]) (.loop 49 0 jtS49_0 jtH49_0 (.exit 0) (.some (3, .ret)) 3) := by
  have hs := bs_size l
  refine loop_holds plain (m := 3) (x := .exit 0) (alt := .some (3, .ret)) [.string (bs l)] [.int .i64 (j : Nat), .bool false, .bool bad] tpIsDig0_ok tpIsDig0_fine
    (fun vs => ∃ i : Nat, i ≤ j ∧ vs = [.int .i64 (i : Nat), .bool false, .bool bad])
    (fun vs => 2000 - (vInt (vs.getD 0 undef)).toNat) tpIsDig0_diff ?_ ?_
  · refine ⟨[.int .i64 (0 : Nat), .bool false, .bool bad], rfl, ⟨0, by omega, rfl⟩, ?_⟩
    simp [tpIsDig0_d, BTm.den, Tm.i, Tm.s, Tm.den, env, vInt, vBool, vStr, exI, SW.den, SV.den, Cell.den, densP, Piece.den, denV, denT]
  · rintro vs hlv ⟨i, hi, rfl⟩
    clear hlv
    have hb := bs_byte l i
    refine tree_ite (ev_nil ⟨fun hlt => tree_ite ?_, fun hlt => tree_leaf (ev_nil ?_)⟩)
    · have hlt : i < l.length := by simpa [BTm.den, Tm.i, Tm.s, Tm.den, env, vInt, vBool, vStr, exI, hs] using hlt
      refine ev_need (by simp [BTm.den, Tm.i, Tm.s, Tm.den, env, vInt, vBool, vStr, exI]) ?_
      refine ev_need (by simp [BTm.den, Tm.i, Tm.s, Tm.den, env, vInt, vBool, vStr, exI, hs, hlt]) ?_
      refine ev_nil ⟨fun h => tree_leaf (ev_nil ?_), fun h => tree_ite ?_⟩
      · have h : (((l.getD i 0).toNat : Nat) : Int) < 48 := by simpa [BTm.den, Tm.i, Tm.s, Tm.den, env, vInt, vBool, vStr, exI, hb] using h
        obtain ⟨rfl, rfl⟩ := stop_end h3 h5 hi hlt (dgb_lo h)
        refine ⟨rfl, ?_⟩
        simp [BTm.den, Tm.i, Tm.s, Tm.den, env, vInt, vBool, vStr, exI, SW.den, SV.den, Cell.den, densP, Piece.den, denV, denT]
      · have h : ¬ (((l.getD i 0).toNat : Nat) : Int) < 48 := by simpa [BTm.den, Tm.i, Tm.s, Tm.den, env, vInt, vBool, vStr, exI, hb] using h
        refine ev_need (by simp [BTm.den, Tm.i, Tm.s, Tm.den, env, vInt, vBool, vStr, exI]) ?_
        refine ev_need (by simp [BTm.den, Tm.i, Tm.s, Tm.den, env, vInt, vBool, vStr, exI, hs, hlt]) ?_
        refine ev_nil ⟨fun h' => tree_leaf (ev_nil ?_), fun h' => tree_leaf ?_⟩
        · have h' : 57 < (((l.getD i 0).toNat : Nat) : Int) := by simpa [BTm.den, Tm.i, Tm.s, Tm.den, env, vInt, vBool, vStr, exI, hb] using h'
          obtain ⟨rfl, rfl⟩ := stop_end h3 h5 hi hlt (dgb_hi h')
          refine ⟨rfl, ?_⟩
          simp [BTm.den, Tm.i, Tm.s, Tm.den, env, vInt, vBool, vStr, exI, SW.den, SV.den, Cell.den, densP, Piece.den, denV, denT]
        · have h' : ¬ 57 < (((l.getD i 0).toNat : Nat) : Int) := by simpa [BTm.den, Tm.i, Tm.s, Tm.den, env, vInt, vBool, vStr, exI, hb] using h'
          have hij := step_end h4 h5 hi hlt (dgb_iff.2 (by omega))
          refine ev_fits ((i + 1 : Nat) : Int) (by simp [BTm.den, Tm.i, Tm.s, Tm.den, env, vInt, vBool, vStr, exI]) (rng_i64 _ (by omega)) ?_
          refine ev_nil ⟨[.int .i64 (i + 1 : Nat), .bool false, .bool bad], rfl, ⟨i + 1, hij, rfl⟩, by simp [vInt]; omega, ?_⟩
          simp [BTm.den, Tm.i, Tm.s, Tm.den, env, vInt, vBool, vStr, exI, SW.den, SV.den, Cell.den, densP, Piece.den, denV, denT]
    · have hlt : ¬ i < l.length := by simpa [BTm.den, Tm.i, Tm.s, Tm.den, env, vInt, vBool, vStr, exI, hs] using hlt
      obtain rfl : i = j := by omega
      have hbad : bad = false := by
        cases hb : bad with
        | true => have := (h4 hb).1; omega
        | false => rfl
      subst hbad
      refine ⟨rfl, ?_⟩
      simp [BTm.den, Tm.i, Tm.s, Tm.den, env, vInt, vBool, vStr, exI, SW.den, SV.den, Cell.den, densP, Piece.den, denV, denT]
theorem isdig_p (l : List UInt8) (hl : l.length ≤ 1000) : Gives Tryd.prog 49 #[.string (bs l)] (.bool (digL l)) := by
  obtain ⟨j, bad, h0, h1, h3, h4, h5⟩ := dig_end l
  have main : tpIsDig.den Tryd.prog (fun ρ' ret => ∀ β, ret.val.den (env ρ') β = .bool (digL l)) [.string (bs l)] := by
    refine tree_ite ?_
    refine ev_loop [.int .i64 (j : Nat), .bool false, .bool bad] rfl rfl (isdig_loop l hl j bad h1 h3 h4 h5) ?_
    refine ev_nil ⟨fun h => tree_leaf (ev_nil fun β => ?_), fun h => tree_leaf (ev_nil fun β => ?_)⟩
    · have h : bad = true := by simpa [BTm.den, Tm.i, Tm.s, Tm.den, env, vInt, vBool, vStr, exI] using h
      rw [h0, h]; simp [BTm.den, Tm.i, Tm.s, Tm.den, env, vInt, vBool, vStr, exI, SW.den, SV.den, Cell.den, densP, Piece.den, denV, denT]
    · have h : bad = false := by simpa [BTm.den, Tm.i, Tm.s, Tm.den, env, vInt, vBool, vStr, exI] using h
      rw [h0, h]; simp [BTm.den, Tm.i, Tm.s, Tm.den, env, vInt, vBool, vStr, exI, SW.den, SV.den, Cell.den, densP, Piece.den, denV, denT]
  have h := pure_of plain [.string (bs l)] tpIsDig_ok (by kernel_rfl) _ main
  refine gives_pure ?_
  simpa [strW, BTm.den, Tm.i, Tm.s, Tm.den, env, vInt, vBool, vStr, exI, SW.den, SV.den, Cell.den, densP, Piece.den, denV, denT] using h
theorem num18 {l : List UInt8} {i : Nat} (h : digL (l.take i) = true) (hl : i ≤ 18) (h2 : i ≤ l.length) : numL (l.take i) < 1000000000000000000 := by
  have h1 := numL_lt i (l.take i) (by simp; omega) h
  have h3 : 10 ^ i ≤ 10 ^ 18 := Nat.pow_le_pow_right (by omega) hl
  have h4 : (10 : Nat) ^ 18 = 1000000000000000000 := by decide
  omega
set_option maxHeartbeats 4000000 in
theorem number_loop (l : List UInt8) (hl : l.length ≤ 17) (j : Nat) (bad : Bool) (h1 : j ≤ l.length) (h3 : digL (l.take j) = true) (h4 : bad = true → j < l.length ∧ dgb (l.getD j 0) = false) (h5 : bad = false → j = l.length) :
    Ev.holds Tryd.prog (env [.string (bs l), .int .i64 (j : Nat), .int .i64 ((numL (l.take j) : Nat) : Int), .bool bad]) (.loop 44 0 jtS44_0 jtH44_0 (.exit 0) (.some (3, .ret)) 3) := by
  have hs := bs_size l
  refine loop_holds plain (m := 3) (x := .exit 0) (alt := .some (3, .ret)) [.string (bs l)] [.int .i64 (j : Nat), .int .i64 ((numL (l.take j) : Nat) : Int), .bool bad] tdNumber0_ok tdNumber0_fine
    (fun vs => ∃ i : Nat, i ≤ j ∧ vs = [.int .i64 (i : Nat), .int .i64 ((numL (l.take i) : Nat) : Int), .bool bad])
    (fun vs => 2000 - (vInt (vs.getD 0 undef)).toNat) tdNumber0_diff ?_ ?_
  · refine ⟨[.int .i64 (0 : Nat), .int .i64 ((numL (l.take 0) : Nat) : Int), .bool bad], rfl, ⟨0, by omega, rfl⟩, ?_⟩
    simp [tdNumber0_d, BTm.den, Tm.i, Tm.s, Tm.den, env, vInt, vBool, vStr, exI, SW.den, SV.den, Cell.den, densP, Piece.den, denV, denT, numL]
  · rintro vs hlv ⟨i, hi, rfl⟩
    clear hlv
    have hb := bs_byte l i
    refine tree_ite (ev_nil ⟨fun hlt => tree_ite ?_, fun hlt => tree_leaf (ev_nil ?_)⟩)
    · have hlt : i < l.length := by simpa [BTm.den, Tm.i, Tm.s, Tm.den, env, vInt, vBool, vStr, exI, hs] using hlt
      refine ev_need (by simp [BTm.den, Tm.i, Tm.s, Tm.den, env, vInt, vBool, vStr, exI]) ?_
      refine ev_need (by simp [BTm.den, Tm.i, Tm.s, Tm.den, env, vInt, vBool, vStr, exI, hs, hlt]) ?_
      refine ev_nil ⟨fun h => tree_leaf (ev_nil ?_), fun h => tree_ite ?_⟩
      · have h : (((l.getD i 0).toNat : Nat) : Int) < 48 := by simpa [BTm.den, Tm.i, Tm.s, Tm.den, env, vInt, vBool, vStr, exI, hb] using h
        obtain ⟨rfl, rfl⟩ := stop_end h3 h5 hi hlt (dgb_lo h)
        refine ⟨rfl, ?_⟩
        simp [BTm.den, Tm.i, Tm.s, Tm.den, env, vInt, vBool, vStr, exI, SW.den, SV.den, Cell.den, densP, Piece.den, denV, denT]
      · have h : ¬ (((l.getD i 0).toNat : Nat) : Int) < 48 := by simpa [BTm.den, Tm.i, Tm.s, Tm.den, env, vInt, vBool, vStr, exI, hb] using h
        refine ev_need (by simp [BTm.den, Tm.i, Tm.s, Tm.den, env, vInt, vBool, vStr, exI]) ?_
        refine ev_need (by simp [BTm.den, Tm.i, Tm.s, Tm.den, env, vInt, vBool, vStr, exI, hs, hlt]) ?_
        refine ev_nil ⟨fun h' => tree_leaf (ev_nil ?_), fun h' => tree_leaf ?_⟩
        · have h' : 57 < (((l.getD i 0).toNat : Nat) : Int) := by simpa [BTm.den, Tm.i, Tm.s, Tm.den, env, vInt, vBool, vStr, exI, hb] using h'
          obtain ⟨rfl, rfl⟩ := stop_end h3 h5 hi hlt (dgb_hi h')
          refine ⟨rfl, ?_⟩
          simp [BTm.den, Tm.i, Tm.s, Tm.den, env, vInt, vBool, vStr, exI, SW.den, SV.den, Cell.den, densP, Piece.den, denV, denT]
        · have h' : ¬ 57 < (((l.getD i 0).toNat : Nat) : Int) := by simpa [BTm.den, Tm.i, Tm.s, Tm.den, env, vInt, vBool, vStr, exI, hb] using h'
          have hij := step_end h4 h5 hi hlt (dgb_iff.2 (by omega))
          have e := numL_snoc (l.take i) (l.getD i 0)
          rw [← take_snoc hlt] at e
          have b1 := num18 (dig_take h3 hi) (by omega) (by omega)
          have b2 := num18 (dig_take h3 hij) (by omega) (by omega)
          have wr : IntKind.u8.wrap ((((l.getD i 0).toNat : Nat) : Int) - 48) = (((l.getD i 0).toNat - 48 : Nat) : Int) := by
            rw [IntKind.wrap_u8]; have := UInt8.toNat_lt (l.getD i 0); omega
          have hlt' := hlt
          clear hlt
          obtain ⟨A, hA⟩ : ∃ A, A = numL (l.take i) := ⟨_, rfl⟩
          obtain ⟨B, hB⟩ : ∃ B, B = numL (l.take (i + 1)) := ⟨_, rfl⟩
          obtain ⟨z, hz⟩ : ∃ z, z = (l.getD i 0).toNat := ⟨_, rfl⟩
          rw [← hA] at e b1
          rw [← hB] at e b2
          rw [← hz] at hb wr e h h'
          rw [← hA]
          refine ev_fits (10 * (A : Int)) (by simp [BTm.den, Tm.i, Tm.s, Tm.den, env, vInt, vBool, vStr, exI]) (rng_i64 _ (by omega)) ?_
          refine ev_need (by simp [BTm.den, Tm.i, Tm.s, Tm.den, env, vInt, vBool, vStr, exI]) ?_
          refine ev_need (by simp [BTm.den, Tm.i, Tm.s, Tm.den, env, vInt, vBool, vStr, exI, hs, hlt']) ?_
          refine ev_fits ((z - 48 : Nat) : Int) (by simp [BTm.den, Tm.i, Tm.s, Tm.den, env, vInt, vBool, vStr, exI, ariI, hb, wr]) (rng_i64 _ (by omega)) ?_
          refine ev_fits (B : Int) (by simp [BTm.den, Tm.i, Tm.s, Tm.den, env, vInt, vBool, vStr, exI, ariI, hb, wr]; omega) (rng_i64 _ (by omega)) ?_
          refine ev_fits ((i + 1 : Nat) : Int) (by simp [BTm.den, Tm.i, Tm.s, Tm.den, env, vInt, vBool, vStr, exI]) (rng_i64 _ (by omega)) ?_
          refine ev_nil ⟨[.int .i64 (i + 1 : Nat), .int .i64 (B : Nat), .bool bad], rfl, ⟨i + 1, hij, by rw [hB]⟩, by simp [vInt]; omega, ?_⟩
          simp [BTm.den, Tm.i, Tm.s, Tm.den, env, vInt, vBool, vStr, exI, SW.den, SV.den, Cell.den, densP, Piece.den, denV, denT, ariI, hb, wr]; omega
    · have hlt : ¬ i < l.length := by simpa [BTm.den, Tm.i, Tm.s, Tm.den, env, vInt, vBool, vStr, exI, hs] using hlt
      obtain rfl : i = j := by omega
      have hbad : bad = false := by
        cases hb : bad with
        | true => have := (h4 hb).1; omega
        | false => rfl
      subst hbad
      refine ⟨rfl, ?_⟩
      simp [BTm.den, Tm.i, Tm.s, Tm.den, env, vInt, vBool, vStr, exI, SW.den, SV.den, Cell.den, densP, Piece.den, denV, denT]
def numR (l : List UInt8) : Value := if digL l = true then .tuple #[.int .i64 ((numL l : Nat) : Int), .bool true] else .tuple #[.int .i64 0, .bool false]
theorem number_d (l : List UInt8) (hl : l.length ≤ 17) : Gives Tryd.prog 44 #[.string (bs l)] (numR l) := by
  obtain ⟨j, bad, h0, h1, h3, h4, h5⟩ := dig_end l
  have main : tdNumber.den Tryd.prog (fun ρ' ret => ∀ β, ret.val.den (env ρ') β = numR l) [.string (bs l)] := by
    refine tree_ite ?_
    refine ev_loop [.int .i64 (j : Nat), .int .i64 ((numL (l.take j) : Nat) : Int), .bool bad] rfl rfl (number_loop l hl j bad h1 h3 h4 h5) ?_
    refine ev_nil ⟨fun h => tree_leaf (ev_nil fun β => ?_), fun h => tree_leaf (ev_nil fun β => ?_)⟩
    · have h : bad = true := by simpa [BTm.den, Tm.i, Tm.s, Tm.den, env, vInt, vBool, vStr, exI] using h
      unfold numR; rw [h0, h]; simp [BTm.den, Tm.i, Tm.s, Tm.den, env, vInt, vBool, vStr, exI, SW.den, SV.den, Cell.den, densP, Piece.den, denV, denT]
    · have h : bad = false := by simpa [BTm.den, Tm.i, Tm.s, Tm.den, env, vInt, vBool, vStr, exI] using h
      have hj := h5 h
      unfold numR; rw [h0, h, hj, List.take_length]; simp [BTm.den, Tm.i, Tm.s, Tm.den, env, vInt, vBool, vStr, exI, SW.den, SV.den, Cell.den, densP, Piece.den, denV, denT]
  have h := pure_of plain [.string (bs l)] tdNumber_ok (by kernel_rfl) _ main
  refine gives_pure ?_
  simpa [strW, BTm.den, Tm.i, Tm.s, Tm.den, env, vInt, vBool, vStr, exI, SW.den, SV.den, Cell.den, densP, Piece.den, denV, denT] using h
/-- Two digits of a number. -/
def dd (n : Nat) : List UInt8 := [UInt8.ofNat (48 + n / 10), UInt8.ofNat (48 + n % 10)]
theorem ten_text (k : Nat) (h : k < 10) : (ByteArray.mk #[48, 49, 50, 51, 52, 53, 54, 55, 56, 57]).extract k (k + 1) = bs [UInt8.ofNat (48 + k)] := by
  have : ∀ k : Fin 10, (ByteArray.mk #[48, 49, 50, 51, 52, 53, 54, 55, 56, 57]).extract k.val (k.val + 1) = bs [UInt8.ofNat (48 + k.val)] := by decide +kernel
  exact this ⟨k, h⟩
theorem two_d (n : Nat) (hn : n ≤ 99) : Gives Tryd.prog 47 #[.int .i64 ((n : Nat) : Int)] (.string (bs (dd n))) := by
  have e1 : ((n : Nat) : Int).tdiv 10 = ((n / 10 : Nat) : Int) := by rw [Int.tdiv_eq_ediv_of_nonneg (by omega)]; omega
  have e2 : ((n : Nat) : Int).tmod 10 = ((n % 10 : Nat) : Int) := by rw [Int.tmod_eq_emod_of_nonneg (by omega)]; omega
  have t1 := ten_text (n / 10) (by omega)
  have t2 := ten_text (n % 10) (by omega)
  have p1 : ((((n / 10 : Nat) : Int) + 1).toNat) = n / 10 + 1 := by omega
  have p2 : ((((n % 10 : Nat) : Int) + 1).toNat) = n % 10 + 1 := by omega
  have main : tdTwo.den Tryd.prog (fun ρ' ret => ∀ β, ret.val.den (env ρ') β = .string (bs (dd n))) [.int .i64 ((n : Nat) : Int)] := by
    refine tree_leaf ?_
    refine ev_fits ((n / 10 : Nat) : Int) (by simp [BTm.den, Tm.i, Tm.s, Tm.den, env, vInt, vBool, vStr, exI, e1]) (rng_i64 _ (by omega)) ?_
    refine ev_fits ((n / 10 : Nat) : Int) (by simp [BTm.den, Tm.i, Tm.s, Tm.den, env, vInt, vBool, vStr, exI, e1]) (rng_i64 _ (by omega)) ?_
    refine ev_fits ((n / 10 + 1 : Nat) : Int) (by simp [BTm.den, Tm.i, Tm.s, Tm.den, env, vInt, vBool, vStr, exI, e1]) (rng_i64 _ (by omega)) ?_
    refine ev_need (by simp [BTm.den, Tm.i, Tm.s, Tm.den, env, vInt, vBool, vStr, exI, e1]; omega) ?_
    refine ev_need (by simp [BTm.den, Tm.i, Tm.s, Tm.den, env, vInt, vBool, vStr, exI, e1]; omega) ?_
    refine ev_need (by simp [BTm.den, Tm.i, Tm.s, Tm.den, env, vInt, vBool, vStr, exI, e1]; omega) ?_
    refine ev_fits ((n % 10 : Nat) : Int) (by simp [BTm.den, Tm.i, Tm.s, Tm.den, env, vInt, vBool, vStr, exI, e2]) (rng_i64 _ (by omega)) ?_
    refine ev_fits ((n % 10 : Nat) : Int) (by simp [BTm.den, Tm.i, Tm.s, Tm.den, env, vInt, vBool, vStr, exI, e2]) (rng_i64 _ (by omega)) ?_
    refine ev_fits ((n % 10 + 1 : Nat) : Int) (by simp [BTm.den, Tm.i, Tm.s, Tm.den, env, vInt, vBool, vStr, exI, e2]) (rng_i64 _ (by omega)) ?_
    refine ev_need (by simp [BTm.den, Tm.i, Tm.s, Tm.den, env, vInt, vBool, vStr, exI, e2]; omega) ?_
    refine ev_need (by simp [BTm.den, Tm.i, Tm.s, Tm.den, env, vInt, vBool, vStr, exI, e2]; omega) ?_
    refine ev_need (by simp [BTm.den, Tm.i, Tm.s, Tm.den, env, vInt, vBool, vStr, exI, e2]; omega) ?_
    have q1 : ((n / 10 : Nat) : Int).toNat = n / 10 := by omega
    have q2 : ((n % 10 : Nat) : Int).toNat = n % 10 := by omega
    obtain ⟨D, hD⟩ : ∃ D, D = ByteArray.mk #[48, 49, 50, 51, 52, 53, 54, 55, 56, 57] := ⟨_, rfl⟩
    rw [← hD] at t1 t2 ⊢
    refine ev_fits 2 (by simp only [BTm.den, Tm.i, Tm.s, Tm.den, env, vInt, vBool, vStr, exI, List.getD_cons_zero, e1, e2, p1, p2, q1, q2, t1, t2, bs_size]; rfl) (rng_i64 _ (by omega)) ?_
    refine ev_nil fun β => ?_
    simp only [BTm.den, Tm.i, Tm.s, Tm.den, env, vInt, vBool, vStr, exI, SW.den, SV.den, Cell.den, densP, Piece.den, denV, denT, List.getD_cons_zero, e1, e2, p1, p2, q1, q2, t1, t2, bs_cat]
    rfl
  have h := pure_of plain [.int .i64 ((n : Nat) : Int)] tdTwo_ok (by kernel_rfl) _ main
  refine gives_pure ?_
  simpa [intW, BTm.den, Tm.i, Tm.s, Tm.den, env, vInt, vBool, vStr, exI, SW.den, SV.den, Cell.den, densP, Piece.den, denV, denT] using h
end Go.Proofs.YteemnnajfiimlaaDoor
