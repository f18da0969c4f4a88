/- Texts of dates: Parse and Format of both sides; the chapter's examples. -/
import Derived.Test.YteemnnajfiimlaaDoorJf
import Derived.Test.YteemnnajfiimlaaDoorJg
namespace Go.Proofs.YteemnnajfiimlaaDoor
open Go.RowKit Go.Proofs.YteemnnajfiimlaaDoor.Sx
set_option linter.unusedSimpArgs false
set_option linter.unusedVariables false

def yL (l : List UInt8) : List UInt8 := (l.drop 0).take 4
def mL (l : List UInt8) : List UInt8 := (l.drop 5).take 2
def dL (l : List UInt8) : List UInt8 := (l.drop 8).take 2
def formL (l : List UInt8) : Bool := decide (l.length = 10) && digL (yL l) && decide ((l.getD 4 0).toNat = 45) && digL (mL l) && decide ((l.getD 7 0).toNat = 45) && digL (dL l)
theorem sub_y (l : List UInt8) : (bs l).extract 0 4 = bs (yL l) := bs_sub _ _ _
theorem sub_m (l : List UInt8) : (bs l).extract 5 7 = bs (mL l) := bs_sub _ _ _
theorem sub_d {l : List UInt8} (h : l.length = 10) : (bs l).extract 8 (bs l).size = bs (dL l) := by rw [bs_sub, bs_size, h]; rfl
theorem len_y {l : List UInt8} (h : l.length = 10) : (yL l).length = 4 := by simp [yL, h]
theorem len_m {l : List UInt8} (h : l.length = 10) : (mL l).length = 2 := by simp [mL, h]
theorem len_dl {l : List UInt8} (h : l.length = 10) : (dL l).length = 2 := by simp [dL, h]
theorem nonnil {l : List UInt8} {n : Nat} (h : l.length = n) (hn : 0 < n) : l ≠ [] := by intro e; subst e; simp at h; omega
set_option maxHeartbeats 1000000 in
theorem istext_p (l : List UInt8) : Gives Tryd.prog 42 #[.string (bs l)] (.bool (formL l)) := by
  have hs := bs_size l
  have main : tpIsText.den Tryd.prog (fun ρ' ret => ∀ β, ret.val.den (env ρ') β = .bool (formL l)) [.string (bs l)] := by
    unfold formL
    refine tree_ite (ev_nil ⟨fun h => tree_ite ?_, fun h => tree_leaf (ev_nil fun β => ?_)⟩)
    · have h : l.length = 10 := by
        have : (l.length : Int) = 10 := by simpa [BTm.den, Tm.i, Tm.s, Tm.den, env, vInt, vBool, vStr, exI, hs] using h
        omega
      have sd := sub_d h
      have s1 := len_y h; have s2 := len_m h; have s3 := len_dl h
      have b4 := bs_byte l 4
      have b7 := bs_byte l 7
      rw [hs, h] at sd
      refine ev_need (by simp [BTm.den, Tm.i, Tm.s, Tm.den, env, vInt, vBool, vStr, exI]) ?_
      refine ev_need (by simp [BTm.den, Tm.i, Tm.s, Tm.den, env, vInt, vBool, vStr, exI, hs, h]) ?_
      refine ev_call [.bool (digL (yL l))] rfl rfl (pure_gives (isdig_p (yL l) (by omega))) (fun β => by simp [BTm.den, Tm.i, Tm.s, Tm.den, env, vInt, vBool, vStr, exI, SW.den, SV.den, Cell.den, densP, Piece.den, denV, denT, sub_y]) (fun β => by simp [BTm.den, Tm.i, Tm.s, Tm.den, env, vInt, vBool, vStr, exI, SW.den, SV.den, Cell.den, densP, Piece.den, denV, denT]) ?_
      refine ev_nil ⟨fun h1 => tree_ite ?_, fun h1 => tree_leaf (ev_nil fun β => ?_)⟩
      · have h1 : digL (yL l) = true := by simpa [BTm.den, Tm.i, Tm.s, Tm.den, env, vInt, vBool, vStr, exI] using h1
        refine ev_need (by simp [BTm.den, Tm.i, Tm.s, Tm.den, env, vInt, vBool, vStr, exI]) ?_
        refine ev_need (by simp [BTm.den, Tm.i, Tm.s, Tm.den, env, vInt, vBool, vStr, exI, hs, h]) ?_
        refine ev_nil ⟨fun h2 => tree_ite ?_, fun h2 => tree_leaf (ev_nil fun β => ?_)⟩
        · have h2 : (l.getD 4 0).toNat = 45 := by
            have : (((l.getD 4 0).toNat : Nat) : Int) = 45 := by rw [← b4]; simpa [BTm.den, Tm.i, Tm.s, Tm.den, env, vInt, vBool, vStr, exI] using h2
            omega
          refine ev_need (by simp [BTm.den, Tm.i, Tm.s, Tm.den, env, vInt, vBool, vStr, exI]) ?_
          refine ev_need (by simp [BTm.den, Tm.i, Tm.s, Tm.den, env, vInt, vBool, vStr, exI]) ?_
          refine ev_need (by simp [BTm.den, Tm.i, Tm.s, Tm.den, env, vInt, vBool, vStr, exI, hs, h]) ?_
          refine ev_call [.bool (digL (mL l))] rfl rfl (pure_gives (isdig_p (mL l) (by omega))) (fun β => by simp [BTm.den, Tm.i, Tm.s, Tm.den, env, vInt, vBool, vStr, exI, SW.den, SV.den, Cell.den, densP, Piece.den, denV, denT, sub_m]) (fun β => by simp [BTm.den, Tm.i, Tm.s, Tm.den, env, vInt, vBool, vStr, exI, SW.den, SV.den, Cell.den, densP, Piece.den, denV, denT]) ?_
          refine ev_nil ⟨fun h3 => tree_ite ?_, fun h3 => tree_leaf (ev_nil fun β => ?_)⟩
          · have h3 : digL (mL l) = true := by simpa [BTm.den, Tm.i, Tm.s, Tm.den, env, vInt, vBool, vStr, exI] using h3
            refine ev_need (by simp [BTm.den, Tm.i, Tm.s, Tm.den, env, vInt, vBool, vStr, exI]) ?_
            refine ev_need (by simp [BTm.den, Tm.i, Tm.s, Tm.den, env, vInt, vBool, vStr, exI, hs, h]) ?_
            refine ev_nil ⟨fun h4 => tree_leaf ?_, fun h4 => tree_leaf (ev_nil fun β => ?_)⟩
            · have h4 : (l.getD 7 0).toNat = 45 := by
                have : (((l.getD 7 0).toNat : Nat) : Int) = 45 := by rw [← b7]; simpa [BTm.den, Tm.i, Tm.s, Tm.den, env, vInt, vBool, vStr, exI] using h4
                omega
              refine ev_need (by simp [BTm.den, Tm.i, Tm.s, Tm.den, env, vInt, vBool, vStr, exI]) ?_
              refine ev_need (by simp [BTm.den, Tm.i, Tm.s, Tm.den, env, vInt, vBool, vStr, exI, hs, h]) ?_
              refine ev_call [.bool (digL (dL l))] rfl rfl (pure_gives (isdig_p (dL l) (by omega))) (fun β => by simp [BTm.den, Tm.i, Tm.s, Tm.den, env, vInt, vBool, vStr, exI, SW.den, SV.den, Cell.den, densP, Piece.den, denV, denT, hs, h, sd]) (fun β => by simp [BTm.den, Tm.i, Tm.s, Tm.den, env, vInt, vBool, vStr, exI, SW.den, SV.den, Cell.den, densP, Piece.den, denV, denT]) ?_
              refine ev_nil fun β => ?_
              simp only [h, h1, h2, h3, h4, decide_true, Bool.true_and]
              simp [BTm.den, Tm.i, Tm.s, Tm.den, env, vInt, vBool, vStr, exI, SW.den, SV.den, Cell.den, densP, Piece.den, denV, denT]
            · have h4 : ¬ (l.getD 7 0).toNat = 45 := by
                intro e
                have : byteI (bs l) 7 = 45 := by rw [show (7 : Int) = ((7 : Nat) : Int) by rfl, b7, e]; rfl
                simp [BTm.den, Tm.i, Tm.s, Tm.den, env, vInt, vBool, vStr, exI, this] at h4
              rw [decide_eq_false h4]; simp [BTm.den, Tm.i, Tm.s, Tm.den, env, vInt, vBool, vStr, exI, SW.den, SV.den, Cell.den, densP, Piece.den, denV, denT]
          · have h3 : digL (mL l) = false := by simpa [BTm.den, Tm.i, Tm.s, Tm.den, env, vInt, vBool, vStr, exI] using h3
            rw [h3]; simp [BTm.den, Tm.i, Tm.s, Tm.den, env, vInt, vBool, vStr, exI, SW.den, SV.den, Cell.den, densP, Piece.den, denV, denT]
        · have h2 : ¬ (l.getD 4 0).toNat = 45 := by
            intro e
            have : byteI (bs l) 4 = 45 := by rw [show (4 : Int) = ((4 : Nat) : Int) by rfl, b4, e]; rfl
            simp [BTm.den, Tm.i, Tm.s, Tm.den, env, vInt, vBool, vStr, exI, this] at h2
          rw [decide_eq_false h2]; simp [BTm.den, Tm.i, Tm.s, Tm.den, env, vInt, vBool, vStr, exI, SW.den, SV.den, Cell.den, densP, Piece.den, denV, denT]
      · have h1 : digL (yL l) = false := by simpa [BTm.den, Tm.i, Tm.s, Tm.den, env, vInt, vBool, vStr, exI] using h1
        rw [h1]; simp [BTm.den, Tm.i, Tm.s, Tm.den, env, vInt, vBool, vStr, exI, SW.den, SV.den, Cell.den, densP, Piece.den, denV, denT]
    · have h : ¬ l.length = 10 := by
        intro e
        simp [BTm.den, Tm.i, Tm.s, Tm.den, env, vInt, vBool, vStr, exI, hs, e] at h
      rw [decide_eq_false h]; simp [BTm.den, Tm.i, Tm.s, Tm.den, env, vInt, vBool, vStr, exI, SW.den, SV.den, Cell.den, densP, Piece.den, denV, denT]
  have h := pure_of plain [.string (bs l)] tpIsText_ok (by kernel_rfl) _ main
  refine gives_pure ?_
  simpa [strW, BTm.den, Tm.i, Tm.s, Tm.den, env, vInt, vBool, vStr, exI, SW.den, SV.den, Cell.den, densP, Piece.den, denV, denT] using h
def parseR (l : List UInt8) : Value := if formL l = true then fromR ((numL (yL l) : Nat) : Int) ((numL (mL l) : Nat) : Int) ((numL (dL l) : Nat) : Int) else err2 52
theorem formL_mk {l : List UInt8} (h : formL l = true) : l.length = 10 ∧ digL (yL l) = true ∧ (l.getD 4 0).toNat = 45 ∧ digL (mL l) = true ∧ (l.getD 7 0).toNat = 45 ∧ digL (dL l) = true := by
  unfold formL at h
  simpa [Bool.and_eq_true, and_assoc] using h
theorem fromR_form (y m d : Int) : ∃ a b, fromR y m d = .tuple #[.int .i64 a, .int .i64 b] := by
  unfold fromR; split <;> exact ⟨_, _, rfl⟩
theorem parse_p (l : List UInt8) : Gives Tryd.prog 29 #[.string (bs l)] (parseR l) := by
  have hs := bs_size l
  have main : tpParse.den Tryd.prog (fun ρ' ret => ∀ β, ret.val.den (env ρ') β = parseR l) [.string (bs l)] := by
    unfold parseR
    refine tree_ite ?_
    refine ev_call [.bool (formL l)] rfl rfl (pure_gives (istext_p l)) (fun β => by simp [BTm.den, Tm.i, Tm.s, Tm.den, env, vInt, vBool, vStr, exI, SW.den, SV.den, Cell.den, densP, Piece.den, denV, denT]) (fun β => by simp [BTm.den, Tm.i, Tm.s, Tm.den, env, vInt, vBool, vStr, exI, SW.den, SV.den, Cell.den, densP, Piece.den, denV, denT]) ?_
    refine ev_nil ⟨fun h => tree_leaf ?_, fun h => tree_leaf (ev_nil fun β => ?_)⟩
    · have h : formL l = true := by simpa [BTm.den, Tm.i, Tm.s, Tm.den, env, vInt, vBool, vStr, exI] using h
      obtain ⟨h0, h1, h2, h3, h4, h5⟩ := formL_mk h
      have sd := sub_d h0
      have s1 := len_y h0; have s2 := len_m h0; have s3 := len_dl h0
      rw [hs, h0] at sd
      rw [if_pos h]
      have gf := from_p ((numL (yL l) : Nat) : Int) ((numL (mL l) : Nat) : Int) ((numL (dL l) : Nat) : Int)
      obtain ⟨a, b, e⟩ := fromR_form ((numL (yL l) : Nat) : Int) ((numL (mL l) : Nat) : Int) ((numL (dL l) : Nat) : Int)
      rw [e] at gf ⊢
      refine ev_need (by simp [BTm.den, Tm.i, Tm.s, Tm.den, env, vInt, vBool, vStr, exI]) ?_
      refine ev_need (by simp [BTm.den, Tm.i, Tm.s, Tm.den, env, vInt, vBool, vStr, exI, hs, h0]) ?_
      refine ev_call [.int .i64 ((numL (yL l) : Nat) : Int)] rfl rfl (pure_gives (number_p h1 (nonnil s1 (by omega)) (by omega))) (fun β => by simp [BTm.den, Tm.i, Tm.s, Tm.den, env, vInt, vBool, vStr, exI, SW.den, SV.den, Cell.den, densP, Piece.den, denV, denT, sub_y]) (fun β => by simp [BTm.den, Tm.i, Tm.s, Tm.den, env, vInt, vBool, vStr, exI, SW.den, SV.den, Cell.den, densP, Piece.den, denV, denT]) ?_
      refine ev_need (by simp [BTm.den, Tm.i, Tm.s, Tm.den, env, vInt, vBool, vStr, exI]) ?_
      refine ev_need (by simp [BTm.den, Tm.i, Tm.s, Tm.den, env, vInt, vBool, vStr, exI]) ?_
      refine ev_need (by simp [BTm.den, Tm.i, Tm.s, Tm.den, env, vInt, vBool, vStr, exI, hs, h0]) ?_
      refine ev_call [.int .i64 ((numL (mL l) : Nat) : Int)] rfl rfl (pure_gives (number_p h3 (nonnil s2 (by omega)) (by omega))) (fun β => by simp [BTm.den, Tm.i, Tm.s, Tm.den, env, vInt, vBool, vStr, exI, SW.den, SV.den, Cell.den, densP, Piece.den, denV, denT, sub_m]) (fun β => by simp [BTm.den, Tm.i, Tm.s, Tm.den, env, vInt, vBool, vStr, exI, SW.den, SV.den, Cell.den, densP, Piece.den, denV, denT]) ?_
      refine ev_need (by simp [BTm.den, Tm.i, Tm.s, Tm.den, env, vInt, vBool, vStr, exI]) ?_
      refine ev_need (by simp [BTm.den, Tm.i, Tm.s, Tm.den, env, vInt, vBool, vStr, exI, hs, h0]) ?_
      refine ev_call [.int .i64 ((numL (dL l) : Nat) : Int)] rfl rfl (pure_gives (number_p h5 (nonnil s3 (by omega)) (by omega))) (fun β => by simp [BTm.den, Tm.i, Tm.s, Tm.den, env, vInt, vBool, vStr, exI, SW.den, SV.den, Cell.den, densP, Piece.den, denV, denT, hs, h0, sd]) (fun β => by simp [BTm.den, Tm.i, Tm.s, Tm.den, env, vInt, vBool, vStr, exI, SW.den, SV.den, Cell.den, densP, Piece.den, denV, denT]) ?_
      refine ev_call [.int .i64 a, .int .i64 b] rfl rfl (pure_gives gf) (fun β => by simp [BTm.den, Tm.i, Tm.s, Tm.den, env, vInt, vBool, vStr, exI, SW.den, SV.den, Cell.den, densP, Piece.den, denV, denT]) (fun β => by simp [BTm.den, Tm.i, Tm.s, Tm.den, env, vInt, vBool, vStr, exI, SW.den, SV.den, Cell.den, densP, Piece.den, denV, denT]) ?_
      refine ev_nil fun β => ?_
      simp [BTm.den, Tm.i, Tm.s, Tm.den, env, vInt, vBool, vStr, exI, SW.den, SV.den, Cell.den, densP, Piece.den, denV, denT]
    · have h : formL l = false := by simpa [BTm.den, Tm.i, Tm.s, Tm.den, env, vInt, vBool, vStr, exI] using h
      rw [h]; simp [BTm.den, Tm.i, Tm.s, Tm.den, env, vInt, vBool, vStr, exI, SW.den, SV.den, Cell.den, densP, Piece.den, denV, denT, err2]
  have h := pure_of plain [.string (bs l)] tpParse_ok (by kernel_rfl) _ main
  refine gives_pure ?_
  simpa [strW, BTm.den, Tm.i, Tm.s, Tm.den, env, vInt, vBool, vStr, exI, SW.den, SV.den, Cell.den, densP, Piece.den, denV, denT] using h
theorem numR_pos {l : List UInt8} (h : digL l = true) : numR l = .tuple #[.int .i64 ((numL l : Nat) : Int), .bool true] := by unfold numR; rw [if_pos h]
theorem numR_neg {l : List UInt8} (h : digL l = false) : numR l = .tuple #[.int .i64 0, .bool false] := by unfold numR; rw [if_neg (by simp [h])]
theorem numR_form (l : List UInt8) : ∃ a, numR l = .tuple #[.int .i64 a, .bool (digL l)] ∧ (digL l = true → a = ((numL l : Nat) : Int)) := by
  cases h : digL l with
  | true => exact ⟨_, numR_pos h, fun _ => rfl⟩
  | false => exact ⟨_, numR_neg h, fun h => by cases h⟩
set_option maxHeartbeats 1000000 in
theorem parse_d (l : List UInt8) : Gives Tryd.prog 30 #[.string (bs l)] (parseR l) := by
  have hs := bs_size l
  have main : tdParse.den Tryd.prog (fun ρ' ret => ∀ β, ret.val.den (env ρ') β = parseR l) [.string (bs l)] := by
    unfold parseR
    have no : (l.length ≠ 10 ∨ (l.getD 4 0).toNat ≠ 45 ∨ (l.getD 7 0).toNat ≠ 45 ∨ digL (yL l) = false ∨ digL (mL l) = false ∨ digL (dL l) = false) → formL l = false := fun h => by
      rw [Bool.eq_false_iff]; intro e
      obtain ⟨h0, h1, h2, h3, h4, h5⟩ := formL_mk e
      rcases h with h | h | h | h | h | h <;> simp_all
    refine tree_ite (ev_nil ⟨fun h => tree_ite ?_, fun h => tree_leaf (ev_nil fun β => ?_)⟩)
    · have h : l.length = 10 := by
        have : (l.length : Int) = 10 := by simpa [BTm.den, Tm.i, Tm.s, Tm.den, env, vInt, vBool, vStr, exI, hs] using h
        omega
      have sd := sub_d h
      have s1 := len_y h; have s2 := len_m h; have s3 := len_dl h
      have b4 := bs_byte l 4
      have b7 := bs_byte l 7
      rw [hs, h] at sd
      refine ev_need (by simp [BTm.den, Tm.i, Tm.s, Tm.den, env, vInt, vBool, vStr, exI]) ?_
      refine ev_need (by simp [BTm.den, Tm.i, Tm.s, Tm.den, env, vInt, vBool, vStr, exI, hs, h]) ?_
      refine ev_nil ⟨fun h2 => tree_ite ?_, fun h2 => tree_leaf (ev_nil fun β => ?_)⟩
      · have h2 : (l.getD 4 0).toNat = 45 := by
          have : (((l.getD 4 0).toNat : Nat) : Int) = 45 := by rw [← b4]; simpa [BTm.den, Tm.i, Tm.s, Tm.den, env, vInt, vBool, vStr, exI] using h2
          omega
        refine ev_need (by simp [BTm.den, Tm.i, Tm.s, Tm.den, env, vInt, vBool, vStr, exI]) ?_
        refine ev_need (by simp [BTm.den, Tm.i, Tm.s, Tm.den, env, vInt, vBool, vStr, exI, hs, h]) ?_
        refine ev_nil ⟨fun h4 => tree_ite ?_, fun h4 => tree_leaf (ev_nil fun β => ?_)⟩
        · have h4 : (l.getD 7 0).toNat = 45 := by
            have : (((l.getD 7 0).toNat : Nat) : Int) = 45 := by rw [← b7]; simpa [BTm.den, Tm.i, Tm.s, Tm.den, env, vInt, vBool, vStr, exI] using h4
            omega
          obtain ⟨ya, ey, hy⟩ := numR_form (yL l)
          obtain ⟨ma, em, hm⟩ := numR_form (mL l)
          obtain ⟨da, ed, hd⟩ := numR_form (dL l)
          have gy := number_d (yL l) (by omega)
          have gm := number_d (mL l) (by omega)
          have gd := number_d (dL l) (by omega)
          rw [ey] at gy; rw [em] at gm; rw [ed] at gd
          refine ev_need (by simp [BTm.den, Tm.i, Tm.s, Tm.den, env, vInt, vBool, vStr, exI]) ?_
          refine ev_need (by simp [BTm.den, Tm.i, Tm.s, Tm.den, env, vInt, vBool, vStr, exI, hs, h]) ?_
          refine ev_call [.int .i64 ya, .bool (digL (yL l))] rfl rfl (pure_gives gy) (fun β => by simp [BTm.den, Tm.i, Tm.s, Tm.den, env, vInt, vBool, vStr, exI, SW.den, SV.den, Cell.den, densP, Piece.den, denV, denT, sub_y]) (fun β => by simp [BTm.den, Tm.i, Tm.s, Tm.den, env, vInt, vBool, vStr, exI, SW.den, SV.den, Cell.den, densP, Piece.den, denV, denT]) ?_
          refine ev_need (by simp [BTm.den, Tm.i, Tm.s, Tm.den, env, vInt, vBool, vStr, exI]) ?_
          refine ev_need (by simp [BTm.den, Tm.i, Tm.s, Tm.den, env, vInt, vBool, vStr, exI]) ?_
          refine ev_need (by simp [BTm.den, Tm.i, Tm.s, Tm.den, env, vInt, vBool, vStr, exI, hs, h]) ?_
          refine ev_call [.int .i64 ma, .bool (digL (mL l))] rfl rfl (pure_gives gm) (fun β => by simp [BTm.den, Tm.i, Tm.s, Tm.den, env, vInt, vBool, vStr, exI, SW.den, SV.den, Cell.den, densP, Piece.den, denV, denT, sub_m]) (fun β => by simp [BTm.den, Tm.i, Tm.s, Tm.den, env, vInt, vBool, vStr, exI, SW.den, SV.den, Cell.den, densP, Piece.den, denV, denT]) ?_
          refine ev_need (by simp [BTm.den, Tm.i, Tm.s, Tm.den, env, vInt, vBool, vStr, exI]) ?_
          refine ev_need (by simp [BTm.den, Tm.i, Tm.s, Tm.den, env, vInt, vBool, vStr, exI, hs, h]) ?_
          refine ev_call [.int .i64 da, .bool (digL (dL l))] rfl rfl (pure_gives gd) (fun β => by simp [BTm.den, Tm.i, Tm.s, Tm.den, env, vInt, vBool, vStr, exI, SW.den, SV.den, Cell.den, densP, Piece.den, denV, denT, hs, h, sd]) (fun β => by simp [BTm.den, Tm.i, Tm.s, Tm.den, env, vInt, vBool, vStr, exI, SW.den, SV.den, Cell.den, densP, Piece.den, denV, denT]) ?_
          refine ev_nil ⟨fun k1 => tree_ite (ev_nil ⟨fun k2 => tree_ite (ev_nil ⟨fun k3 => tree_leaf ?_, fun k3 => tree_leaf (ev_nil fun β => ?_)⟩), fun k2 => tree_leaf (ev_nil fun β => ?_)⟩), fun k1 => tree_leaf (ev_nil fun β => ?_)⟩
          · have k1 : digL (yL l) = true := by simpa [BTm.den, Tm.i, Tm.s, Tm.den, env, vInt, vBool, vStr, exI] using k1
            have k2 : digL (mL l) = true := by simpa [BTm.den, Tm.i, Tm.s, Tm.den, env, vInt, vBool, vStr, exI] using k2
            have k3 : digL (dL l) = true := by simpa [BTm.den, Tm.i, Tm.s, Tm.den, env, vInt, vBool, vStr, exI] using k3
            have hf : formL l = true := by simp only [formL, h, h2, h4, k1, k2, k3, decide_true, Bool.and_self]
            rw [if_pos hf, ← hy k1, ← hm k2, ← hd k3]
            have gf := from_d ya ma da
            obtain ⟨a, b, e⟩ := fromR_form ya ma da
            rw [e] at gf ⊢
            refine ev_call [.int .i64 a, .int .i64 b] rfl rfl (pure_gives gf) (fun β => by simp [BTm.den, Tm.i, Tm.s, Tm.den, env, vInt, vBool, vStr, exI, SW.den, SV.den, Cell.den, densP, Piece.den, denV, denT]) (fun β => by simp [BTm.den, Tm.i, Tm.s, Tm.den, env, vInt, vBool, vStr, exI, SW.den, SV.den, Cell.den, densP, Piece.den, denV, denT]) ?_
            refine ev_nil fun β => ?_
            simp [BTm.den, Tm.i, Tm.s, Tm.den, env, vInt, vBool, vStr, exI, SW.den, SV.den, Cell.den, densP, Piece.den, denV, denT]
          · have k3 : digL (dL l) = false := by simpa [BTm.den, Tm.i, Tm.s, Tm.den, env, vInt, vBool, vStr, exI] using k3
            rw [no (by simp [k3])]; simp [BTm.den, Tm.i, Tm.s, Tm.den, env, vInt, vBool, vStr, exI, SW.den, SV.den, Cell.den, densP, Piece.den, denV, denT, err2]
          · have k2 : digL (mL l) = false := by simpa [BTm.den, Tm.i, Tm.s, Tm.den, env, vInt, vBool, vStr, exI] using k2
            rw [no (by simp [k2])]; simp [BTm.den, Tm.i, Tm.s, Tm.den, env, vInt, vBool, vStr, exI, SW.den, SV.den, Cell.den, densP, Piece.den, denV, denT, err2]
          · have k1 : digL (yL l) = false := by simpa [BTm.den, Tm.i, Tm.s, Tm.den, env, vInt, vBool, vStr, exI] using k1
            rw [no (by simp [k1])]; simp [BTm.den, Tm.i, Tm.s, Tm.den, env, vInt, vBool, vStr, exI, SW.den, SV.den, Cell.den, densP, Piece.den, denV, denT, err2]
        · have h4 : ¬ (l.getD 7 0).toNat = 45 := by
            intro e
            have : byteI (bs l) 7 = 45 := by rw [show (7 : Int) = ((7 : Nat) : Int) by rfl, b7, e]; rfl
            simp [BTm.den, Tm.i, Tm.s, Tm.den, env, vInt, vBool, vStr, exI, this] at h4
          rw [no (.inr (.inr (.inl h4)))]; simp [BTm.den, Tm.i, Tm.s, Tm.den, env, vInt, vBool, vStr, exI, SW.den, SV.den, Cell.den, densP, Piece.den, denV, denT, err2]
      · have h2 : ¬ (l.getD 4 0).toNat = 45 := by
          intro e
          have : byteI (bs l) 4 = 45 := by rw [show (4 : Int) = ((4 : Nat) : Int) by rfl, b4, e]; rfl
          simp [BTm.den, Tm.i, Tm.s, Tm.den, env, vInt, vBool, vStr, exI, this] at h2
        rw [no (.inr (.inl h2))]; simp [BTm.den, Tm.i, Tm.s, Tm.den, env, vInt, vBool, vStr, exI, SW.den, SV.den, Cell.den, densP, Piece.den, denV, denT, err2]
    · have h : ¬ l.length = 10 := by
        intro e
        simp [BTm.den, Tm.i, Tm.s, Tm.den, env, vInt, vBool, vStr, exI, hs, e] at h
      rw [no (.inl h)]; simp [BTm.den, Tm.i, Tm.s, Tm.den, env, vInt, vBool, vStr, exI, SW.den, SV.den, Cell.den, densP, Piece.den, denV, denT, err2]
  have h := pure_of plain [.string (bs l)] tdParse_ok (by kernel_rfl) _ main
  refine gives_pure ?_
  simpa [strW, BTm.den, Tm.i, Tm.s, Tm.den, env, vInt, vBool, vStr, exI, SW.den, SV.den, Cell.den, densP, Piece.den, denV, denT] using h

/-! ### The text of a day -/
theorem dec_one {u : Nat} (h : u < 10) : Lib.decDigits u = [UInt8.ofNat (48 + u)] := by rw [Lib.decDigits, dif_pos h]
theorem dec_more {u : Nat} (h : ¬ u < 10) : Lib.decDigits u = Lib.decDigits (u / 10) ++ [UInt8.ofNat (48 + u % 10)] := by rw [Lib.decDigits, dif_neg h]
theorem dec_hundred {n : Nat} (h : n < 100) : Lib.decDigits (100 + n) = 49 :: dd n := by
  rw [dec_more (by omega), dec_more (by omega), dec_one (by omega)]
  have e1 : (100 + n) / 10 / 10 = 1 := by omega
  have e2 : (100 + n) / 10 % 10 = n / 10 := by omega
  have e3 : (100 + n) % 10 = n % 10 := by omega
  rw [e1, e2, e3]; rfl
theorem dec_year {n : Nat} (h1 : 1000 ≤ n) (h2 : n < 10000) : Lib.decDigits n = dd (n / 100) ++ dd (n % 100) := by
  rw [dec_more (by omega), dec_more (by omega), dec_more (by omega), dec_one (by omega)]
  have e1 : n / 10 / 10 / 10 = n / 100 / 10 := by omega
  have e2 : n / 10 / 10 % 10 = n / 100 % 10 := by omega
  have e3 : n / 10 % 10 = n % 100 / 10 := by omega
  have e4 : n % 10 = n % 100 % 10 := by omega
  rw [e1, e2, e3, e4]; rfl
def textL (y m d : Nat) : List UInt8 := dd (y / 100) ++ dd (y % 100) ++ [45] ++ dd m ++ [45] ++ dd d
def textR (y m d : Int) : Value := .tuple #[.string (bs (textL y.toNat m.toNat d.toNat)), .int .i64 0]
def textErr : Value := .tuple #[.string (bs []), .int .i64 50]
theorem format_out_p [Outer] (n : Int) (h : n < 0 ∨ 73048 < n) : Reads Tryd.prog 31 #[.int .i64 n] textErr := fun w hr => by
  have g := civil_out_p n h
  have main : tpFormat.den Tryd.prog (fun ρ' ret => ∀ β, ret.val.den (env ρ') β = textErr) [.int .i64 n] := by
    refine tree_ite ?_
    refine ev_call [.int .i64 0, .int .i64 0, .int .i64 0, .int .i64 50] rfl rfl (pure_gives g) (fun β => by simp [BTm.den, Tm.i, Tm.s, Tm.den, env, vInt, vBool, vStr, exI, SW.den, SV.den, Cell.den, densP, Piece.den, denV, denT]) (fun β => by simp [BTm.den, Tm.i, Tm.s, Tm.den, env, vInt, vBool, vStr, exI, SW.den, SV.den, Cell.den, densP, Piece.den, denV, denT, civilErr]) ?_
    refine ev_nil (way_false (by simp [BTm.den, Tm.i, Tm.s, Tm.den, env, vInt, vBool, vStr, exI]) (tree_leaf (ev_nil fun β => ?_)))
    simp [BTm.den, Tm.i, Tm.s, Tm.den, env, vInt, vBool, vStr, exI, SW.den, SV.den, Cell.den, densP, Piece.den, denV, denT, textErr]; rfl
  have h := reads_of plain [.int .i64 n] tpFormat_ok (by kernel_rfl) _ main w hr
  simpa [intW, BTm.den, Tm.i, Tm.s, Tm.den, env, vInt, vBool, vStr, exI, SW.den, SV.den, Cell.den, densP, Piece.den, denV, denT] using h
theorem format_out_d (n : Int) (h : n < 0 ∨ 73048 < n) : Gives Tryd.prog 32 #[.int .i64 n] textErr := by
  have g := civil_out_d n h
  have main : tdFormat.den Tryd.prog (fun ρ' ret => ∀ β, ret.val.den (env ρ') β = textErr) [.int .i64 n] := by
    refine tree_ite ?_
    refine ev_call [.int .i64 0, .int .i64 0, .int .i64 0, .int .i64 50] rfl rfl (pure_gives g) (fun β => by simp [BTm.den, Tm.i, Tm.s, Tm.den, env, vInt, vBool, vStr, exI, SW.den, SV.den, Cell.den, densP, Piece.den, denV, denT]) (fun β => by simp [BTm.den, Tm.i, Tm.s, Tm.den, env, vInt, vBool, vStr, exI, SW.den, SV.den, Cell.den, densP, Piece.den, denV, denT, civilErr]) ?_
    refine ev_nil (way_false (by simp [BTm.den, Tm.i, Tm.s, Tm.den, env, vInt, vBool, vStr, exI]) (tree_leaf (ev_nil fun β => ?_)))
    simp [BTm.den, Tm.i, Tm.s, Tm.den, env, vInt, vBool, vStr, exI, SW.den, SV.den, Cell.den, densP, Piece.den, denV, denT, textErr]; rfl
  have h := pure_of plain [.int .i64 n] tdFormat_ok (by kernel_rfl) _ main
  refine gives_pure ?_
  simpa [intW, BTm.den, Tm.i, Tm.s, Tm.den, env, vInt, vBool, vStr, exI, SW.den, SV.den, Cell.den, densP, Piece.den, denV, denT] using h
theorem itoa_pos {n : Nat} : Lib.itoa ((n : Nat) : Int) = Lib.decDigits n := by unfold Lib.itoa; rw [if_neg (by omega), Int.toNat_natCast]
set_option maxHeartbeats 1000000 in
theorem format_p [Outer] (hT : HasTab) {n y m d : Int} (h : IsCivil n y m d) : Reads Tryd.prog 31 #[.int .i64 n] (textR y m d) := fun w hr => by
  have g := civil_p h
  have y1 := h.y1; have y2 := h.y2; have m1 := h.m1; have m2 := h.m2; have d1 := h.d1; have d2 := h.d2
  have b := ml_ge (leapI y) m1 m2
  obtain ⟨Y, rfl⟩ : ∃ Y : Nat, y = Y := ⟨y.toNat, by omega⟩
  obtain ⟨M, rfl⟩ : ∃ M : Nat, m = M := ⟨m.toNat, by omega⟩
  obtain ⟨D, rfl⟩ : ∃ D : Nat, d = D := ⟨d.toNat, by omega⟩
  have gy := itoa_reads hT (Y : Int) (by omega)
  have gm := itoa_reads hT ((100 + M : Nat) : Int) (by omega)
  have gd := itoa_reads hT ((100 + D : Nat) : Int) (by omega)
  rw [itoa_pos, dec_year (by omega) (by omega)] at gy
  rw [itoa_pos, dec_hundred (by omega)] at gm gd
  have sy : (bs (dd (Y / 100) ++ dd (Y % 100))).size = 4 := by rw [bs_size]; rfl
  have sm : (bs (49 :: dd M)).size = 3 := by rw [bs_size]; rfl
  have sd : (bs (49 :: dd D)).size = 3 := by rw [bs_size]; rfl
  have cm : (bs (49 :: dd M)).extract 1 3 = bs (dd M) := by rw [bs_sub]; rfl
  have cd : (bs (49 :: dd D)).extract 1 3 = bs (dd D) := by rw [bs_sub]; rfl
  have em : (100 : Int) + (M : Int) = ((100 + M : Nat) : Int) := by omega
  have ed : (100 : Int) + (D : Int) = ((100 + D : Nat) : Int) := by omega
  have t45 : (ByteArray.mk #[45]) = bs [45] := rfl
  have lm : (bs (dd M)).size = 2 := by rw [bs_size]; rfl
  have ld : (bs (dd D)).size = 2 := by rw [bs_size]; rfl
  have l45 : (bs [45]).size = 1 := by rw [bs_size]; rfl
  have fin : bs (dd (Y / 100) ++ dd (Y % 100)) ++ bs [45] ++ bs (dd M) ++ bs [45] ++ bs (dd D) = bs (textL Y M D) := by
    rw [bs_cat, bs_cat, bs_cat, bs_cat]; rfl
  change Reads Tryd.prog _ _ (.string (bs (dd (Y / 100) ++ dd (Y % 100)))) at gy
  change Reads Tryd.prog _ _ (.string (bs (49 :: dd M))) at gm
  change Reads Tryd.prog _ _ (.string (bs (49 :: dd D))) at gd
  generalize bs (dd (Y / 100) ++ dd (Y % 100)) = sY at *
  generalize bs (49 :: dd M) = sM at *
  generalize bs (49 :: dd D) = sD at *
  have main : tpFormat.den Tryd.prog (fun ρ' ret => ∀ β, ret.val.den (env ρ') β = textR Y M D) [.int .i64 n] := by
    refine tree_ite ?_
    refine ev_call [.int .i64 Y, .int .i64 M, .int .i64 D, .int .i64 0] rfl rfl (pure_gives g) (fun β => by simp [BTm.den, Tm.i, Tm.s, Tm.den, env, vInt, vBool, vStr, exI, SW.den, SV.den, Cell.den, densP, Piece.den, denV, denT]) (fun β => by simp [BTm.den, Tm.i, Tm.s, Tm.den, env, vInt, vBool, vStr, exI, SW.den, SV.den, Cell.den, densP, Piece.den, denV, denT, civilV]) ?_
    refine ev_nil (way_true (by simp [BTm.den, Tm.i, Tm.s, Tm.den, env, vInt, vBool, vStr, exI]) (tree_leaf ?_))
    refine ev_turn [.string sY] rfl rfl (fun β _ => Reads.ev gy (by simp [BTm.den, Tm.i, Tm.s, Tm.den, env, vInt, vBool, vStr, exI, SW.den, SV.den, Cell.den, densP, Piece.den, denV, denT]) (by simp [BTm.den, Tm.i, Tm.s, Tm.den, env, vInt, vBool, vStr, exI, SW.den, SV.den, Cell.den, densP, Piece.den, denV, denT])) ?_
    refine ev_fits 5 (by simp [BTm.den, Tm.i, Tm.s, Tm.den, env, vInt, vBool, vStr, exI, t45, sy, l45]) (rng_i64 _ (by omega)) ?_
    refine ev_fits ((100 + M : Nat) : Int) (by simp [BTm.den, Tm.i, Tm.s, Tm.den, env, vInt, vBool, vStr, exI]) (rng_i64 _ (by omega)) ?_
    refine ev_turn [.string sM] rfl rfl (fun β _ => Reads.ev gm (by simp [BTm.den, Tm.i, Tm.s, Tm.den, env, vInt, vBool, vStr, exI, SW.den, SV.den, Cell.den, densP, Piece.den, denV, denT]) (by simp [BTm.den, Tm.i, Tm.s, Tm.den, env, vInt, vBool, vStr, exI, SW.den, SV.den, Cell.den, densP, Piece.den, denV, denT])) ?_
    refine ev_need (by simp [BTm.den, Tm.i, Tm.s, Tm.den, env, vInt, vBool, vStr, exI]) ?_
    refine ev_need (by simp [BTm.den, Tm.i, Tm.s, Tm.den, env, vInt, vBool, vStr, exI, sm]) ?_
    refine ev_fits 7 (by simp [BTm.den, Tm.i, Tm.s, Tm.den, env, vInt, vBool, vStr, exI, t45, sy, l45, sm, cm, lm, ByteArray.size_append]) (rng_i64 _ (by omega)) ?_
    refine ev_fits 8 (by simp [BTm.den, Tm.i, Tm.s, Tm.den, env, vInt, vBool, vStr, exI, t45, sy, l45, sm, cm, lm, ByteArray.size_append]) (rng_i64 _ (by omega)) ?_
    refine ev_fits ((100 + D : Nat) : Int) (by simp [BTm.den, Tm.i, Tm.s, Tm.den, env, vInt, vBool, vStr, exI]) (rng_i64 _ (by omega)) ?_
    refine ev_turn [.string sD] rfl rfl (fun β _ => Reads.ev gd (by simp [BTm.den, Tm.i, Tm.s, Tm.den, env, vInt, vBool, vStr, exI, SW.den, SV.den, Cell.den, densP, Piece.den, denV, denT]) (by simp [BTm.den, Tm.i, Tm.s, Tm.den, env, vInt, vBool, vStr, exI, SW.den, SV.den, Cell.den, densP, Piece.den, denV, denT])) ?_
    refine ev_need (by simp [BTm.den, Tm.i, Tm.s, Tm.den, env, vInt, vBool, vStr, exI]) ?_
    refine ev_need (by simp [BTm.den, Tm.i, Tm.s, Tm.den, env, vInt, vBool, vStr, exI, sd]) ?_
    refine ev_fits 10 (by simp [BTm.den, Tm.i, Tm.s, Tm.den, env, vInt, vBool, vStr, exI, t45, sy, l45, sm, cm, lm, sd, cd, ld, ByteArray.size_append]) (rng_i64 _ (by omega)) ?_
    refine ev_nil fun β => ?_
    simp [BTm.den, Tm.i, Tm.s, Tm.den, env, vInt, vBool, vStr, exI, SW.den, SV.den, Cell.den, densP, Piece.den, denV, denT, textR, t45, sm, sd, cm, cd, fin]
  have h := reads_of plain [.int .i64 n] tpFormat_ok (by kernel_rfl) _ main w hr
  simpa [intW, BTm.den, Tm.i, Tm.s, Tm.den, env, vInt, vBool, vStr, exI, SW.den, SV.den, Cell.den, densP, Piece.den, denV, denT] using h
theorem format_d {n y m d : Int} (h : IsCivil n y m d) : Gives Tryd.prog 32 #[.int .i64 n] (textR y m d) := by
  have g := civil_d h
  have y1 := h.y1; have y2 := h.y2; have m1 := h.m1; have m2 := h.m2; have d1 := h.d1; have d2 := h.d2
  have b := ml_ge (leapI y) m1 m2
  obtain ⟨Y, rfl⟩ : ∃ Y : Nat, y = Y := ⟨y.toNat, by omega⟩
  obtain ⟨M, rfl⟩ : ∃ M : Nat, m = M := ⟨m.toNat, by omega⟩
  obtain ⟨D, rfl⟩ : ∃ D : Nat, d = D := ⟨d.toNat, by omega⟩
  have e1 : ((Y : Nat) : Int).tdiv 100 = ((Y / 100 : Nat) : Int) := by rw [Int.tdiv_eq_ediv_of_nonneg (by omega)]; omega
  have e2 : ((Y : Nat) : Int).tmod 100 = ((Y % 100 : Nat) : Int) := by rw [Int.tmod_eq_emod_of_nonneg (by omega)]; omega
  have g1 := two_d (Y / 100) (by omega)
  have g2 := two_d (Y % 100) (by omega)
  have g3 := two_d M (by omega)
  have g4 := two_d D (by omega)
  have t45 : (ByteArray.mk #[45]) = bs [45] := rfl
  have l1 : (bs (dd (Y / 100))).size = 2 := by rw [bs_size]; rfl
  have l2 : (bs (dd (Y % 100))).size = 2 := by rw [bs_size]; rfl
  have lm : (bs (dd M)).size = 2 := by rw [bs_size]; rfl
  have ld : (bs (dd D)).size = 2 := by rw [bs_size]; rfl
  have l45 : (bs [45]).size = 1 := by rw [bs_size]; rfl
  have fin : bs (dd (Y / 100)) ++ bs (dd (Y % 100)) ++ bs [45] ++ bs (dd M) ++ bs [45] ++ bs (dd D) = bs (textL Y M D) := by
    rw [bs_cat, bs_cat, bs_cat, bs_cat, bs_cat]; rfl
  generalize bs (dd (Y / 100)) = s1 at *
  generalize bs (dd (Y % 100)) = s2 at *
  generalize bs (dd M) = s3 at *
  generalize bs (dd D) = s4 at *
  have main : tdFormat.den Tryd.prog (fun ρ' ret => ∀ β, ret.val.den (env ρ') β = textR Y M D) [.int .i64 n] := by
    refine tree_ite ?_
    refine ev_call [.int .i64 Y, .int .i64 M, .int .i64 D, .int .i64 0] rfl rfl (pure_gives g) (fun β => by simp [BTm.den, Tm.i, Tm.s, Tm.den, env, vInt, vBool, vStr, exI, SW.den, SV.den, Cell.den, densP, Piece.den, denV, denT]) (fun β => by simp [BTm.den, Tm.i, Tm.s, Tm.den, env, vInt, vBool, vStr, exI, SW.den, SV.den, Cell.den, densP, Piece.den, denV, denT, civilV]) ?_
    refine ev_nil (way_true (by simp [BTm.den, Tm.i, Tm.s, Tm.den, env, vInt, vBool, vStr, exI]) (tree_leaf ?_))
    refine ev_fits ((Y / 100 : Nat) : Int) (by simp [BTm.den, Tm.i, Tm.s, Tm.den, env, vInt, vBool, vStr, exI, e1]) (rng_i64 _ (by omega)) ?_
    refine ev_call [.string s1] rfl rfl (pure_gives g1) (fun β => by simp [BTm.den, Tm.i, Tm.s, Tm.den, env, vInt, vBool, vStr, exI, SW.den, SV.den, Cell.den, densP, Piece.den, denV, denT, e1]) (fun β => by simp [BTm.den, Tm.i, Tm.s, Tm.den, env, vInt, vBool, vStr, exI, SW.den, SV.den, Cell.den, densP, Piece.den, denV, denT]) ?_
    refine ev_fits ((Y % 100 : Nat) : Int) (by simp [BTm.den, Tm.i, Tm.s, Tm.den, env, vInt, vBool, vStr, exI, e2]) (rng_i64 _ (by omega)) ?_
    refine ev_call [.string s2] rfl rfl (pure_gives g2) (fun β => by simp [BTm.den, Tm.i, Tm.s, Tm.den, env, vInt, vBool, vStr, exI, SW.den, SV.den, Cell.den, densP, Piece.den, denV, denT, e2]) (fun β => by simp [BTm.den, Tm.i, Tm.s, Tm.den, env, vInt, vBool, vStr, exI, SW.den, SV.den, Cell.den, densP, Piece.den, denV, denT]) ?_
    refine ev_fits 4 (by simp [BTm.den, Tm.i, Tm.s, Tm.den, env, vInt, vBool, vStr, exI, l1, l2]) (rng_i64 _ (by omega)) ?_
    refine ev_fits 5 (by simp [BTm.den, Tm.i, Tm.s, Tm.den, env, vInt, vBool, vStr, exI, t45, l1, l2, l45, ByteArray.size_append]) (rng_i64 _ (by omega)) ?_
    refine ev_call [.string s3] rfl rfl (pure_gives g3) (fun β => by simp [BTm.den, Tm.i, Tm.s, Tm.den, env, vInt, vBool, vStr, exI, SW.den, SV.den, Cell.den, densP, Piece.den, denV, denT]) (fun β => by simp [BTm.den, Tm.i, Tm.s, Tm.den, env, vInt, vBool, vStr, exI, SW.den, SV.den, Cell.den, densP, Piece.den, denV, denT]) ?_
    refine ev_fits 7 (by simp [BTm.den, Tm.i, Tm.s, Tm.den, env, vInt, vBool, vStr, exI, t45, l1, l2, l45, lm, ByteArray.size_append]) (rng_i64 _ (by omega)) ?_
    refine ev_fits 8 (by simp [BTm.den, Tm.i, Tm.s, Tm.den, env, vInt, vBool, vStr, exI, t45, l1, l2, l45, lm, ByteArray.size_append]) (rng_i64 _ (by omega)) ?_
    refine ev_call [.string s4] rfl rfl (pure_gives g4) (fun β => by simp [BTm.den, Tm.i, Tm.s, Tm.den, env, vInt, vBool, vStr, exI, SW.den, SV.den, Cell.den, densP, Piece.den, denV, denT]) (fun β => by simp [BTm.den, Tm.i, Tm.s, Tm.den, env, vInt, vBool, vStr, exI, SW.den, SV.den, Cell.den, densP, Piece.den, denV, denT]) ?_
    refine ev_fits 10 (by simp [BTm.den, Tm.i, Tm.s, Tm.den, env, vInt, vBool, vStr, exI, t45, l1, l2, l45, lm, ld, ByteArray.size_append]) (rng_i64 _ (by omega)) ?_
    refine ev_nil fun β => ?_
    simp [BTm.den, Tm.i, Tm.s, Tm.den, env, vInt, vBool, vStr, exI, SW.den, SV.den, Cell.den, densP, Piece.den, denV, denT, textR, t45, fin]
  have h := pure_of plain [.int .i64 n] tdFormat_ok (by kernel_rfl) _ main
  refine gives_pure ?_
  simpa [intW, BTm.den, Tm.i, Tm.s, Tm.den, env, vInt, vBool, vStr, exI, SW.den, SV.den, Cell.den, densP, Piece.den, denV, denT] using h
end Go.Proofs.YteemnnajfiimlaaDoor
