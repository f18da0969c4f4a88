/- Merged: Oq, Tc, Td, Te, Tf, Tg, Th, Tu, Tv, Tw, Tx. -/
import Derived.Test.YtfdlgeomaballaaGreatOp
import Derived.Test.YtfdlgeomaballaaGreatGpc
import Derived.Test.YtfdlgeomaballaaGreatGpe
import Derived.Test.YtfdlgeomaballaaGreatRe
section
/- Opening and shutting an argument that is a ratio (two numbers). -/
namespace Go.Proofs.YtfdlgeomaballaaGreat
open Go.RowKit Go.ChangeShapes
set_option linter.unusedSimpArgs false
set_option linter.unusedVariables false
section
variable {H : Type} {enc : TypeId × Value → H} {w : World} {base : Nat} {spare : Nat → Bool} {held : Bool}

/-- The cells of a ratio. -/
def rv (s : Bool) (n : Nat) (t : Bool) (m : Nat) : Array Value := iv s n ++ iv t m
theorem rv_size (s t : Bool) (n m : Nat) : (rv s n t m).size = 66 := by simp [rv, iv_size]
def rvd (H : Type) (s : Bool) (n : Nat) (t : Bool) (m : Nat) : DataW H := .agg [ivd H s n, ivd H t m]
theorem cells31 : Tryz.prog.cellsOf 31 = 66 := by kernel_rfl
theorem shut_iv4 (s : Bool) (n : Nat) : DataW.trod enc Tryz.prog w base spare held 4 29 (iv s n).toList = some (ivd H s n, []) := by
  have := trod_struct2_mk (enc := enc) (w := w) (base := base) (spare := spare) (held := held) (n := 3) (cs := (iv s n).toList) (y0 := (.lit (.bool s), [])) (y1 := (.agg ((List.range 32).map fun i => .lit (.int .u32 ((limb n i : Nat) : Int))), [])) Tryz.underlying29 (by rw [cells29, Array.length_toList, iv_size]) (by
    simp [iv, cells4, DataW.trod, Tryz.underlying4]) (by
    have := trod_limbs (enc := enc) (w := w) (base := base) (spare := spare) (held := held) n 1
    rw [cells27]
    have e : ((iv s n).toList.drop 1).take 32 = (mgk 32 n).toList := by
      rw [iv, Array.toList_append]
      simp [List.take_of_length_le, mgk_size]
    rw [e]; exact this)
  rw [this]; simp [ivd]
theorem rv_left (s t : Bool) (n m : Nat) : ((rv s n t m).toList.drop 0).take 33 = (iv s n).toList := by
  rw [rv, Array.toList_append, List.drop_zero, List.take_append_of_le_length (by simp [iv_size]), List.take_of_length_le (by simp [iv_size])]
theorem rv_right (s t : Bool) (n m : Nat) : ((rv s n t m).toList.drop 33).take 33 = (iv t m).toList := by
  have : (iv s n).toList.length = 33 := by simp [iv_size]
  rw [rv, Array.toList_append, ← this, List.drop_left, List.take_of_length_le (by simp [iv_size])]
theorem shut_rat {s t : Bool} {n m : Nat} : DataW.Trod enc Tryz.prog w base spare held 31 (.agg (rv s n t m)) (rvd H s n t m) [] := by
  refine ⟨5, ?_⟩
  simp only [Value.cells]
  have := trod_struct2_mk (enc := enc) (w := w) (base := base) (spare := spare) (held := held) (n := 4) (cs := (rv s n t m).toList) (y0 := (ivd H s n, [])) (y1 := (ivd H t m, [])) Tryz.underlying31 (by rw [cells31, Array.length_toList, rv_size])
    (by rw [cells29, rv_left]; exact shut_iv4 s n) (by rw [cells29, rv_right]; exact shut_iv4 t m)
  rw [this]; simp [rvd]
theorem open_rat {v : Value} {d : DataW H} {ps : List MemPlace} (hval : ∃ cs, v = .agg cs ∧ cs.size = Tryz.prog.cellsOf 31) (hd : DataW.Trod enc Tryz.prog w base spare held 31 v d ps) :
    ∃ s n t m, n < pw 32 ∧ m < pw 32 ∧ v = .agg (rv s n t m) ∧ d = rvd H s n t m ∧ ps = [] := by
  obtain ⟨cs, rfl, hsz⟩ := hval
  obtain ⟨fuel, hf⟩ := hd
  simp only [Value.cells] at hf
  obtain ⟨y0, y1, k, hx, hl, h0, h1⟩ := trod_struct2 Tryz.underlying31 hf
  rw [cells31] at hsz
  have e0 : ((cs.toList.drop 0).take 33) = (cs.extract 0 33).toList := by simp
  have e1 : ((cs.toList.drop 33).take 33) = (cs.extract 33 66).toList := by simp
  have h0' : DataW.Trod enc Tryz.prog w base spare held 29 (.agg (cs.extract 0 33)) y0.1 y0.2 := ⟨k, by
    simp only [Value.cells]
    rw [← e0]
    rw [← cells29]; exact h0⟩
  have h1' : DataW.Trod enc Tryz.prog w base spare held 29 (.agg (cs.extract 33 66)) y1.1 y1.2 := ⟨k, by
    simp only [Value.cells]
    rw [← e1]
    rw [cells29] at h1; exact h1⟩
  obtain ⟨s, n, hn, a0, b0, c0⟩ := open_iv ⟨_, rfl, by rw [cells29]; simp [hsz]⟩ h0'
  obtain ⟨t, m, hm, a1, b1, c1⟩ := open_iv ⟨_, rfl, by rw [cells29]; simp [hsz]⟩ h1'
  have a0 : cs.extract 0 33 = iv s n := by injection a0
  have a1 : cs.extract 33 66 = iv t m := by injection a1
  have hcs : cs = rv s n t m := by
    rw [rv, ← a0, ← a1]
    apply Array.ext
    · simp [hsz]
    · intro i hi1 hi2
      rw [Array.getElem_append]
      split
      · simp
      · rename_i h
        simp only [Array.size_extract, hsz, Nat.sub_zero] at h
        simp only [Array.getElem_extract, Array.size_extract, hsz]
        congr 1
        omega
  have d1 : d = _ := congrArg Prod.fst hx
  have d2 : ps = _ := congrArg Prod.snd hx
  exact ⟨s, n, t, m, hn, hm, congrArg Value.agg hcs, by rw [d1, b0, b1]; rfl, by rw [d2, c0, c1]; rfl⟩
end
end Go.Proofs.YtfdlgeomaballaaGreat
end
section
/- Package ratio and the document's ratios: what the small functions give. -/
namespace Go.Proofs.YtfdlgeomaballaaGreat
open Go.RowKit Go.Proofs.YtfdlgeomaballaaGreat.Sx
set_option linter.unusedSimpArgs false
set_option linter.unusedVariables false

/-- Cells of a ratio, as a list. -/
theorem rv_list (s t : Bool) (n m : Nat) : (Value.bool s :: (mgl 32 n ++ Value.bool t :: mgl 32 m)).toArray = rv s n t m := by
  apply Array.toList_inj.1; simp [rv, iv, mgl]
/-- The cells of a ratio of canonical numbers. -/
def rvZ (x y : Int) : Array Value := rv (decide (x < 0)) x.natAbs (decide (y < 0)) y.natAbs
/-- Is a ratio valid? -/
def vld (s : Bool) (n : Nat) (t : Bool) (m : Nat) : Bool := !(s && isz n) && !t && !isz m && decide (bl n ≤ 480) && decide (bl m ≤ 480) && decide (Nat.gcd n m = 1)
theorem over_any (s t : Bool) (n m : Nat) (hn : n < pw 32) (hm : m < pw 32) (h0 : 0 < m) : Gives Tryz.prog 43 #[.agg (iv s n), .agg (iv t m)] (.agg (ivZ (vz s n / vz t m))) := by
  have hd := divMod_of s t n m hn hm h0 (divide_any n m hn hm h0)
  unfold divR at hd
  obtain ⟨q, hq⟩ : ∃ q, q = vz s n / vz t m := ⟨_, rfl⟩
  obtain ⟨r, hr⟩ : ∃ q, q = vz s n % vz t m := ⟨_, rfl⟩
  rw [← hq, ← hr] at hd
  rw [← hq]
  have h := pure_of plain [.bool s, .agg (mgk 32 n), .bool t, .agg (mgk 32 m)] tpOver_ok (by kernel_rfl) (.agg (ivZ q)) (tree_leaf (ev_call [.bool (decide (q < 0)), .agg (mgk 32 q.natAbs), .bool (decide (r < 0)), .agg (mgk 32 r.natAbs), .int .i64 0] rfl rfl (pure_gives hd) (fun β => by simp [BTm.den, Tm.i, Tm.s, Tm.den, env, vInt, vBool, vStr, exI, SW.den, SV.den, Cell.den, densP, Piece.den, denV, denT, rowCells_mgk, iv_list]) (fun β => by simp [BTm.den, Tm.i, Tm.s, Tm.den, env, vInt, vBool, vStr, exI, SW.den, SV.den, Cell.den, densP, Piece.den, denV, denT, rowCells_mgk, iv_list, ivZ]) (ev_nil fun β => by simp [BTm.den, Tm.i, Tm.s, Tm.den, env, vInt, vBool, vStr, exI, SW.den, SV.den, Cell.den, densP, Piece.den, denV, denT, rowCells_mgk, iv_list, ivZ])))
  refine gives_pure ?_
  simpa [intB, BTm.den, Tm.i, Tm.s, Tm.den, env, vInt, vBool, vStr, exI, SW.den, SV.den, Cell.den, densP, Piece.den, denV, denT, rowCells_mgk, iv_list] using h
theorem canon_any (s : Bool) (n : Nat) (hn : n < pw 32) : Gives Tryz.prog 36 #[.agg (iv s n)] (.bool (!(s && isz n))) := by
  have hs := sign_any s n hn
  obtain ⟨g, hg⟩ : ∃ g, g = sgn (vz s n) := ⟨_, rfl⟩
  rw [← hg] at hs
  have hz : (g = 0) ↔ n = 0 := by
    rw [hg]; unfold sgn vz; cases s <;> simp <;> split <;> omega
  have h := pure_of plain [.bool s, .agg (mgk 32 n)] tpCanon_ok (by kernel_rfl) (.bool (!(s && isz n))) (tree_ite (ev_nil ⟨fun h1 => tree_leaf (ev_call [.int .i64 g] rfl rfl (pure_gives hs) (fun β => by simp [BTm.den, Tm.i, Tm.s, Tm.den, env, vInt, vBool, vStr, exI, SW.den, SV.den, Cell.den, densP, Piece.den, denV, denT, rowCells_mgk, iv_list]) (fun β => by simp [BTm.den, Tm.i, Tm.s, Tm.den, env, vInt, vBool, vStr, exI, SW.den, SV.den, Cell.den, densP, Piece.den, denV, denT]) (ev_nil fun β => ?_)), fun h1 => tree_leaf (ev_nil fun β => ?_)⟩))
  · refine gives_pure ?_
    simpa [intB, BTm.den, Tm.i, Tm.s, Tm.den, env, vInt, vBool, vStr, exI, SW.den, SV.den, Cell.den, densP, Piece.den, denV, denT, rowCells_mgk, iv_list] using h
  · have h1 : s = true := by simpa [BTm.den, Tm.i, Tm.s, Tm.den, env, vInt, vBool, vStr, exI] using h1
    subst h1
    simp [BTm.den, Tm.i, Tm.s, Tm.den, env, vInt, vBool, vStr, exI, SW.den, SV.den, Cell.den, densP, Piece.den, denV, denT, isz]
    rw [Bool.eq_iff_iff]; simp [hz]
  · have h1 : s = false := by simpa [BTm.den, Tm.i, Tm.s, Tm.den, env, vInt, vBool, vStr, exI] using h1
    subst h1
    simp [BTm.den, Tm.i, Tm.s, Tm.den, env, vInt, vBool, vStr, exI, SW.den, SV.den, Cell.den, densP, Piece.den, denV, denT]
theorem times_rat (s t : Bool) (n m : Nat) (hn : n < pw 32) (hm : m < pw 32) (r e : Int) (hr : resZ (vz s n * vz t m) = .tuple #[.agg (ivZ r), .int .i64 e]) : Gives Tryz.prog 57 #[.agg (iv s n), .agg (iv t m)] (.agg (ivZ r)) ∧ Gives Tryz.prog 59 #[.agg (iv s n), .agg (iv t m)] (.agg (ivZ r)) := by
  have h1 := mul_any s t n m hn hm
  have h2 := rmul_any s t n m hn hm
  rw [hr] at h1 h2
  constructor
  · have h := pure_of plain [.bool s, .agg (mgk 32 n), .bool t, .agg (mgk 32 m)] tpTimes_ok (by kernel_rfl) (.agg (ivZ r)) (tree_leaf (ev_call [.bool (decide (r < 0)), .agg (mgk 32 r.natAbs), .int .i64 e] rfl rfl (pure_gives h1) (fun β => by simp [BTm.den, Tm.i, Tm.s, Tm.den, env, vInt, vBool, vStr, exI, SW.den, SV.den, Cell.den, densP, Piece.den, denV, denT, rowCells_mgk, iv_list]) (fun β => by simp [BTm.den, Tm.i, Tm.s, Tm.den, env, vInt, vBool, vStr, exI, SW.den, SV.den, Cell.den, densP, Piece.den, denV, denT, rowCells_mgk, iv_list, ivZ]) (ev_nil fun β => by simp [BTm.den, Tm.i, Tm.s, Tm.den, env, vInt, vBool, vStr, exI, SW.den, SV.den, Cell.den, densP, Piece.den, denV, denT, rowCells_mgk, iv_list, ivZ])))
    refine gives_pure ?_
    simpa [intB, BTm.den, Tm.i, Tm.s, Tm.den, env, vInt, vBool, vStr, exI, SW.den, SV.den, Cell.den, densP, Piece.den, denV, denT, rowCells_mgk, iv_list] using h
  · have h := pure_of plain [.bool s, .agg (mgk 32 n), .bool t, .agg (mgk 32 m)] tdProduct_ok (by kernel_rfl) (.agg (ivZ r)) (tree_leaf (ev_call [.bool (decide (r < 0)), .agg (mgk 32 r.natAbs), .int .i64 e] rfl rfl (pure_gives h2) (fun β => by simp [BTm.den, Tm.i, Tm.s, Tm.den, env, vInt, vBool, vStr, exI, SW.den, SV.den, Cell.den, densP, Piece.den, denV, denT, rowCells_mgk, iv_list]) (fun β => by simp [BTm.den, Tm.i, Tm.s, Tm.den, env, vInt, vBool, vStr, exI, SW.den, SV.den, Cell.den, densP, Piece.den, denV, denT, rowCells_mgk, iv_list, ivZ]) (ev_nil fun β => by simp [BTm.den, Tm.i, Tm.s, Tm.den, env, vInt, vBool, vStr, exI, SW.den, SV.den, Cell.den, densP, Piece.den, denV, denT, rowCells_mgk, iv_list, ivZ])))
    refine gives_pure ?_
    simpa [intB, BTm.den, Tm.i, Tm.s, Tm.den, env, vInt, vBool, vStr, exI, SW.den, SV.den, Cell.den, densP, Piece.den, denV, denT, rowCells_mgk, iv_list] using h
theorem plus_rat (s t : Bool) (n m : Nat) (hn : n < pw 32) (hm : m < pw 32) (r e : Int) (hr : resZ (vz s n + vz t m) = .tuple #[.agg (ivZ r), .int .i64 e]) : Gives Tryz.prog 56 #[.agg (iv s n), .agg (iv t m)] (.agg (ivZ r)) := by
  have h1 := add_any s t n m hn hm
  rw [hr] at h1
  have h := pure_of plain [.bool s, .agg (mgk 32 n), .bool t, .agg (mgk 32 m)] tpPlus_ok (by kernel_rfl) (.agg (ivZ r)) (tree_leaf (ev_call [.bool (decide (r < 0)), .agg (mgk 32 r.natAbs), .int .i64 e] rfl rfl (pure_gives h1) (fun β => by simp [BTm.den, Tm.i, Tm.s, Tm.den, env, vInt, vBool, vStr, exI, SW.den, SV.den, Cell.den, densP, Piece.den, denV, denT, rowCells_mgk, iv_list]) (fun β => by simp [BTm.den, Tm.i, Tm.s, Tm.den, env, vInt, vBool, vStr, exI, SW.den, SV.den, Cell.den, densP, Piece.den, denV, denT, rowCells_mgk, iv_list, ivZ]) (ev_nil fun β => by simp [BTm.den, Tm.i, Tm.s, Tm.den, env, vInt, vBool, vStr, exI, SW.den, SV.den, Cell.den, densP, Piece.den, denV, denT, rowCells_mgk, iv_list, ivZ])))
  refine gives_pure ?_
  simpa [intB, BTm.den, Tm.i, Tm.s, Tm.den, env, vInt, vBool, vStr, exI, SW.den, SV.den, Cell.den, densP, Piece.den, denV, denT, rowCells_mgk, iv_list] using h
end Go.Proofs.YtfdlgeomaballaaGreat
end
section
/- Valid, of package ratio and of the document. -/
namespace Go.Proofs.YtfdlgeomaballaaGreat
open Go.RowKit Go.Proofs.YtfdlgeomaballaaGreat.Sx
set_option linter.unusedSimpArgs false
set_option linter.unusedVariables false

theorem same_ZZ (x y : Int) (hx : x.natAbs < pw 32) (hy : y.natAbs < pw 32) : SameFact Tryz.prog 29 (.agg (ivZ x)) (.agg (ivZ y)) (decide (x = y)) := fun w => by
  have := ivType.2 w (decide (x < 0)) (decide (y < 0)) x.natAbs y.natAbs hx hy
  rw [decide_eq_decide.2 (ivZ_inj (x := x) (y := y))] at this
  exact this
theorem vsgn_pos (t : Bool) (m : Nat) : 0 < sgn (vz t m) ↔ t = false ∧ m ≠ 0 := by
  unfold sgn vz; cases t <;> simp <;> split <;> (try split) <;> omega
theorem vsgn_zero (t : Bool) (m : Nat) : sgn (vz t m) = 0 ↔ m = 0 := by
  unfold sgn vz; cases t <;> simp <;> split <;> (try split) <;> omega
theorem vsgn_neg (t : Bool) (m : Nat) : sgn (vz t m) < 0 ↔ t = true ∧ m ≠ 0 := by
  unfold sgn vz; cases t <;> simp <;> split <;> (try split) <;> omega
theorem one_lt : (1 : Int).natAbs < pw 32 := by
  have := pw_le (show 1 ≤ 32 by omega); rw [pw_one] at this
  show 1 < pw 32; omega
theorem gcd_lt {n m : Nat} (hn : n < pw 32) (hm : m < pw 32) : ((Nat.gcd n m : Nat) : Int).natAbs < pw 32 := by
  rw [Int.natAbs_natCast]
  rcases Nat.eq_zero_or_pos n with h | h
  · rw [h, Nat.gcd_zero_left]; exact hm
  · exact Nat.lt_of_le_of_lt (Nat.gcd_le_left _ h) hn
theorem fits_rat (s t : Bool) (n m : Nat) (hn : n < pw 32) (hm : m < pw 32) : Gives Tryz.prog 38 #[.agg (rv s n t m)] (.bool (decide (bl n ≤ 480) && decide (bl m ≤ 480))) := by
  have hb := bits_any s n hn
  have hc := bits_any t m hm
  obtain ⟨x, hx⟩ : ∃ x, x = bl n := ⟨_, rfl⟩
  obtain ⟨y, hy⟩ : ∃ x, x = bl m := ⟨_, rfl⟩
  rw [← hx] at hb ⊢
  rw [← hy] at hc ⊢
  have hmain : ∀ v, v = Value.bool (decide (x ≤ 480) && decide (y ≤ 480)) → tpFits.den Tryz.prog (fun ρ' ret => ∀ β, ret.val.den (env ρ') β = v) [.bool s, .agg (mgk 32 n), .bool t, .agg (mgk 32 m)] := by
    intro v hv
    refine tree_ite ?_
    refine ev_call [.int .i64 (x : Nat)] rfl rfl (pure_gives (hb)) (fun β => by simp [BTm.den, Tm.i, Tm.s, Tm.den, env, vInt, vBool, vStr, exI, SW.den, SV.den, Cell.den, densP, Piece.den, denV, rowCells_mgk, iv_list, rv_list, ivZ, rvZ, mgl_agg]) (fun β => by simp [BTm.den, Tm.i, Tm.s, Tm.den, env, vInt, vBool, vStr, exI, SW.den, SV.den, Cell.den, densP, Piece.den, denV, rowCells_mgk, iv_list, rv_list, ivZ, rvZ, mgl_agg]) ?_
    refine ev_nil ⟨fun h => tree_leaf (ev_nil fun β => ?_), fun h => tree_leaf ?_⟩
    · have h : (480 : Int) < x := by simpa [BTm.den, Tm.i, Tm.s, Tm.den, env, vInt, vBool, vStr, exI] using h
      rw [hv, decide_eq_false (by omega)]; simp [BTm.den, Tm.i, Tm.s, Tm.den, env, vInt, vBool, vStr, exI, SW.den, SV.den, Cell.den, densP, Piece.den, denV, rowCells_mgk, iv_list, rv_list, ivZ, rvZ, mgl_agg]
    · have h : ¬ (480 : Int) < x := by simpa [BTm.den, Tm.i, Tm.s, Tm.den, env, vInt, vBool, vStr, exI] using h
      refine ev_call [.int .i64 (y : Nat)] rfl rfl (pure_gives (hc)) (fun β => by simp [BTm.den, Tm.i, Tm.s, Tm.den, env, vInt, vBool, vStr, exI, SW.den, SV.den, Cell.den, densP, Piece.den, denV, rowCells_mgk, iv_list, rv_list, ivZ, rvZ, mgl_agg]) (fun β => by simp [BTm.den, Tm.i, Tm.s, Tm.den, env, vInt, vBool, vStr, exI, SW.den, SV.den, Cell.den, densP, Piece.den, denV, rowCells_mgk, iv_list, rv_list, ivZ, rvZ, mgl_agg]) ?_
      refine ev_nil fun β => ?_
      rw [hv, decide_eq_true (by omega)]; simp [BTm.den, Tm.i, Tm.s, Tm.den, env, vInt, vBool, vStr, exI, SW.den, SV.den, Cell.den, densP, Piece.den, denV, rowCells_mgk, iv_list, rv_list, ivZ, rvZ, mgl_agg]
      rw [Bool.eq_iff_iff]; simp; omega
  have h := pure_of plain [.bool s, .agg (mgk 32 n), .bool t, .agg (mgk 32 m)] tpFits_ok (by kernel_rfl) _ (hmain _ rfl)
  refine gives_pure ?_
  simpa [ratR, BTm.den, Tm.i, Tm.s, Tm.den, env, vInt, vBool, vStr, exI, SW.den, SV.den, Cell.den, densP, Piece.den, denV, denT, rowCells_mgk, rv_list] using h
set_option maxHeartbeats 1000000 in
theorem pValid (s t : Bool) (n m : Nat) (hn : n < pw 32) (hm : m < pw 32) : Gives Tryz.prog 7 #[.agg (rv s n t m)] (.bool (vld s n t m)) := by
  have hcan := canon_any s n hn
  have hsg := sign_any t m hm
  have hsp := vsgn_pos t m
  have hfit := fits_rat s t n m hn hm
  have hg := gcd_of (pw 32) s t n m hn hm hm fun x y hx hy h0 _ => divide_any x y hx hy h0
  have hgl := gcd_lt hn hm
  have h1 := fromInt_any 1 (by omega)
  have hmain : ∀ v, v = Value.bool (vld s n t m) → tpValid.den Tryz.prog (fun ρ' ret => ∀ β, ret.val.den (env ρ') β = v) [.bool s, .agg (mgk 32 n), .bool t, .agg (mgk 32 m)] := by
    intro v hv
    have hgi : decide (((Nat.gcd n m : Nat) : Int) = 1) = decide (Nat.gcd n m = 1) := by rw [decide_eq_decide]; omega
    unfold vld at hv
    have hmz : isz m = decide (m = 0) := rfl
    obtain ⟨c, hc⟩ : ∃ c, c = (!(s && isz n)) := ⟨_, rfl⟩
    obtain ⟨f, hf⟩ : ∃ c, c = (decide (bl n ≤ 480) && decide (bl m ≤ 480)) := ⟨_, rfl⟩
    obtain ⟨g, hgg⟩ : ∃ c, c = ((Nat.gcd n m : Nat) : Int) := ⟨_, rfl⟩
    obtain ⟨k, hk⟩ : ∃ c, c = sgn (vz t m) := ⟨_, rfl⟩
    rw [← hc] at hcan
    rw [← hf] at hfit
    rw [← hgg] at hg hgl hgi
    rw [← hk] at hsg hsp
    have hv : v = .bool (c && (decide (0 < k)) && f && decide (g = 1)) := by
      rw [hv, hc, hf, hgi]
      congr 1
      have : decide (0 < k) = (!t && !isz m) := by
        rw [Bool.eq_iff_iff]; simp [hsp, hmz]
      rw [this]
      cases (!(s && isz n)) <;> cases t <;> cases (isz m) <;> cases (decide (bl n ≤ 480)) <;> simp
    clear hc hf hgg hk
    refine tree_ite ?_
    refine ev_call [.bool c] rfl rfl (pure_gives (hcan)) (fun β => by simp [BTm.den, Tm.i, Tm.s, Tm.den, env, vInt, vBool, vStr, exI, SW.den, SV.den, Cell.den, densP, Piece.den, denV, rowCells_mgk, iv_list, rv_list, ivZ, rvZ, mgl_agg]) (fun β => by simp [BTm.den, Tm.i, Tm.s, Tm.den, env, vInt, vBool, vStr, exI, SW.den, SV.den, Cell.den, densP, Piece.den, denV, rowCells_mgk, iv_list, rv_list, ivZ, rvZ, mgl_agg]) ?_
    refine ev_nil ⟨fun h => tree_ite ?_, fun h => tree_leaf (ev_nil fun β => ?_)⟩
    · have h : c = true := by simpa [BTm.den, Tm.i, Tm.s, Tm.den, env, vInt, vBool, vStr, exI] using h
      subst h
      refine ev_call [.int .i64 k] rfl rfl (pure_gives (hsg)) (fun β => by simp [BTm.den, Tm.i, Tm.s, Tm.den, env, vInt, vBool, vStr, exI, SW.den, SV.den, Cell.den, densP, Piece.den, denV, rowCells_mgk, iv_list, rv_list, ivZ, rvZ, mgl_agg]) (fun β => by simp [BTm.den, Tm.i, Tm.s, Tm.den, env, vInt, vBool, vStr, exI, SW.den, SV.den, Cell.den, densP, Piece.den, denV, rowCells_mgk, iv_list, rv_list, ivZ, rvZ, mgl_agg]) ?_
      refine ev_nil ⟨fun h => tree_ite ?_, fun h => tree_leaf (ev_nil fun β => ?_)⟩
      · have h : 0 < k := by simpa [BTm.den, Tm.i, Tm.s, Tm.den, env, vInt, vBool, vStr, exI] using h
        refine ev_call [.bool f] rfl rfl (pure_gives (hfit)) (fun β => by simp [BTm.den, Tm.i, Tm.s, Tm.den, env, vInt, vBool, vStr, exI, SW.den, SV.den, Cell.den, densP, Piece.den, denV, rowCells_mgk, iv_list, rv_list, ivZ, rvZ, mgl_agg]) (fun β => by simp [BTm.den, Tm.i, Tm.s, Tm.den, env, vInt, vBool, vStr, exI, SW.den, SV.den, Cell.den, densP, Piece.den, denV, rowCells_mgk, iv_list, rv_list, ivZ, rvZ, mgl_agg]) ?_
        refine ev_nil ⟨fun h2 => tree_leaf ?_, fun h2 => tree_leaf (ev_nil fun β => ?_)⟩
        · have h2 : f = true := by simpa [BTm.den, Tm.i, Tm.s, Tm.den, env, vInt, vBool, vStr, exI] using h2
          subst h2
          refine ev_call [.bool (decide (g < 0)), .agg (mgk 32 (g : Int).natAbs)] rfl rfl (pure_gives (hg)) (fun β => by simp [BTm.den, Tm.i, Tm.s, Tm.den, env, vInt, vBool, vStr, exI, SW.den, SV.den, Cell.den, densP, Piece.den, denV, rowCells_mgk, iv_list, rv_list, ivZ, rvZ, mgl_agg]) (fun β => by simp [BTm.den, Tm.i, Tm.s, Tm.den, env, vInt, vBool, vStr, exI, SW.den, SV.den, Cell.den, densP, Piece.den, denV, rowCells_mgk, iv_list, rv_list, ivZ, rvZ, mgl_agg]) ?_
          refine ev_call [.bool (decide (1 < 0)), .agg (mgk 32 (1 : Int).natAbs)] rfl rfl (pure_gives h1) (fun β => by simp [BTm.den, Tm.i, Tm.s, Tm.den, env, vInt, vBool, vStr, exI, SW.den, SV.den, Cell.den, densP, Piece.den, denV, denT]) (fun β => by simp [BTm.den, Tm.i, Tm.s, Tm.den, env, vInt, vBool, vStr, exI, SW.den, SV.den, Cell.den, densP, Piece.den, denV, denT, rowCells_mgk, iv_list, ivZ]) ?_
          refine ev_same (decide (g = 1)) rfl (fun β => by simp [BTm.den, Tm.i, Tm.s, Tm.den, env, vInt, vBool, vStr, exI, SW.den, SV.den, Cell.den, densP, Piece.den, denV, rowCells_mgk, iv_list, rv_list, ivZ, rvZ, mgl_agg]) (fun β => by simp [BTm.den, Tm.i, Tm.s, Tm.den, env, vInt, vBool, vStr, exI, SW.den, SV.den, Cell.den, densP, Piece.den, denV, rowCells_mgk, iv_list, rv_list, ivZ, rvZ, mgl_agg]) (same_ZZ g 1 hgl one_lt) ?_
          refine ev_nil fun β => ?_
          rw [hv, decide_eq_true h]; simp [BTm.den, Tm.i, Tm.s, Tm.den, env, vInt, vBool, vStr, exI, SW.den, SV.den, Cell.den, densP, Piece.den, denV, rowCells_mgk, iv_list, rv_list, ivZ, rvZ, mgl_agg]
        · have h2 : f = false := by simpa [BTm.den, Tm.i, Tm.s, Tm.den, env, vInt, vBool, vStr, exI] using h2
          rw [hv, h2]; simp [BTm.den, Tm.i, Tm.s, Tm.den, env, vInt, vBool, vStr, exI, SW.den, SV.den, Cell.den, densP, Piece.den, denV, rowCells_mgk, iv_list, rv_list, ivZ, rvZ, mgl_agg]
      · have h : ¬ 0 < k := by simpa [BTm.den, Tm.i, Tm.s, Tm.den, env, vInt, vBool, vStr, exI] using h
        rw [hv, decide_eq_false h]; simp [BTm.den, Tm.i, Tm.s, Tm.den, env, vInt, vBool, vStr, exI, SW.den, SV.den, Cell.den, densP, Piece.den, denV, rowCells_mgk, iv_list, rv_list, ivZ, rvZ, mgl_agg]
    · have h : c = false := by simpa [BTm.den, Tm.i, Tm.s, Tm.den, env, vInt, vBool, vStr, exI] using h
      rw [hv, h]; simp [BTm.den, Tm.i, Tm.s, Tm.den, env, vInt, vBool, vStr, exI, SW.den, SV.den, Cell.den, densP, Piece.den, denV, rowCells_mgk, iv_list, rv_list, ivZ, rvZ, mgl_agg]
  have h := pure_of plain [.bool s, .agg (mgk 32 n), .bool t, .agg (mgk 32 m)] tpValid_ok (by kernel_rfl) _ (hmain _ rfl)
  refine gives_pure ?_
  simpa [ratR, BTm.den, Tm.i, Tm.s, Tm.den, env, vInt, vBool, vStr, exI, SW.den, SV.den, Cell.den, densP, Piece.den, denV, denT, rowCells_mgk, rv_list] using h
end Go.Proofs.YtfdlgeomaballaaGreat
end
section
/- Valid, of the document. -/
namespace Go.Proofs.YtfdlgeomaballaaGreat
open Go.RowKit Go.Proofs.YtfdlgeomaballaaGreat.Sx
set_option linter.unusedSimpArgs false
set_option linter.unusedVariables false

set_option maxHeartbeats 2000000 in
theorem dValid (s t : Bool) (n m : Nat) (hn : n < pw 32) (hm : m < pw 32) : Gives Tryz.prog 35 #[.agg (rv s n t m)] (.bool (vld s n t m)) := by
  have hsn := rsign_any s n hn
  have hsz := vsgn_zero s n
  have hsg := rsign_any t m hm
  have hsp := vsgn_pos t m
  have hb := rbits_any s n hn
  have hc := rbits_any t m hm
  have hg := rgcd_any s t n m hn hm
  have hgl := gcd_lt hn hm
  have h1 := rfromInt_any 1 (by omega)
  have hmain : ∀ v, v = Value.bool (vld s n t m) → tdValid.den Tryz.prog (fun ρ' ret => ∀ β, ret.val.den (env ρ') β = v) [.bool s, .agg (mgk 32 n), .bool t, .agg (mgk 32 m)] := by
    intro v hv
    have hgi : decide (((Nat.gcd n m : Nat) : Int) = 1) = decide (Nat.gcd n m = 1) := by rw [decide_eq_decide]; omega
    unfold vld at hv
    have hmz : isz m = decide (m = 0) := rfl
    have hnz : isz n = decide (n = 0) := rfl
    obtain ⟨g, hgg⟩ : ∃ c, c = ((Nat.gcd n m : Nat) : Int) := ⟨_, rfl⟩
    obtain ⟨k, hk⟩ : ∃ c, c = sgn (vz t m) := ⟨_, rfl⟩
    obtain ⟨j, hj⟩ : ∃ c, c = sgn (vz s n) := ⟨_, rfl⟩
    obtain ⟨x, hx⟩ : ∃ x, x = bl n := ⟨_, rfl⟩
    obtain ⟨y, hy⟩ : ∃ x, x = bl m := ⟨_, rfl⟩
    rw [← hgg] at hg hgl hgi
    rw [← hk] at hsg hsp
    rw [← hj] at hsn hsz
    rw [← hx] at hb
    rw [← hy] at hc
    have hv : v = .bool (!(s && decide (j = 0)) && decide (0 < k) && decide (x ≤ 480) && decide (y ≤ 480) && decide (g = 1)) := by
      rw [hv, hx, hy, hgi]
      congr 1
      have : decide (0 < k) = (!t && !isz m) := by
        rw [Bool.eq_iff_iff]; simp [hsp, hmz]
      have h2 : decide (j = 0) = isz n := by rw [hnz, decide_eq_decide]; exact hsz
      rw [this, h2]
      cases (!(s && isz n)) <;> cases t <;> cases (isz m) <;> cases (decide (bl n ≤ 480)) <;> simp
    clear hx hy hgg hk hj
    refine tree_ite (ev_nil ⟨fun h => tree_ite ?_, fun h => tree_ite ?_⟩)
    · have h : s = true := by simpa [BTm.den, Tm.i, Tm.s, Tm.den, env, vInt, vBool, vStr, exI] using h
      subst h
      refine ev_call [.int .i64 j] rfl rfl (pure_gives (hsn)) (fun β => by simp [BTm.den, Tm.i, Tm.s, Tm.den, env, vInt, vBool, vStr, exI, SW.den, SV.den, Cell.den, densP, Piece.den, denV, rowCells_mgk, iv_list, rv_list, ivZ, rvZ, mgl_agg]) (fun β => by simp [BTm.den, Tm.i, Tm.s, Tm.den, env, vInt, vBool, vStr, exI, SW.den, SV.den, Cell.den, densP, Piece.den, denV, rowCells_mgk, iv_list, rv_list, ivZ, rvZ, mgl_agg]) ?_
      refine ev_nil ⟨fun h => tree_leaf (ev_nil fun β => ?_), fun h => tree_ite ?_⟩
      · have h : j = 0 := by simpa [BTm.den, Tm.i, Tm.s, Tm.den, env, vInt, vBool, vStr, exI] using h
        rw [hv, decide_eq_true h]; simp [BTm.den, Tm.i, Tm.s, Tm.den, env, vInt, vBool, vStr, exI, SW.den, SV.den, Cell.den, densP, Piece.den, denV, rowCells_mgk, iv_list, rv_list, ivZ, rvZ, mgl_agg]
      have h : j ≠ 0 := by simpa [BTm.den, Tm.i, Tm.s, Tm.den, env, vInt, vBool, vStr, exI] using h
      refine ev_call [.int .i64 k] rfl rfl (pure_gives (hsg)) (fun β => by simp [BTm.den, Tm.i, Tm.s, Tm.den, env, vInt, vBool, vStr, exI, SW.den, SV.den, Cell.den, densP, Piece.den, denV, rowCells_mgk, iv_list, rv_list, ivZ, rvZ, mgl_agg]) (fun β => by simp [BTm.den, Tm.i, Tm.s, Tm.den, env, vInt, vBool, vStr, exI, SW.den, SV.den, Cell.den, densP, Piece.den, denV, rowCells_mgk, iv_list, rv_list, ivZ, rvZ, mgl_agg]) ?_
      refine ev_nil ⟨fun h => tree_ite ?_, fun h => tree_leaf (ev_nil fun β => ?_)⟩
      · have h' : 0 < k := by simpa [BTm.den, Tm.i, Tm.s, Tm.den, env, vInt, vBool, vStr, exI] using h
        refine ev_call [.int .i64 (x : Nat)] rfl rfl (pure_gives (hb)) (fun β => by simp [BTm.den, Tm.i, Tm.s, Tm.den, env, vInt, vBool, vStr, exI, SW.den, SV.den, Cell.den, densP, Piece.den, denV, rowCells_mgk, iv_list, rv_list, ivZ, rvZ, mgl_agg]) (fun β => by simp [BTm.den, Tm.i, Tm.s, Tm.den, env, vInt, vBool, vStr, exI, SW.den, SV.den, Cell.den, densP, Piece.den, denV, rowCells_mgk, iv_list, rv_list, ivZ, rvZ, mgl_agg]) ?_
        refine ev_nil ⟨fun h => tree_leaf (ev_nil fun β => ?_), fun h => tree_ite ?_⟩
        · have h : (480 : Int) < x := by simpa [BTm.den, Tm.i, Tm.s, Tm.den, env, vInt, vBool, vStr, exI] using h
          rw [hv, decide_eq_false (p := x ≤ 480) (by omega)]; simp [BTm.den, Tm.i, Tm.s, Tm.den, env, vInt, vBool, vStr, exI, SW.den, SV.den, Cell.den, densP, Piece.den, denV, rowCells_mgk, iv_list, rv_list, ivZ, rvZ, mgl_agg]
        have h3 : ¬ (480 : Int) < x := by simpa [BTm.den, Tm.i, Tm.s, Tm.den, env, vInt, vBool, vStr, exI] using h
        refine ev_call [.int .i64 (y : Nat)] rfl rfl (pure_gives (hc)) (fun β => by simp [BTm.den, Tm.i, Tm.s, Tm.den, env, vInt, vBool, vStr, exI, SW.den, SV.den, Cell.den, densP, Piece.den, denV, rowCells_mgk, iv_list, rv_list, ivZ, rvZ, mgl_agg]) (fun β => by simp [BTm.den, Tm.i, Tm.s, Tm.den, env, vInt, vBool, vStr, exI, SW.den, SV.den, Cell.den, densP, Piece.den, denV, rowCells_mgk, iv_list, rv_list, ivZ, rvZ, mgl_agg]) ?_
        refine ev_nil ⟨fun h => tree_leaf (ev_nil fun β => ?_), fun h => tree_leaf ?_⟩
        · have h : (480 : Int) < y := by simpa [BTm.den, Tm.i, Tm.s, Tm.den, env, vInt, vBool, vStr, exI] using h
          rw [hv, decide_eq_false (p := y ≤ 480) (by omega)]; simp [BTm.den, Tm.i, Tm.s, Tm.den, env, vInt, vBool, vStr, exI, SW.den, SV.den, Cell.den, densP, Piece.den, denV, rowCells_mgk, iv_list, rv_list, ivZ, rvZ, mgl_agg]
        have h4 : ¬ (480 : Int) < y := by simpa [BTm.den, Tm.i, Tm.s, Tm.den, env, vInt, vBool, vStr, exI] using h
        refine ev_call [.bool (decide (g < 0)), .agg (mgk 32 (g : Int).natAbs)] rfl rfl (pure_gives (hg)) (fun β => by simp [BTm.den, Tm.i, Tm.s, Tm.den, env, vInt, vBool, vStr, exI, SW.den, SV.den, Cell.den, densP, Piece.den, denV, rowCells_mgk, iv_list, rv_list, ivZ, rvZ, mgl_agg]) (fun β => by simp [BTm.den, Tm.i, Tm.s, Tm.den, env, vInt, vBool, vStr, exI, SW.den, SV.den, Cell.den, densP, Piece.den, denV, rowCells_mgk, iv_list, rv_list, ivZ, rvZ, mgl_agg]) ?_
        refine ev_call [.bool (decide (1 < 0)), .agg (mgk 32 (1 : Int).natAbs)] rfl rfl (pure_gives h1) (fun β => by simp [BTm.den, Tm.i, Tm.s, Tm.den, env, vInt, vBool, vStr, exI, SW.den, SV.den, Cell.den, densP, Piece.den, denV, denT]) (fun β => by simp [BTm.den, Tm.i, Tm.s, Tm.den, env, vInt, vBool, vStr, exI, SW.den, SV.den, Cell.den, densP, Piece.den, denV, denT, rowCells_mgk, iv_list, ivZ]) ?_
        refine ev_same (decide (g = 1)) rfl (fun β => by simp [BTm.den, Tm.i, Tm.s, Tm.den, env, vInt, vBool, vStr, exI, SW.den, SV.den, Cell.den, densP, Piece.den, denV, rowCells_mgk, iv_list, rv_list, ivZ, rvZ, mgl_agg]) (fun β => by simp [BTm.den, Tm.i, Tm.s, Tm.den, env, vInt, vBool, vStr, exI, SW.den, SV.den, Cell.den, densP, Piece.den, denV, rowCells_mgk, iv_list, rv_list, ivZ, rvZ, mgl_agg]) (same_ZZ g 1 hgl one_lt) ?_
        refine ev_nil fun β => ?_
        rw [hv, decide_eq_true (p := y ≤ 480) (by omega), decide_eq_true (p := x ≤ 480) (by omega), decide_eq_true h', decide_eq_false (p := j = 0) (by assumption)]; simp [BTm.den, Tm.i, Tm.s, Tm.den, env, vInt, vBool, vStr, exI, SW.den, SV.den, Cell.den, densP, Piece.den, denV, rowCells_mgk, iv_list, rv_list, ivZ, rvZ, mgl_agg]
      · have h : ¬ 0 < k := by simpa [BTm.den, Tm.i, Tm.s, Tm.den, env, vInt, vBool, vStr, exI] using h
        rw [hv, decide_eq_false h]; simp [BTm.den, Tm.i, Tm.s, Tm.den, env, vInt, vBool, vStr, exI, SW.den, SV.den, Cell.den, densP, Piece.den, denV, rowCells_mgk, iv_list, rv_list, ivZ, rvZ, mgl_agg]
    · have h : s = false := by simpa [BTm.den, Tm.i, Tm.s, Tm.den, env, vInt, vBool, vStr, exI] using h
      subst h
      refine ev_call [.int .i64 k] rfl rfl (pure_gives (hsg)) (fun β => by simp [BTm.den, Tm.i, Tm.s, Tm.den, env, vInt, vBool, vStr, exI, SW.den, SV.den, Cell.den, densP, Piece.den, denV, rowCells_mgk, iv_list, rv_list, ivZ, rvZ, mgl_agg]) (fun β => by simp [BTm.den, Tm.i, Tm.s, Tm.den, env, vInt, vBool, vStr, exI, SW.den, SV.den, Cell.den, densP, Piece.den, denV, rowCells_mgk, iv_list, rv_list, ivZ, rvZ, mgl_agg]) ?_
      refine ev_nil ⟨fun h => tree_ite ?_, fun h => tree_leaf (ev_nil fun β => ?_)⟩
      · have h' : 0 < k := by simpa [BTm.den, Tm.i, Tm.s, Tm.den, env, vInt, vBool, vStr, exI] using h
        refine ev_call [.int .i64 (x : Nat)] rfl rfl (pure_gives (hb)) (fun β => by simp [BTm.den, Tm.i, Tm.s, Tm.den, env, vInt, vBool, vStr, exI, SW.den, SV.den, Cell.den, densP, Piece.den, denV, rowCells_mgk, iv_list, rv_list, ivZ, rvZ, mgl_agg]) (fun β => by simp [BTm.den, Tm.i, Tm.s, Tm.den, env, vInt, vBool, vStr, exI, SW.den, SV.den, Cell.den, densP, Piece.den, denV, rowCells_mgk, iv_list, rv_list, ivZ, rvZ, mgl_agg]) ?_
        refine ev_nil ⟨fun h => tree_leaf (ev_nil fun β => ?_), fun h => tree_ite ?_⟩
        · have h : (480 : Int) < x := by simpa [BTm.den, Tm.i, Tm.s, Tm.den, env, vInt, vBool, vStr, exI] using h
          rw [hv, decide_eq_false (p := x ≤ 480) (by omega)]; simp [BTm.den, Tm.i, Tm.s, Tm.den, env, vInt, vBool, vStr, exI, SW.den, SV.den, Cell.den, densP, Piece.den, denV, rowCells_mgk, iv_list, rv_list, ivZ, rvZ, mgl_agg]
        have h3 : ¬ (480 : Int) < x := by simpa [BTm.den, Tm.i, Tm.s, Tm.den, env, vInt, vBool, vStr, exI] using h
        refine ev_call [.int .i64 (y : Nat)] rfl rfl (pure_gives (hc)) (fun β => by simp [BTm.den, Tm.i, Tm.s, Tm.den, env, vInt, vBool, vStr, exI, SW.den, SV.den, Cell.den, densP, Piece.den, denV, rowCells_mgk, iv_list, rv_list, ivZ, rvZ, mgl_agg]) (fun β => by simp [BTm.den, Tm.i, Tm.s, Tm.den, env, vInt, vBool, vStr, exI, SW.den, SV.den, Cell.den, densP, Piece.den, denV, rowCells_mgk, iv_list, rv_list, ivZ, rvZ, mgl_agg]) ?_
        refine ev_nil ⟨fun h => tree_leaf (ev_nil fun β => ?_), fun h => tree_leaf ?_⟩
        · have h : (480 : Int) < y := by simpa [BTm.den, Tm.i, Tm.s, Tm.den, env, vInt, vBool, vStr, exI] using h
          rw [hv, decide_eq_false (p := y ≤ 480) (by omega)]; simp [BTm.den, Tm.i, Tm.s, Tm.den, env, vInt, vBool, vStr, exI, SW.den, SV.den, Cell.den, densP, Piece.den, denV, rowCells_mgk, iv_list, rv_list, ivZ, rvZ, mgl_agg]
        have h4 : ¬ (480 : Int) < y := by simpa [BTm.den, Tm.i, Tm.s, Tm.den, env, vInt, vBool, vStr, exI] using h
        refine ev_call [.bool (decide (g < 0)), .agg (mgk 32 (g : Int).natAbs)] rfl rfl (pure_gives (hg)) (fun β => by simp [BTm.den, Tm.i, Tm.s, Tm.den, env, vInt, vBool, vStr, exI, SW.den, SV.den, Cell.den, densP, Piece.den, denV, rowCells_mgk, iv_list, rv_list, ivZ, rvZ, mgl_agg]) (fun β => by simp [BTm.den, Tm.i, Tm.s, Tm.den, env, vInt, vBool, vStr, exI, SW.den, SV.den, Cell.den, densP, Piece.den, denV, rowCells_mgk, iv_list, rv_list, ivZ, rvZ, mgl_agg]) ?_
        refine ev_call [.bool (decide (1 < 0)), .agg (mgk 32 (1 : Int).natAbs)] rfl rfl (pure_gives h1) (fun β => by simp [BTm.den, Tm.i, Tm.s, Tm.den, env, vInt, vBool, vStr, exI, SW.den, SV.den, Cell.den, densP, Piece.den, denV, denT]) (fun β => by simp [BTm.den, Tm.i, Tm.s, Tm.den, env, vInt, vBool, vStr, exI, SW.den, SV.den, Cell.den, densP, Piece.den, denV, denT, rowCells_mgk, iv_list, ivZ]) ?_
        refine ev_same (decide (g = 1)) rfl (fun β => by simp [BTm.den, Tm.i, Tm.s, Tm.den, env, vInt, vBool, vStr, exI, SW.den, SV.den, Cell.den, densP, Piece.den, denV, rowCells_mgk, iv_list, rv_list, ivZ, rvZ, mgl_agg]) (fun β => by simp [BTm.den, Tm.i, Tm.s, Tm.den, env, vInt, vBool, vStr, exI, SW.den, SV.den, Cell.den, densP, Piece.den, denV, rowCells_mgk, iv_list, rv_list, ivZ, rvZ, mgl_agg]) (same_ZZ g 1 hgl one_lt) ?_
        refine ev_nil fun β => ?_
        rw [hv, decide_eq_true (p := y ≤ 480) (by omega), decide_eq_true (p := x ≤ 480) (by omega), decide_eq_true h']; simp [BTm.den, Tm.i, Tm.s, Tm.den, env, vInt, vBool, vStr, exI, SW.den, SV.den, Cell.den, densP, Piece.den, denV, rowCells_mgk, iv_list, rv_list, ivZ, rvZ, mgl_agg]
      · have h : ¬ 0 < k := by simpa [BTm.den, Tm.i, Tm.s, Tm.den, env, vInt, vBool, vStr, exI] using h
        rw [hv, decide_eq_false h]; simp [BTm.den, Tm.i, Tm.s, Tm.den, env, vInt, vBool, vStr, exI, SW.den, SV.den, Cell.den, densP, Piece.den, denV, rowCells_mgk, iv_list, rv_list, ivZ, rvZ, mgl_agg]
  have h := pure_of plain [.bool s, .agg (mgk 32 n), .bool t, .agg (mgk 32 m)] tdValid_ok (by kernel_rfl) _ (hmain _ rfl)
  refine gives_pure ?_
  simpa [ratR, BTm.den, Tm.i, Tm.s, Tm.den, env, vInt, vBool, vStr, exI, SW.den, SV.den, Cell.den, densP, Piece.den, denV, denT, rowCells_mgk, rv_list] using h
end Go.Proofs.YtfdlgeomaballaaGreat
end
section
/- Make, of package ratio and of the document. -/
namespace Go.Proofs.YtfdlgeomaballaaGreat
open Go.RowKit Go.Proofs.YtfdlgeomaballaaGreat.Sx
set_option linter.unusedSimpArgs false
set_option linter.unusedVariables false

theorem vz_same (z : Int) : vz (decide (z < 0)) z.natAbs = z := by
  unfold vz; by_cases h : z < 0 <;> simp [h] <;> omega
/-- Numerator and denominator of x / y in lowest terms. -/
def mkN (x y : Int) (g : Nat) : Int := if y < 0 then -(x / (g : Int)) else x / (g : Int)
def mkF (a b : Int) : Bool := decide (bl a.natAbs ≤ 480) && decide (bl b.natAbs ≤ 480)
/-- What Make returns, for a divisor g. -/
def mkv (x y : Int) (g : Nat) : Value :=
  if y = 0 then .tuple #[.agg (rvZ 0 0), .int .i64 11]
  else if mkF (mkN x y g) (mkN y y g) = true then .tuple #[.agg (rvZ (mkN x y g) (mkN y y g)), .int .i64 0] else .tuple #[.agg (rvZ 0 0), .int .i64 10]
theorem over_neg (x : Int) (g : Nat) : x / (-(g : Int)) = -(x / (g : Int)) := Int.ediv_neg x g
theorem quo_lt {x : Int} {g : Nat} (hx : x.natAbs < pw 32) (hg : 0 < g) (hd : (g : Int) ∣ x) : (x / (g : Int)).natAbs < pw 32 := by
  obtain ⟨q, rfl⟩ := hd
  rw [Int.mul_ediv_cancel_left _ (by omega)]
  rw [Int.natAbs_mul, Int.natAbs_natCast] at hx
  exact Nat.lt_of_le_of_lt (Nat.le_mul_of_pos_left _ hg) hx
theorem rvZ_zero : rvZ 0 0 = rv false 0 false 0 := rfl
theorem zero_rat : (Value.bool false :: (List.replicate 32 (.int .u32 0) ++ Value.bool false :: List.replicate 32 (.int .u32 0))).toArray = rvZ 0 0 := by
  rw [← mgl_zero, rv_list]; rfl
set_option maxHeartbeats 2000000 in
theorem pMake (s t : Bool) (n m : Nat) (hn : n < pw 32) (hm : m < pw 32) : Gives Tryz.prog 74 #[.agg (iv s n), .agg (iv t m)] (mkv (vz s n) (vz t m) (Nat.gcd n m)) := by
  have hsg := sign_any t m hm
  have hg := gcd_of (pw 32) s t n m hn hm hm fun x y hx hy h0 _ => divide_any x y hx hy h0
  have hgl := gcd_lt hn hm
  have hz := vsgn_zero t m
  have hng := vsgn_neg t m
  obtain ⟨k, hk⟩ : ∃ c, c = sgn (vz t m) := ⟨_, rfl⟩
  rw [← hk] at hsg hz hng
  have hmain : ∀ v, v = mkv (vz s n) (vz t m) (Nat.gcd n m) → tpMake.den Tryz.prog (fun ρ' ret => ∀ β, ret.val.den (env ρ') β = v) [.bool s, .agg (mgk 32 n), .bool t, .agg (mgk 32 m)] := by
    intro v hv
    unfold mkv at hv
    refine tree_ite ?_
    refine ev_call [.int .i64 k] rfl rfl (pure_gives (hsg)) (fun β => by simp [BTm.den, Tm.i, Tm.s, Tm.den, env, vInt, vBool, vStr, exI, SW.den, SV.den, Cell.den, densP, Piece.den, denV, rowCells_mgk, iv_list, rv_list, ivZ, rvZ, mgl_agg]) (fun β => by simp [BTm.den, Tm.i, Tm.s, Tm.den, env, vInt, vBool, vStr, exI, SW.den, SV.den, Cell.den, densP, Piece.den, denV, rowCells_mgk, iv_list, rv_list, ivZ, rvZ, mgl_agg]) ?_
    refine ev_nil ⟨fun h => tree_leaf (ev_nil fun β => ?_), fun h => tree_ite ?_⟩
    · have h : k = 0 := by simpa [BTm.den, Tm.i, Tm.s, Tm.den, env, vInt, vBool, vStr, exI] using h
      have hm0 : m = 0 := hz.1 h
      have : vz t m = 0 := by rw [hm0]; cases t <;> rfl
      rw [if_pos this] at hv
      rw [hv, ← zero_rat]; simp [BTm.den, Tm.i, Tm.s, Tm.den, env, vInt, vBool, vStr, exI, SW.den, SV.den, Cell.den, densP, Piece.den, denV, denT]
    have h : k ≠ 0 := by simpa [BTm.den, Tm.i, Tm.s, Tm.den, env, vInt, vBool, vStr, exI] using h
    have hm0 : m ≠ 0 := fun h2 => h (hz.2 h2)
    have hy0 : vz t m ≠ 0 := vz_ne (by omega)
    rw [if_neg hy0] at hv
    have hgp : 0 < Nat.gcd n m := Nat.gcd_pos_of_pos_right _ (by omega)
    have hdx : ((Nat.gcd n m : Nat) : Int) ∣ vz s n := by
      have : ((Nat.gcd n m : Nat) : Int) ∣ (n : Int) := Int.natCast_dvd_natCast.2 (Nat.gcd_dvd_left ..)
      unfold vz; split
      · exact (Int.dvd_neg).2 this
      · exact this
    have hdy : ((Nat.gcd n m : Nat) : Int) ∣ vz t m := by
      have : ((Nat.gcd n m : Nat) : Int) ∣ (m : Int) := Int.natCast_dvd_natCast.2 (Nat.gcd_dvd_right ..)
      unfold vz; split
      · exact (Int.dvd_neg).2 this
      · exact this
    have hxl := quo_lt (by rw [vz_abs]; exact hn) hgp hdx
    have hyl := quo_lt (by rw [vz_abs]; exact hm) hgp hdy
    have hgl' : Nat.gcd n m < pw 32 := by simpa using hgl
    have ho1 := fun (b : Bool) => over_any s b n (Nat.gcd n m) hn hgl' hgp
    have ho2 := fun (b : Bool) => over_any t b m (Nat.gcd n m) hm hgl' hgp
    have hneg : vz t m < 0 ↔ k < 0 := by
      rw [hng]; unfold vz; cases t <;> simp <;> omega
    have hgn := neg_any false (Nat.gcd n m) hgl'
    obtain ⟨x, hx⟩ : ∃ c, c = vz s n := ⟨_, rfl⟩
    obtain ⟨y, hy⟩ : ∃ c, c = vz t m := ⟨_, rfl⟩
    rw [← hx] at hxl hdx ho1 hv
    rw [← hy] at hyl hdy ho2 hv hneg
    obtain ⟨g, hgg⟩ : ∃ c, c = Nat.gcd n m := ⟨_, rfl⟩
    rw [← hgg] at hg hxl hyl ho1 ho2 hv hgn hgp hgl'
    have e1 : vz true g = -(g : Int) := rfl
    have e2 : vz false g = (g : Int) := rfl
    have hgd : decide ((g : Int) < 0) = false := decide_eq_false (by omega)
    have hgd2 : decide (-(g : Int) < 0) = true := decide_eq_true (by omega)
    rw [e2] at hgn
    have hgiv : ivZ ((g : Nat) : Int) = iv false g := by unfold ivZ; rw [hgd]; rfl
    have hgiv2 : ivZ (-((g : Nat) : Int)) = iv true g := by unfold ivZ; rw [hgd2, Int.natAbs_neg]; rfl
    rw [hgiv] at hg
    rw [hgiv2] at hgn
    refine ev_call [.bool false, .agg (mgk 32 g)] rfl rfl (pure_gives (hg)) (fun β => by simp [BTm.den, Tm.i, Tm.s, Tm.den, env, vInt, vBool, vStr, exI, SW.den, SV.den, Cell.den, densP, Piece.den, denV, rowCells_mgk, iv_list, rv_list, ivZ, rvZ, mgl_agg]) (fun β => by simp [BTm.den, Tm.i, Tm.s, Tm.den, env, vInt, vBool, vStr, exI, SW.den, SV.den, Cell.den, densP, Piece.den, denV, rowCells_mgk, iv_list, rv_list, ivZ, rvZ, mgl_agg]) ?_
    refine ev_call [.int .i64 k] rfl rfl (pure_gives (hsg)) (fun β => by simp [BTm.den, Tm.i, Tm.s, Tm.den, env, vInt, vBool, vStr, exI, SW.den, SV.den, Cell.den, densP, Piece.den, denV, rowCells_mgk, iv_list, rv_list, ivZ, rvZ, mgl_agg]) (fun β => by simp [BTm.den, Tm.i, Tm.s, Tm.den, env, vInt, vBool, vStr, exI, SW.den, SV.den, Cell.den, densP, Piece.den, denV, rowCells_mgk, iv_list, rv_list, ivZ, rvZ, mgl_agg]) ?_
    refine ev_nil ⟨fun h2 => tree_ite ?_, fun h2 => tree_ite ?_⟩
    · have h2 : k < 0 := by simpa [BTm.den, Tm.i, Tm.s, Tm.den, env, vInt, vBool, vStr, exI] using h2
      have h3 := ho1 true
      have h4 := ho2 true
      rw [e1, over_neg] at h3 h4
      unfold mkN at hv
      rw [if_pos (hneg.2 h2), if_pos (hneg.2 h2)] at hv
      rw [← Int.natAbs_neg] at hxl hyl
      obtain ⟨a, ha⟩ : ∃ c, c = -(x / (g : Int)) := ⟨_, rfl⟩
      obtain ⟨b, hb⟩ : ∃ c, c = -(y / (g : Int)) := ⟨_, rfl⟩
      rw [← ha] at h3 hxl hv
      rw [← hb] at h4 hyl hv
      have hf := fits_rat (decide (a < 0)) (decide (b < 0)) a.natAbs b.natAbs hxl hyl
      have hff : (decide (bl a.natAbs ≤ 480) && decide (bl b.natAbs ≤ 480)) = mkF a b := rfl
      rw [hff] at hf
      obtain ⟨f, hfe⟩ : ∃ c, c = mkF a b := ⟨_, rfl⟩
      rw [← hfe] at hf hv
      refine ev_call [.bool true, .agg (mgk 32 g)] rfl rfl (pure_gives (hgn)) (fun β => by simp [BTm.den, Tm.i, Tm.s, Tm.den, env, vInt, vBool, vStr, exI, SW.den, SV.den, Cell.den, densP, Piece.den, denV, rowCells_mgk, iv_list, rv_list, ivZ, rvZ, mgl_agg]) (fun β => by simp [BTm.den, Tm.i, Tm.s, Tm.den, env, vInt, vBool, vStr, exI, SW.den, SV.den, Cell.den, densP, Piece.den, denV, rowCells_mgk, iv_list, rv_list, ivZ, rvZ, mgl_agg]) ?_
      refine ev_call [.bool (decide (a < 0)), .agg (mgk 32 (a : Int).natAbs)] rfl rfl (pure_gives (h3)) (fun β => by simp [BTm.den, Tm.i, Tm.s, Tm.den, env, vInt, vBool, vStr, exI, SW.den, SV.den, Cell.den, densP, Piece.den, denV, rowCells_mgk, iv_list, rv_list, ivZ, rvZ, mgl_agg]) (fun β => by simp [BTm.den, Tm.i, Tm.s, Tm.den, env, vInt, vBool, vStr, exI, SW.den, SV.den, Cell.den, densP, Piece.den, denV, rowCells_mgk, iv_list, rv_list, ivZ, rvZ, mgl_agg]) ?_
      refine ev_call [.bool (decide (b < 0)), .agg (mgk 32 (b : Int).natAbs)] rfl rfl (pure_gives (h4)) (fun β => by simp [BTm.den, Tm.i, Tm.s, Tm.den, env, vInt, vBool, vStr, exI, SW.den, SV.den, Cell.den, densP, Piece.den, denV, rowCells_mgk, iv_list, rv_list, ivZ, rvZ, mgl_agg]) (fun β => by simp [BTm.den, Tm.i, Tm.s, Tm.den, env, vInt, vBool, vStr, exI, SW.den, SV.den, Cell.den, densP, Piece.den, denV, rowCells_mgk, iv_list, rv_list, ivZ, rvZ, mgl_agg]) ?_
      refine ev_call [.bool f] rfl rfl (pure_gives (hf)) (fun β => by simp [BTm.den, Tm.i, Tm.s, Tm.den, env, vInt, vBool, vStr, exI, SW.den, SV.den, Cell.den, densP, Piece.den, denV, rowCells_mgk, iv_list, rv_list, ivZ, rvZ, mgl_agg]) (fun β => by simp [BTm.den, Tm.i, Tm.s, Tm.den, env, vInt, vBool, vStr, exI, SW.den, SV.den, Cell.den, densP, Piece.den, denV, rowCells_mgk, iv_list, rv_list, ivZ, rvZ, mgl_agg]) ?_
      refine ev_nil ⟨fun h5 => tree_leaf (ev_nil fun β => ?_), fun h5 => tree_leaf (ev_nil fun β => ?_)⟩
      · have h5 : f = true := by simpa [BTm.den, Tm.i, Tm.s, Tm.den, env, vInt, vBool, vStr, exI] using h5
        rw [if_pos h5] at hv
        rw [hv]; simp [BTm.den, Tm.i, Tm.s, Tm.den, env, vInt, vBool, vStr, exI, SW.den, SV.den, Cell.den, densP, Piece.den, denV, rowCells_mgk, iv_list, rv_list, ivZ, rvZ, mgl_agg]
      · have h5 : f = false := by simpa [BTm.den, Tm.i, Tm.s, Tm.den, env, vInt, vBool, vStr, exI] using h5
        rw [h5, if_neg (by simp)] at hv
        rw [hv, ← zero_rat]; simp [BTm.den, Tm.i, Tm.s, Tm.den, env, vInt, vBool, vStr, exI, SW.den, SV.den, Cell.den, densP, Piece.den, denV, denT]
    · have h2 : ¬ k < 0 := by simpa [BTm.den, Tm.i, Tm.s, Tm.den, env, vInt, vBool, vStr, exI] using h2
      have h3 := ho1 false
      have h4 := ho2 false
      rw [e2] at h3 h4
      unfold mkN at hv
      rw [if_neg (fun h => h2 (hneg.1 h)), if_neg (fun h => h2 (hneg.1 h))] at hv
      obtain ⟨a, ha⟩ : ∃ c, c = (x / (g : Int)) := ⟨_, rfl⟩
      obtain ⟨b, hb⟩ : ∃ c, c = (y / (g : Int)) := ⟨_, rfl⟩
      rw [← ha] at h3 hxl hv
      rw [← hb] at h4 hyl hv
      have hf := fits_rat (decide (a < 0)) (decide (b < 0)) a.natAbs b.natAbs hxl hyl
      have hff : (decide (bl a.natAbs ≤ 480) && decide (bl b.natAbs ≤ 480)) = mkF a b := rfl
      rw [hff] at hf
      obtain ⟨f, hfe⟩ : ∃ c, c = mkF a b := ⟨_, rfl⟩
      rw [← hfe] at hf hv
      refine ev_call [.bool (decide (a < 0)), .agg (mgk 32 (a : Int).natAbs)] rfl rfl (pure_gives (h3)) (fun β => by simp [BTm.den, Tm.i, Tm.s, Tm.den, env, vInt, vBool, vStr, exI, SW.den, SV.den, Cell.den, densP, Piece.den, denV, rowCells_mgk, iv_list, rv_list, ivZ, rvZ, mgl_agg]) (fun β => by simp [BTm.den, Tm.i, Tm.s, Tm.den, env, vInt, vBool, vStr, exI, SW.den, SV.den, Cell.den, densP, Piece.den, denV, rowCells_mgk, iv_list, rv_list, ivZ, rvZ, mgl_agg]) ?_
      refine ev_call [.bool (decide (b < 0)), .agg (mgk 32 (b : Int).natAbs)] rfl rfl (pure_gives (h4)) (fun β => by simp [BTm.den, Tm.i, Tm.s, Tm.den, env, vInt, vBool, vStr, exI, SW.den, SV.den, Cell.den, densP, Piece.den, denV, rowCells_mgk, iv_list, rv_list, ivZ, rvZ, mgl_agg]) (fun β => by simp [BTm.den, Tm.i, Tm.s, Tm.den, env, vInt, vBool, vStr, exI, SW.den, SV.den, Cell.den, densP, Piece.den, denV, rowCells_mgk, iv_list, rv_list, ivZ, rvZ, mgl_agg]) ?_
      refine ev_call [.bool f] rfl rfl (pure_gives (hf)) (fun β => by simp [BTm.den, Tm.i, Tm.s, Tm.den, env, vInt, vBool, vStr, exI, SW.den, SV.den, Cell.den, densP, Piece.den, denV, rowCells_mgk, iv_list, rv_list, ivZ, rvZ, mgl_agg]) (fun β => by simp [BTm.den, Tm.i, Tm.s, Tm.den, env, vInt, vBool, vStr, exI, SW.den, SV.den, Cell.den, densP, Piece.den, denV, rowCells_mgk, iv_list, rv_list, ivZ, rvZ, mgl_agg]) ?_
      refine ev_nil ⟨fun h5 => tree_leaf (ev_nil fun β => ?_), fun h5 => tree_leaf (ev_nil fun β => ?_)⟩
      · have h5 : f = true := by simpa [BTm.den, Tm.i, Tm.s, Tm.den, env, vInt, vBool, vStr, exI] using h5
        rw [if_pos h5] at hv
        rw [hv]; simp [BTm.den, Tm.i, Tm.s, Tm.den, env, vInt, vBool, vStr, exI, SW.den, SV.den, Cell.den, densP, Piece.den, denV, rowCells_mgk, iv_list, rv_list, ivZ, rvZ, mgl_agg]
      · have h5 : f = false := by simpa [BTm.den, Tm.i, Tm.s, Tm.den, env, vInt, vBool, vStr, exI] using h5
        rw [h5, if_neg (by simp)] at hv
        rw [hv, ← zero_rat]; simp [BTm.den, Tm.i, Tm.s, Tm.den, env, vInt, vBool, vStr, exI, SW.den, SV.den, Cell.den, densP, Piece.den, denV, denT]
  have h := pure_of plain [.bool s, .agg (mgk 32 n), .bool t, .agg (mgk 32 m)] tpMake_ok (by kernel_rfl) _ (hmain _ rfl)
  refine gives_pure ?_
  simpa [intB, BTm.den, Tm.i, Tm.s, Tm.den, env, vInt, vBool, vStr, exI, SW.den, SV.den, Cell.den, densP, Piece.den, denV, denT, rowCells_mgk, iv_list] using h
end Go.Proofs.YtfdlgeomaballaaGreat
end
section
/- Make, of the document. -/
namespace Go.Proofs.YtfdlgeomaballaaGreat
open Go.RowKit Go.Proofs.YtfdlgeomaballaaGreat.Sx
set_option linter.unusedSimpArgs false
set_option linter.unusedVariables false

theorem sgn_lt (z : Int) : sgn z < 0 ↔ z < 0 := by unfold sgn; split <;> (try split) <;> omega
theorem quo_neg {y : Int} {g : Nat} (hg : 0 < g) (hd : (g : Int) ∣ y) : y / (g : Int) < 0 ↔ y < 0 := by
  obtain ⟨q, rfl⟩ := hd
  rw [Int.mul_ediv_cancel_left _ (by omega)]
  constructor
  · intro h; exact Int.mul_neg_of_pos_of_neg (by omega) h
  · intro h
    by_cases h2 : q < 0
    · exact h2
    · have := Int.mul_nonneg (show (0 : Int) ≤ (g : Int) by omega) (show 0 ≤ q by omega)
      omega
theorem dvd_vz {g n : Nat} (s : Bool) (h : g ∣ n) : ((g : Nat) : Int) ∣ vz s n := by
  have : ((g : Nat) : Int) ∣ (n : Int) := Int.natCast_dvd_natCast.2 h
  unfold vz; split
  · exact (Int.dvd_neg).2 this
  · exact this
theorem rsign_Z (z : Int) (hz : z.natAbs < pw 32) : Gives Tryz.prog 15 #[.agg (ivZ z)] (.int .i64 (sgn z)) := by
  have := rsign_any (decide (z < 0)) z.natAbs hz
  rwa [vz_self] at this
theorem rneg_Z (z : Int) (hz : z.natAbs < pw 32) : Gives Tryz.prog 51 #[.agg (ivZ z)] (.agg (ivZ (-z))) := by
  have := rneg_any (decide (z < 0)) z.natAbs hz
  rwa [vz_self] at this
theorem rbits_Z (z : Int) (hz : z.natAbs < pw 32) : Gives Tryz.prog 52 #[.agg (ivZ z)] (.int .i64 ((bl z.natAbs : Nat) : Int)) := rbits_any (decide (z < 0)) z.natAbs hz
set_option maxHeartbeats 2000000 in
theorem dMake (s t : Bool) (n m : Nat) (hn : n < pw 32) (hm : m < pw 32) : Gives Tryz.prog 21 #[.agg (iv s n), .agg (iv t m)] (mkv (vz s n) (vz t m) (Nat.gcd n m)) := by
  have hsg := rsign_any t m hm
  have hg := rgcd_any s t n m hn hm
  have hgl := gcd_lt hn hm
  have hz := vsgn_zero t m
  obtain ⟨k, hk⟩ : ∃ c, c = sgn (vz t m) := ⟨_, rfl⟩
  rw [← hk] at hsg hz
  have hmain : ∀ v, v = mkv (vz s n) (vz t m) (Nat.gcd n m) → tdMake.den Tryz.prog (fun ρ' ret => ∀ β, ret.val.den (env ρ') β = v) [.bool s, .agg (mgk 32 n), .bool t, .agg (mgk 32 m)] := by
    intro v hv
    unfold mkv at hv
    refine tree_ite ?_
    refine ev_call [.int .i64 k] rfl rfl (pure_gives (hsg)) (fun β => by simp [BTm.den, Tm.i, Tm.s, Tm.den, env, vInt, vBool, vStr, exI, SW.den, SV.den, Cell.den, densP, Piece.den, denV, rowCells_mgk, iv_list, rv_list, ivZ, rvZ, mgl_agg]) (fun β => by simp [BTm.den, Tm.i, Tm.s, Tm.den, env, vInt, vBool, vStr, exI, SW.den, SV.den, Cell.den, densP, Piece.den, denV, rowCells_mgk, iv_list, rv_list, ivZ, rvZ, mgl_agg]) ?_
    refine ev_nil ⟨fun h => tree_leaf (ev_nil fun β => ?_), fun h => tree_ite ?_⟩
    · have h : k = 0 := by simpa [BTm.den, Tm.i, Tm.s, Tm.den, env, vInt, vBool, vStr, exI] using h
      have hm0 : m = 0 := hz.1 h
      have : vz t m = 0 := by rw [hm0]; cases t <;> rfl
      rw [if_pos this] at hv
      rw [hv, ← zero_rat]; simp [BTm.den, Tm.i, Tm.s, Tm.den, env, vInt, vBool, vStr, exI, SW.den, SV.den, Cell.den, densP, Piece.den, denV, denT]
    have h : k ≠ 0 := by simpa [BTm.den, Tm.i, Tm.s, Tm.den, env, vInt, vBool, vStr, exI] using h
    have hm0 : m ≠ 0 := fun h2 => h (hz.2 h2)
    have hy0 : vz t m ≠ 0 := vz_ne (by omega)
    rw [if_neg hy0] at hv
    have hgp : 0 < Nat.gcd n m := Nat.gcd_pos_of_pos_right _ (by omega)
    have hdx := dvd_vz s (Nat.gcd_dvd_left n m)
    have hdy := dvd_vz t (Nat.gcd_dvd_right n m)
    have hxl := quo_lt (by rw [vz_abs]; exact hn) hgp hdx
    have hyl := quo_lt (by rw [vz_abs]; exact hm) hgp hdy
    have hgl' : Nat.gcd n m < pw 32 := by simpa using hgl
    have ho1 := rdivMod_any s false n (Nat.gcd n m) hn hgl' hgp
    have ho2 := rdivMod_any t false m (Nat.gcd n m) hm hgl' hgp
    unfold divR at ho1 ho2
    have hneg := quo_neg hgp hdy
    obtain ⟨x, hx⟩ : ∃ c, c = vz s n := ⟨_, rfl⟩
    obtain ⟨y, hy⟩ : ∃ c, c = vz t m := ⟨_, rfl⟩
    rw [← hx] at hxl hdx ho1 hv
    rw [← hy] at hyl hdy ho2 hv hneg
    obtain ⟨g, hgg⟩ : ∃ c, c = Nat.gcd n m := ⟨_, rfl⟩
    rw [← hgg] at hg hxl hyl ho1 ho2 hv hgp hgl' hneg
    have e2 : vz false g = (g : Int) := rfl
    have hgd : decide ((g : Int) < 0) = false := decide_eq_false (by omega)
    have hgiv : ivZ ((g : Nat) : Int) = iv false g := by unfold ivZ; rw [hgd]; rfl
    rw [hgiv] at hg
    rw [e2] at ho1 ho2
    unfold mkN at hv
    obtain ⟨a, ha⟩ : ∃ c, c = (x / (g : Int)) := ⟨_, rfl⟩
    obtain ⟨b, hb⟩ : ∃ c, c = (y / (g : Int)) := ⟨_, rfl⟩
    obtain ⟨a', ha'⟩ : ∃ c, c = (x % (g : Int)) := ⟨_, rfl⟩
    obtain ⟨b', hb'⟩ : ∃ c, c = (y % (g : Int)) := ⟨_, rfl⟩
    rw [← ha, ← ha'] at ho1
    rw [← hb, ← hb'] at ho2
    rw [← ha] at hxl hv
    rw [← hb] at hyl hv hneg
    have hsb := rsign_Z b hyl
    have hsl := sgn_lt b
    obtain ⟨k2, hk2⟩ : ∃ c, c = sgn b := ⟨_, rfl⟩
    rw [← hk2] at hsb hsl
    refine ev_call [.bool false, .agg (mgk 32 g)] rfl rfl (pure_gives (hg)) (fun β => by simp [BTm.den, Tm.i, Tm.s, Tm.den, env, vInt, vBool, vStr, exI, SW.den, SV.den, Cell.den, densP, Piece.den, denV, rowCells_mgk, iv_list, rv_list, ivZ, rvZ, mgl_agg]) (fun β => by simp [BTm.den, Tm.i, Tm.s, Tm.den, env, vInt, vBool, vStr, exI, SW.den, SV.den, Cell.den, densP, Piece.den, denV, rowCells_mgk, iv_list, rv_list, ivZ, rvZ, mgl_agg]) ?_
    refine ev_call [.bool (decide (a < 0)), .agg (mgk 32 (a : Int).natAbs), .bool (decide (a' < 0)), .agg (mgk 32 (a' : Int).natAbs), .int .i64 0] rfl rfl (pure_gives (ho1)) (fun β => by simp [BTm.den, Tm.i, Tm.s, Tm.den, env, vInt, vBool, vStr, exI, SW.den, SV.den, Cell.den, densP, Piece.den, denV, rowCells_mgk, iv_list, rv_list, ivZ, rvZ, mgl_agg]) (fun β => by simp [BTm.den, Tm.i, Tm.s, Tm.den, env, vInt, vBool, vStr, exI, SW.den, SV.den, Cell.den, densP, Piece.den, denV, rowCells_mgk, iv_list, rv_list, ivZ, rvZ, mgl_agg]) ?_
    refine ev_call [.bool (decide (b < 0)), .agg (mgk 32 (b : Int).natAbs), .bool (decide (b' < 0)), .agg (mgk 32 (b' : Int).natAbs), .int .i64 0] rfl rfl (pure_gives (ho2)) (fun β => by simp [BTm.den, Tm.i, Tm.s, Tm.den, env, vInt, vBool, vStr, exI, SW.den, SV.den, Cell.den, densP, Piece.den, denV, rowCells_mgk, iv_list, rv_list, ivZ, rvZ, mgl_agg]) (fun β => by simp [BTm.den, Tm.i, Tm.s, Tm.den, env, vInt, vBool, vStr, exI, SW.den, SV.den, Cell.den, densP, Piece.den, denV, rowCells_mgk, iv_list, rv_list, ivZ, rvZ, mgl_agg]) ?_
    refine ev_call [.int .i64 k2] rfl rfl (pure_gives (hsb)) (fun β => by simp [BTm.den, Tm.i, Tm.s, Tm.den, env, vInt, vBool, vStr, exI, SW.den, SV.den, Cell.den, densP, Piece.den, denV, rowCells_mgk, iv_list, rv_list, ivZ, rvZ, mgl_agg]) (fun β => by simp [BTm.den, Tm.i, Tm.s, Tm.den, env, vInt, vBool, vStr, exI, SW.den, SV.den, Cell.den, densP, Piece.den, denV, rowCells_mgk, iv_list, rv_list, ivZ, rvZ, mgl_agg]) ?_
    refine ev_nil ⟨fun h2 => tree_ite ?_, fun h2 => tree_ite ?_⟩
    · have h2 : k2 < 0 := by simpa [BTm.den, Tm.i, Tm.s, Tm.den, env, vInt, vBool, vStr, exI] using h2
      have h3 : y < 0 := hneg.1 (hsl.1 h2)
      rw [if_pos h3, if_pos h3] at hv
      have hna := rneg_Z a hxl
      have hnb := rneg_Z b hyl
      have hxl' : (-a).natAbs < pw 32 := by rw [Int.natAbs_neg]; exact hxl
      have hyl' : (-b).natAbs < pw 32 := by rw [Int.natAbs_neg]; exact hyl
      obtain ⟨c, hc⟩ : ∃ c, c = -a := ⟨_, rfl⟩
      obtain ⟨d, hd⟩ : ∃ c, c = -b := ⟨_, rfl⟩
      rw [← hc] at hna hxl' hv
      rw [← hd] at hnb hyl' hv
      have hba := rbits_Z c hxl'
      have hbb := rbits_Z d hyl'
      unfold mkF at hv
      obtain ⟨p, hp⟩ : ∃ p, p = bl c.natAbs := ⟨_, rfl⟩
      obtain ⟨q, hq⟩ : ∃ p, p = bl d.natAbs := ⟨_, rfl⟩
      rw [← hp] at hba hv
      rw [← hq] at hbb hv
      refine ev_call [.bool (decide (c < 0)), .agg (mgk 32 (c : Int).natAbs)] rfl rfl (pure_gives (hna)) (fun β => by simp [BTm.den, Tm.i, Tm.s, Tm.den, env, vInt, vBool, vStr, exI, SW.den, SV.den, Cell.den, densP, Piece.den, denV, rowCells_mgk, iv_list, rv_list, ivZ, rvZ, mgl_agg]) (fun β => by simp [BTm.den, Tm.i, Tm.s, Tm.den, env, vInt, vBool, vStr, exI, SW.den, SV.den, Cell.den, densP, Piece.den, denV, rowCells_mgk, iv_list, rv_list, ivZ, rvZ, mgl_agg]) ?_
      refine ev_call [.bool (decide (d < 0)), .agg (mgk 32 (d : Int).natAbs)] rfl rfl (pure_gives (hnb)) (fun β => by simp [BTm.den, Tm.i, Tm.s, Tm.den, env, vInt, vBool, vStr, exI, SW.den, SV.den, Cell.den, densP, Piece.den, denV, rowCells_mgk, iv_list, rv_list, ivZ, rvZ, mgl_agg]) (fun β => by simp [BTm.den, Tm.i, Tm.s, Tm.den, env, vInt, vBool, vStr, exI, SW.den, SV.den, Cell.den, densP, Piece.den, denV, rowCells_mgk, iv_list, rv_list, ivZ, rvZ, mgl_agg]) ?_
      refine ev_call [.int .i64 (p : Nat)] rfl rfl (pure_gives (hba)) (fun β => by simp [BTm.den, Tm.i, Tm.s, Tm.den, env, vInt, vBool, vStr, exI, SW.den, SV.den, Cell.den, densP, Piece.den, denV, rowCells_mgk, iv_list, rv_list, ivZ, rvZ, mgl_agg]) (fun β => by simp [BTm.den, Tm.i, Tm.s, Tm.den, env, vInt, vBool, vStr, exI, SW.den, SV.den, Cell.den, densP, Piece.den, denV, rowCells_mgk, iv_list, rv_list, ivZ, rvZ, mgl_agg]) ?_
      refine ev_nil ⟨fun h5 => tree_leaf (ev_nil fun β => ?_), fun h5 => tree_ite ?_⟩
      · have h5 : (480 : Int) < p := by simpa [BTm.den, Tm.i, Tm.s, Tm.den, env, vInt, vBool, vStr, exI] using h5
        rw [decide_eq_false (p := p ≤ 480) (by omega), if_neg (by simp)] at hv
        rw [hv, ← zero_rat]; simp [BTm.den, Tm.i, Tm.s, Tm.den, env, vInt, vBool, vStr, exI, SW.den, SV.den, Cell.den, densP, Piece.den, denV, denT]
      have h5 : ¬ (480 : Int) < p := by simpa [BTm.den, Tm.i, Tm.s, Tm.den, env, vInt, vBool, vStr, exI] using h5
      rw [decide_eq_true (p := p ≤ 480) (by omega)] at hv
      refine ev_call [.int .i64 (q : Nat)] rfl rfl (pure_gives (hbb)) (fun β => by simp [BTm.den, Tm.i, Tm.s, Tm.den, env, vInt, vBool, vStr, exI, SW.den, SV.den, Cell.den, densP, Piece.den, denV, rowCells_mgk, iv_list, rv_list, ivZ, rvZ, mgl_agg]) (fun β => by simp [BTm.den, Tm.i, Tm.s, Tm.den, env, vInt, vBool, vStr, exI, SW.den, SV.den, Cell.den, densP, Piece.den, denV, rowCells_mgk, iv_list, rv_list, ivZ, rvZ, mgl_agg]) ?_
      refine ev_nil ⟨fun h6 => tree_leaf (ev_nil fun β => ?_), fun h6 => tree_leaf (ev_nil fun β => ?_)⟩
      · have h6 : (480 : Int) < q := by simpa [BTm.den, Tm.i, Tm.s, Tm.den, env, vInt, vBool, vStr, exI] using h6
        rw [decide_eq_false (p := q ≤ 480) (by omega), if_neg (by simp)] at hv
        rw [hv, ← zero_rat]; simp [BTm.den, Tm.i, Tm.s, Tm.den, env, vInt, vBool, vStr, exI, SW.den, SV.den, Cell.den, densP, Piece.den, denV, denT]
      · have h6 : ¬ (480 : Int) < q := by simpa [BTm.den, Tm.i, Tm.s, Tm.den, env, vInt, vBool, vStr, exI] using h6
        rw [decide_eq_true (p := q ≤ 480) (by omega), if_pos (by simp)] at hv
        rw [hv]; simp [BTm.den, Tm.i, Tm.s, Tm.den, env, vInt, vBool, vStr, exI, SW.den, SV.den, Cell.den, densP, Piece.den, denV, rowCells_mgk, iv_list, rv_list, ivZ, rvZ, mgl_agg]
    · have h2 : ¬ k2 < 0 := by simpa [BTm.den, Tm.i, Tm.s, Tm.den, env, vInt, vBool, vStr, exI] using h2
      have h3 : ¬ y < 0 := fun h => h2 (hsl.2 (hneg.2 h))
      rw [if_neg h3, if_neg h3] at hv
      have hba := rbits_Z a hxl
      have hbb := rbits_Z b hyl
      unfold mkF at hv
      obtain ⟨p, hp⟩ : ∃ p, p = bl a.natAbs := ⟨_, rfl⟩
      obtain ⟨q, hq⟩ : ∃ p, p = bl b.natAbs := ⟨_, rfl⟩
      rw [← hp] at hba hv
      rw [← hq] at hbb hv
      refine ev_call [.int .i64 (p : Nat)] rfl rfl (pure_gives (hba)) (fun β => by simp [BTm.den, Tm.i, Tm.s, Tm.den, env, vInt, vBool, vStr, exI, SW.den, SV.den, Cell.den, densP, Piece.den, denV, rowCells_mgk, iv_list, rv_list, ivZ, rvZ, mgl_agg]) (fun β => by simp [BTm.den, Tm.i, Tm.s, Tm.den, env, vInt, vBool, vStr, exI, SW.den, SV.den, Cell.den, densP, Piece.den, denV, rowCells_mgk, iv_list, rv_list, ivZ, rvZ, mgl_agg]) ?_
      refine ev_nil ⟨fun h5 => tree_leaf (ev_nil fun β => ?_), fun h5 => tree_ite ?_⟩
      · have h5 : (480 : Int) < p := by simpa [BTm.den, Tm.i, Tm.s, Tm.den, env, vInt, vBool, vStr, exI] using h5
        rw [decide_eq_false (p := p ≤ 480) (by omega), if_neg (by simp)] at hv
        rw [hv, ← zero_rat]; simp [BTm.den, Tm.i, Tm.s, Tm.den, env, vInt, vBool, vStr, exI, SW.den, SV.den, Cell.den, densP, Piece.den, denV, denT]
      have h5 : ¬ (480 : Int) < p := by simpa [BTm.den, Tm.i, Tm.s, Tm.den, env, vInt, vBool, vStr, exI] using h5
      rw [decide_eq_true (p := p ≤ 480) (by omega)] at hv
      refine ev_call [.int .i64 (q : Nat)] rfl rfl (pure_gives (hbb)) (fun β => by simp [BTm.den, Tm.i, Tm.s, Tm.den, env, vInt, vBool, vStr, exI, SW.den, SV.den, Cell.den, densP, Piece.den, denV, rowCells_mgk, iv_list, rv_list, ivZ, rvZ, mgl_agg]) (fun β => by simp [BTm.den, Tm.i, Tm.s, Tm.den, env, vInt, vBool, vStr, exI, SW.den, SV.den, Cell.den, densP, Piece.den, denV, rowCells_mgk, iv_list, rv_list, ivZ, rvZ, mgl_agg]) ?_
      refine ev_nil ⟨fun h6 => tree_leaf (ev_nil fun β => ?_), fun h6 => tree_leaf (ev_nil fun β => ?_)⟩
      · have h6 : (480 : Int) < q := by simpa [BTm.den, Tm.i, Tm.s, Tm.den, env, vInt, vBool, vStr, exI] using h6
        rw [decide_eq_false (p := q ≤ 480) (by omega), if_neg (by simp)] at hv
        rw [hv, ← zero_rat]; simp [BTm.den, Tm.i, Tm.s, Tm.den, env, vInt, vBool, vStr, exI, SW.den, SV.den, Cell.den, densP, Piece.den, denV, denT]
      · have h6 : ¬ (480 : Int) < q := by simpa [BTm.den, Tm.i, Tm.s, Tm.den, env, vInt, vBool, vStr, exI] using h6
        rw [decide_eq_true (p := q ≤ 480) (by omega), if_pos (by simp)] at hv
        rw [hv]; simp [BTm.den, Tm.i, Tm.s, Tm.den, env, vInt, vBool, vStr, exI, SW.den, SV.den, Cell.den, densP, Piece.den, denV, rowCells_mgk, iv_list, rv_list, ivZ, rvZ, mgl_agg]
  have h := pure_of plain [.bool s, .agg (mgk 32 n), .bool t, .agg (mgk 32 m)] tdMake_ok (by kernel_rfl) _ (hmain _ rfl)
  refine gives_pure ?_
  simpa [intB, BTm.den, Tm.i, Tm.s, Tm.den, env, vInt, vBool, vStr, exI, SW.den, SV.den, Cell.den, densP, Piece.den, denV, denT, rowCells_mgk, iv_list] using h
end Go.Proofs.YtfdlgeomaballaaGreat
end
section
/- Sums and products of ratios: package ratio and the document. -/
namespace Go.Proofs.YtfdlgeomaballaaGreat
open Go.RowKit Go.Proofs.YtfdlgeomaballaaGreat.Sx
set_option linter.unusedSimpArgs false
set_option linter.unusedVariables false

/-- What Make returns for numbers. -/
def mkZ (x y : Int) : Value := mkv x y (Nat.gcd x.natAbs y.natAbs)
theorem make_Z (x y : Int) (hx : x.natAbs < pw 32) (hy : y.natAbs < pw 32) : Gives Tryz.prog 74 #[.agg (ivZ x), .agg (ivZ y)] (mkZ x y) ∧ Gives Tryz.prog 21 #[.agg (ivZ x), .agg (ivZ y)] (mkZ x y) := by
  have h1 := pMake (decide (x < 0)) (decide (y < 0)) x.natAbs y.natAbs hx hy
  have h2 := dMake (decide (x < 0)) (decide (y < 0)) x.natAbs y.natAbs hx hy
  rw [vz_self, vz_self] at h1 h2
  exact ⟨h1, h2⟩
theorem pw_room : ∃ L : Nat, L * L * 4 ≤ pw 32 ∧ ∀ n, bl n ≤ 480 → n < L := by
  obtain ⟨k, hk⟩ : ∃ k : Nat, k = 480 := ⟨_, rfl⟩
  refine ⟨2 ^ k, ?_, fun n h => Nat.lt_of_lt_of_le (bl_lt n) (Nat.pow_le_pow_right (by omega) (by omega))⟩
  obtain ⟨K, hK, e⟩ := pw32_bits
  rw [e, ← Nat.pow_add, show (4 : Nat) = 2 ^ 2 by rfl, ← Nat.pow_add]
  exact Nat.pow_le_pow_right (by omega) (by omega)
theorem mul_room {L a b : Nat} (ha : a < L) (hb : b < L) : a * b < L * L := Nat.mul_lt_mul'' ha hb
theorem vz_mul_abs (s t : Bool) (n m : Nat) : (vz s n * vz t m).natAbs = n * m := by rw [Int.natAbs_mul, vz_abs, vz_abs]
/-- The product of short parts. -/
theorem short_times {L : Nat} (hL : L * L * 4 ≤ pw 32) (s t : Bool) (n m : Nat) (hn : n < L) (hm : m < L) (hn' : n < pw 32) (hm' : m < pw 32) :
    (Gives Tryz.prog 57 #[.agg (iv s n), .agg (iv t m)] (.agg (ivZ (vz s n * vz t m))) ∧ Gives Tryz.prog 59 #[.agg (iv s n), .agg (iv t m)] (.agg (ivZ (vz s n * vz t m)))) ∧ (vz s n * vz t m).natAbs < L * L ∧ (vz s n * vz t m).natAbs < pw 32 := by
  have h := mul_room hn hm
  have h2 : (vz s n * vz t m).natAbs < L * L := by rw [vz_mul_abs]; exact h
  have h3 : (vz s n * vz t m).natAbs < pw 32 := by omega
  exact ⟨times_rat s t n m hn' hm' _ 0 (resZ_fits h3), h2, h3⟩
theorem short_plus {L : Nat} (hL : L * 4 ≤ pw 32) (x y : Int) (hx : x.natAbs < L) (hy : y.natAbs < L) :
    Gives Tryz.prog 56 #[.agg (ivZ x), .agg (ivZ y)] (.agg (ivZ (x + y))) ∧ Gives Tryz.prog 58 #[.agg (ivZ x), .agg (ivZ y)] (.tuple #[.agg (ivZ (x + y)), .int .i64 0]) ∧ (x + y).natAbs < pw 32 := by
  have h3 : (x + y).natAbs < pw 32 := by omega
  have hx' : x.natAbs < pw 32 := by omega
  have hy' : y.natAbs < pw 32 := by omega
  have h1 := plus_rat (decide (x < 0)) (decide (y < 0)) x.natAbs y.natAbs hx' hy' (x + y) 0 (by rw [vz_self, vz_self]; exact resZ_fits h3)
  have h2 := radd_any (decide (x < 0)) (decide (y < 0)) x.natAbs y.natAbs hx' hy'
  rw [vz_self, vz_self, resZ_fits h3] at h2
  exact ⟨h1, h2, h3⟩
/-- What makes a ratio valid. -/
theorem vld_parts {s t : Bool} {n m : Nat} (h : vld s n t m = true) : (s && isz n) = false ∧ t = false ∧ m ≠ 0 ∧ bl n ≤ 480 ∧ bl m ≤ 480 ∧ Nat.gcd n m = 1 := by
  unfold vld at h
  simp only [Bool.and_eq_true, decide_eq_true_eq] at h
  obtain ⟨⟨⟨⟨⟨h1, h2⟩, h3⟩, h4⟩, h5⟩, h6⟩ := h
  refine ⟨by rwa [Bool.not_eq_true'] at h1, by simpa using h2, ?_, h4, h5, h6⟩
  intro h0; subst h0; simp [isz] at h3
def errV (e : Int) : Value := .tuple #[.agg (rvZ 0 0), .int .i64 e]
/-- What Mul returns. -/
def mulR (s : Bool) (n : Nat) (t : Bool) (m : Nat) (s' : Bool) (n' : Nat) (t' : Bool) (m' : Nat) : Value :=
  if (vld s n t m && vld s' n' t' m') = true then mkZ (vz s n * vz s' n') (vz t m * vz t' m') else errV 20
/-- A tuple of a ratio and an error. -/
theorem mkZ_form (x y : Int) : ∃ a b e : Int, mkZ x y = .tuple #[.agg (rvZ a b), .int .i64 e] := by
  unfold mkZ mkv; split
  · exact ⟨_, _, _, rfl⟩
  · split
    · exact ⟨_, _, _, rfl⟩
    · exact ⟨_, _, _, rfl⟩
set_option maxHeartbeats 2000000 in
theorem mul_rat (s t s' t' : Bool) (n m n' m' : Nat) (hn : n < pw 32) (hm : m < pw 32) (hn' : n' < pw 32) (hm' : m' < pw 32) :
    Gives Tryz.prog 29 #[.agg (rv s n t m), .agg (rv s' n' t' m')] (mulR s n t m s' n' t' m') ∧ Gives Tryz.prog 30 #[.agg (rv s n t m), .agg (rv s' n' t' m')] (mulR s n t m s' n' t' m') := by
  have p1 := pValid s t n m hn hm
  have p2 := pValid s' t' n' m' hn' hm'
  have d1 := dValid s t n m hn hm
  have d2 := dValid s' t' n' m' hn' hm'
  have hval : vld s n t m = true → vld s' n' t' m' = true → ∃ x y a b e : Int, mulR s n t m s' n' t' m' = .tuple #[.agg (rvZ a b), .int .i64 e] ∧
      Gives Tryz.prog 57 #[.agg (iv s n), .agg (iv s' n')] (.agg (ivZ x)) ∧ Gives Tryz.prog 59 #[.agg (iv s n), .agg (iv s' n')] (.agg (ivZ x)) ∧
      Gives Tryz.prog 57 #[.agg (iv t m), .agg (iv t' m')] (.agg (ivZ y)) ∧ Gives Tryz.prog 59 #[.agg (iv t m), .agg (iv t' m')] (.agg (ivZ y)) ∧
      Gives Tryz.prog 74 #[.agg (ivZ x), .agg (ivZ y)] (.tuple #[.agg (rvZ a b), .int .i64 e]) ∧ Gives Tryz.prog 21 #[.agg (ivZ x), .agg (ivZ y)] (.tuple #[.agg (rvZ a b), .int .i64 e]) := by
    intro h1 h2
    obtain ⟨L, hL, hb⟩ := pw_room
    obtain ⟨-, -, -, u1, u2, -⟩ := vld_parts h1
    obtain ⟨-, -, -, u3, u4, -⟩ := vld_parts h2
    obtain ⟨⟨a1, a2⟩, -, a3⟩ := short_times hL s s' n n' (hb _ u1) (hb _ u3) hn hn'
    obtain ⟨⟨b1, b2⟩, -, b3⟩ := short_times hL t t' m m' (hb _ u2) (hb _ u4) hm hm'
    obtain ⟨a, b, e, h⟩ := mkZ_form (vz s n * vz s' n') (vz t m * vz t' m')
    obtain ⟨c1, c2⟩ := make_Z _ _ a3 b3
    rw [h] at c1 c2
    refine ⟨_, _, a, b, e, ?_, a1, a2, b1, b2, c1, c2⟩
    unfold mulR
    rw [h1, h2, if_pos (by rfl), h]
  obtain ⟨v1, hv1⟩ : ∃ b, b = vld s n t m := ⟨_, rfl⟩
  obtain ⟨v2, hv2⟩ : ∃ b, b = vld s' n' t' m' := ⟨_, rfl⟩
  have hno : v1 = false ∨ v2 = false → mulR s n t m s' n' t' m' = errV 20 := fun h => by
    unfold mulR; rw [← hv1, ← hv2, if_neg]
    rcases h with rfl | rfl <;> simp
  rw [← hv1] at p1 d1 hval
  rw [← hv2] at p2 d2 hval
  obtain ⟨V, hV⟩ : ∃ V, V = mulR s n t m s' n' t' m' := ⟨_, rfl⟩
  rw [← hV] at hval hno ⊢
  have main1 : tpMul.den Tryz.prog (fun ρ' ret => ∀ β, ret.val.den (env ρ') β = V) [.bool s, .agg (mgk 32 n), .bool t, .agg (mgk 32 m), .bool s', .agg (mgk 32 n'), .bool t', .agg (mgk 32 m')] := by
    refine tree_ite ?_
    refine ev_call [.bool v1] rfl rfl (pure_gives (p1)) (fun β => by simp [BTm.den, Tm.i, Tm.s, Tm.den, env, vInt, vBool, vStr, exI, SW.den, SV.den, Cell.den, densP, Piece.den, denV, rowCells_mgk, iv_list, rv_list, ivZ, rvZ, mgl_agg]) (fun β => by simp [BTm.den, Tm.i, Tm.s, Tm.den, env, vInt, vBool, vStr, exI, SW.den, SV.den, Cell.den, densP, Piece.den, denV, rowCells_mgk, iv_list, rv_list, ivZ, rvZ, mgl_agg]) ?_
    refine ev_nil ⟨fun h => tree_ite ?_, fun h => tree_leaf (ev_nil fun β => ?_)⟩
    · have h1 : v1 = true := by simpa [BTm.den, Tm.i, Tm.s, Tm.den, env, vInt, vBool, vStr, exI] using h
      refine ev_call [.bool v2] rfl rfl (pure_gives (p2)) (fun β => by simp [BTm.den, Tm.i, Tm.s, Tm.den, env, vInt, vBool, vStr, exI, SW.den, SV.den, Cell.den, densP, Piece.den, denV, rowCells_mgk, iv_list, rv_list, ivZ, rvZ, mgl_agg]) (fun β => by simp [BTm.den, Tm.i, Tm.s, Tm.den, env, vInt, vBool, vStr, exI, SW.den, SV.den, Cell.den, densP, Piece.den, denV, rowCells_mgk, iv_list, rv_list, ivZ, rvZ, mgl_agg]) ?_
      refine ev_nil ⟨fun h => tree_leaf ?_, fun h => tree_leaf (ev_nil fun β => ?_)⟩
      · have h2 : v2 = true := by simpa [BTm.den, Tm.i, Tm.s, Tm.den, env, vInt, vBool, vStr, exI] using h
        obtain ⟨x, y, a, b, e, hr, a1, -, b1, -, c1, -⟩ := hval h1 h2
        refine ev_call [.bool (decide (x < 0)), .agg (mgk 32 (x : Int).natAbs)] rfl rfl (pure_gives (a1)) (fun β => by simp [BTm.den, Tm.i, Tm.s, Tm.den, env, vInt, vBool, vStr, exI, SW.den, SV.den, Cell.den, densP, Piece.den, denV, rowCells_mgk, iv_list, rv_list, ivZ, rvZ, mgl_agg]) (fun β => by simp [BTm.den, Tm.i, Tm.s, Tm.den, env, vInt, vBool, vStr, exI, SW.den, SV.den, Cell.den, densP, Piece.den, denV, rowCells_mgk, iv_list, rv_list, ivZ, rvZ, mgl_agg]) ?_
        refine ev_call [.bool (decide (y < 0)), .agg (mgk 32 (y : Int).natAbs)] rfl rfl (pure_gives (b1)) (fun β => by simp [BTm.den, Tm.i, Tm.s, Tm.den, env, vInt, vBool, vStr, exI, SW.den, SV.den, Cell.den, densP, Piece.den, denV, rowCells_mgk, iv_list, rv_list, ivZ, rvZ, mgl_agg]) (fun β => by simp [BTm.den, Tm.i, Tm.s, Tm.den, env, vInt, vBool, vStr, exI, SW.den, SV.den, Cell.den, densP, Piece.den, denV, rowCells_mgk, iv_list, rv_list, ivZ, rvZ, mgl_agg]) ?_
        refine ev_call [.bool (decide (a < 0)), .agg (mgk 32 (a : Int).natAbs), .bool (decide (b < 0)), .agg (mgk 32 (b : Int).natAbs), .int .i64 e] rfl rfl (pure_gives (c1)) (fun β => by simp [BTm.den, Tm.i, Tm.s, Tm.den, env, vInt, vBool, vStr, exI, SW.den, SV.den, Cell.den, densP, Piece.den, denV, rowCells_mgk, iv_list, rv_list, ivZ, rvZ, mgl_agg]) (fun β => by simp [BTm.den, Tm.i, Tm.s, Tm.den, env, vInt, vBool, vStr, exI, SW.den, SV.den, Cell.den, densP, Piece.den, denV, rowCells_mgk, iv_list, rv_list, ivZ, rvZ, mgl_agg]) ?_
        refine ev_nil fun β => ?_
        rw [hr]; simp [BTm.den, Tm.i, Tm.s, Tm.den, env, vInt, vBool, vStr, exI, SW.den, SV.den, Cell.den, densP, Piece.den, denV, rowCells_mgk, iv_list, rv_list, ivZ, rvZ, mgl_agg]
      · have h2 : v2 = false := by simpa [BTm.den, Tm.i, Tm.s, Tm.den, env, vInt, vBool, vStr, exI] using h
        rw [hno (.inr h2), errV, ← zero_rat]; simp [BTm.den, Tm.i, Tm.s, Tm.den, env, vInt, vBool, vStr, exI, SW.den, SV.den, Cell.den, densP, Piece.den, denV, denT]
    · have h1 : v1 = false := by simpa [BTm.den, Tm.i, Tm.s, Tm.den, env, vInt, vBool, vStr, exI] using h
      rw [hno (.inl h1), errV, ← zero_rat]; simp [BTm.den, Tm.i, Tm.s, Tm.den, env, vInt, vBool, vStr, exI, SW.den, SV.den, Cell.den, densP, Piece.den, denV, denT]
  have main2 : tdMul.den Tryz.prog (fun ρ' ret => ∀ β, ret.val.den (env ρ') β = V) [.bool s, .agg (mgk 32 n), .bool t, .agg (mgk 32 m), .bool s', .agg (mgk 32 n'), .bool t', .agg (mgk 32 m')] := by
    refine tree_ite ?_
    refine ev_call [.bool v1] rfl rfl (pure_gives (d1)) (fun β => by simp [BTm.den, Tm.i, Tm.s, Tm.den, env, vInt, vBool, vStr, exI, SW.den, SV.den, Cell.den, densP, Piece.den, denV, rowCells_mgk, iv_list, rv_list, ivZ, rvZ, mgl_agg]) (fun β => by simp [BTm.den, Tm.i, Tm.s, Tm.den, env, vInt, vBool, vStr, exI, SW.den, SV.den, Cell.den, densP, Piece.den, denV, rowCells_mgk, iv_list, rv_list, ivZ, rvZ, mgl_agg]) ?_
    refine ev_nil ⟨fun h => tree_ite ?_, fun h => tree_leaf (ev_nil fun β => ?_)⟩
    · have h1 : v1 = true := by simpa [BTm.den, Tm.i, Tm.s, Tm.den, env, vInt, vBool, vStr, exI] using h
      refine ev_call [.bool v2] rfl rfl (pure_gives (d2)) (fun β => by simp [BTm.den, Tm.i, Tm.s, Tm.den, env, vInt, vBool, vStr, exI, SW.den, SV.den, Cell.den, densP, Piece.den, denV, rowCells_mgk, iv_list, rv_list, ivZ, rvZ, mgl_agg]) (fun β => by simp [BTm.den, Tm.i, Tm.s, Tm.den, env, vInt, vBool, vStr, exI, SW.den, SV.den, Cell.den, densP, Piece.den, denV, rowCells_mgk, iv_list, rv_list, ivZ, rvZ, mgl_agg]) ?_
      refine ev_nil ⟨fun h => tree_leaf ?_, fun h => tree_leaf (ev_nil fun β => ?_)⟩
      · have h2 : v2 = true := by simpa [BTm.den, Tm.i, Tm.s, Tm.den, env, vInt, vBool, vStr, exI] using h
        obtain ⟨x, y, a, b, e, hr, -, a1, -, b1, -, c1⟩ := hval h1 h2
        refine ev_call [.bool (decide (x < 0)), .agg (mgk 32 (x : Int).natAbs)] rfl rfl (pure_gives (a1)) (fun β => by simp [BTm.den, Tm.i, Tm.s, Tm.den, env, vInt, vBool, vStr, exI, SW.den, SV.den, Cell.den, densP, Piece.den, denV, rowCells_mgk, iv_list, rv_list, ivZ, rvZ, mgl_agg]) (fun β => by simp [BTm.den, Tm.i, Tm.s, Tm.den, env, vInt, vBool, vStr, exI, SW.den, SV.den, Cell.den, densP, Piece.den, denV, rowCells_mgk, iv_list, rv_list, ivZ, rvZ, mgl_agg]) ?_
        refine ev_call [.bool (decide (y < 0)), .agg (mgk 32 (y : Int).natAbs)] rfl rfl (pure_gives (b1)) (fun β => by simp [BTm.den, Tm.i, Tm.s, Tm.den, env, vInt, vBool, vStr, exI, SW.den, SV.den, Cell.den, densP, Piece.den, denV, rowCells_mgk, iv_list, rv_list, ivZ, rvZ, mgl_agg]) (fun β => by simp [BTm.den, Tm.i, Tm.s, Tm.den, env, vInt, vBool, vStr, exI, SW.den, SV.den, Cell.den, densP, Piece.den, denV, rowCells_mgk, iv_list, rv_list, ivZ, rvZ, mgl_agg]) ?_
        refine ev_call [.bool (decide (a < 0)), .agg (mgk 32 (a : Int).natAbs), .bool (decide (b < 0)), .agg (mgk 32 (b : Int).natAbs), .int .i64 e] rfl rfl (pure_gives (c1)) (fun β => by simp [BTm.den, Tm.i, Tm.s, Tm.den, env, vInt, vBool, vStr, exI, SW.den, SV.den, Cell.den, densP, Piece.den, denV, rowCells_mgk, iv_list, rv_list, ivZ, rvZ, mgl_agg]) (fun β => by simp [BTm.den, Tm.i, Tm.s, Tm.den, env, vInt, vBool, vStr, exI, SW.den, SV.den, Cell.den, densP, Piece.den, denV, rowCells_mgk, iv_list, rv_list, ivZ, rvZ, mgl_agg]) ?_
        refine ev_nil fun β => ?_
        rw [hr]; simp [BTm.den, Tm.i, Tm.s, Tm.den, env, vInt, vBool, vStr, exI, SW.den, SV.den, Cell.den, densP, Piece.den, denV, rowCells_mgk, iv_list, rv_list, ivZ, rvZ, mgl_agg]
      · have h2 : v2 = false := by simpa [BTm.den, Tm.i, Tm.s, Tm.den, env, vInt, vBool, vStr, exI] using h
        rw [hno (.inr h2), errV, ← zero_rat]; simp [BTm.den, Tm.i, Tm.s, Tm.den, env, vInt, vBool, vStr, exI, SW.den, SV.den, Cell.den, densP, Piece.den, denV, denT]
    · have h1 : v1 = false := by simpa [BTm.den, Tm.i, Tm.s, Tm.den, env, vInt, vBool, vStr, exI] using h
      rw [hno (.inl h1), errV, ← zero_rat]; simp [BTm.den, Tm.i, Tm.s, Tm.den, env, vInt, vBool, vStr, exI, SW.den, SV.den, Cell.den, densP, Piece.den, denV, denT]
  have h1 := pure_of plain [.bool s, .agg (mgk 32 n), .bool t, .agg (mgk 32 m), .bool s', .agg (mgk 32 n'), .bool t', .agg (mgk 32 m')] tpMul_ok (by kernel_rfl) _ main1
  have h2 := pure_of plain [.bool s, .agg (mgk 32 n), .bool t, .agg (mgk 32 m), .bool s', .agg (mgk 32 n'), .bool t', .agg (mgk 32 m')] tdMul_ok (by kernel_rfl) _ main2
  refine ⟨gives_pure ?_, gives_pure ?_⟩
  · simpa [ratR, BTm.den, Tm.i, Tm.s, Tm.den, env, vInt, vBool, vStr, exI, SW.den, SV.den, Cell.den, densP, Piece.den, denV, denT, rowCells_mgk, rv_list] using h1
  · simpa [ratR, BTm.den, Tm.i, Tm.s, Tm.den, env, vInt, vBool, vStr, exI, SW.den, SV.den, Cell.den, densP, Piece.den, denV, denT, rowCells_mgk, rv_list] using h2
end Go.Proofs.YtfdlgeomaballaaGreat
end
section
/- Quotients of ratios: package ratio and the document. -/
namespace Go.Proofs.YtfdlgeomaballaaGreat
open Go.RowKit Go.Proofs.YtfdlgeomaballaaGreat.Sx
set_option linter.unusedSimpArgs false
set_option linter.unusedVariables false

/-- What Quo returns. -/
def quoR (s : Bool) (n : Nat) (t : Bool) (m : Nat) (s' : Bool) (n' : Nat) (t' : Bool) (m' : Nat) : Value :=
  if (vld s n t m && vld s' n' t' m') = true then mkZ (vz s n * vz t' m') (vz t m * vz s' n') else errV 20
set_option maxHeartbeats 2000000 in
theorem quo_rat (s t s' t' : Bool) (n m n' m' : Nat) (hn : n < pw 32) (hm : m < pw 32) (hn' : n' < pw 32) (hm' : m' < pw 32) :
    Gives Tryz.prog 31 #[.agg (rv s n t m), .agg (rv s' n' t' m')] (quoR s n t m s' n' t' m') ∧ Gives Tryz.prog 32 #[.agg (rv s n t m), .agg (rv s' n' t' m')] (quoR s n t m s' n' t' m') := by
  have p1 := pValid s t n m hn hm
  have p2 := pValid s' t' n' m' hn' hm'
  have d1 := dValid s t n m hn hm
  have d2 := dValid s' t' n' m' hn' hm'
  have hval : vld s n t m = true → vld s' n' t' m' = true → ∃ x y a b e : Int, quoR s n t m s' n' t' m' = .tuple #[.agg (rvZ a b), .int .i64 e] ∧
      Gives Tryz.prog 57 #[.agg (iv s n), .agg (iv t' m')] (.agg (ivZ x)) ∧ Gives Tryz.prog 59 #[.agg (iv s n), .agg (iv t' m')] (.agg (ivZ x)) ∧
      Gives Tryz.prog 57 #[.agg (iv t m), .agg (iv s' n')] (.agg (ivZ y)) ∧ Gives Tryz.prog 59 #[.agg (iv t m), .agg (iv s' n')] (.agg (ivZ y)) ∧
      Gives Tryz.prog 74 #[.agg (ivZ x), .agg (ivZ y)] (.tuple #[.agg (rvZ a b), .int .i64 e]) ∧ Gives Tryz.prog 21 #[.agg (ivZ x), .agg (ivZ y)] (.tuple #[.agg (rvZ a b), .int .i64 e]) := by
    intro h1 h2
    obtain ⟨L, hL, hb⟩ := pw_room
    obtain ⟨-, -, -, u1, u2, -⟩ := vld_parts h1
    obtain ⟨-, -, -, u3, u4, -⟩ := vld_parts h2
    obtain ⟨⟨a1, a2⟩, -, a3⟩ := short_times hL s t' n m' (hb _ u1) (hb _ u4) hn hm'
    obtain ⟨⟨b1, b2⟩, -, b3⟩ := short_times hL t s' m n' (hb _ u2) (hb _ u3) hm hn'
    obtain ⟨a, b, e, h⟩ := mkZ_form (vz s n * vz t' m') (vz t m * vz s' n')
    obtain ⟨c1, c2⟩ := make_Z _ _ a3 b3
    rw [h] at c1 c2
    refine ⟨_, _, a, b, e, ?_, a1, a2, b1, b2, c1, c2⟩
    unfold quoR
    rw [h1, h2, if_pos (by rfl), h]
  obtain ⟨v1, hv1⟩ : ∃ b, b = vld s n t m := ⟨_, rfl⟩
  obtain ⟨v2, hv2⟩ : ∃ b, b = vld s' n' t' m' := ⟨_, rfl⟩
  have hno : v1 = false ∨ v2 = false → quoR s n t m s' n' t' m' = errV 20 := fun h => by
    unfold quoR; rw [← hv1, ← hv2, if_neg]
    rcases h with rfl | rfl <;> simp
  rw [← hv1] at p1 d1 hval
  rw [← hv2] at p2 d2 hval
  obtain ⟨V, hV⟩ : ∃ V, V = quoR s n t m s' n' t' m' := ⟨_, rfl⟩
  rw [← hV] at hval hno ⊢
  have main1 : tpQuo.den Tryz.prog (fun ρ' ret => ∀ β, ret.val.den (env ρ') β = V) [.bool s, .agg (mgk 32 n), .bool t, .agg (mgk 32 m), .bool s', .agg (mgk 32 n'), .bool t', .agg (mgk 32 m')] := by
    refine tree_ite ?_
    refine ev_call [.bool v1] rfl rfl (pure_gives (p1)) (fun β => by simp [BTm.den, Tm.i, Tm.s, Tm.den, env, vInt, vBool, vStr, exI, SW.den, SV.den, Cell.den, densP, Piece.den, denV, rowCells_mgk, iv_list, rv_list, ivZ, rvZ, mgl_agg]) (fun β => by simp [BTm.den, Tm.i, Tm.s, Tm.den, env, vInt, vBool, vStr, exI, SW.den, SV.den, Cell.den, densP, Piece.den, denV, rowCells_mgk, iv_list, rv_list, ivZ, rvZ, mgl_agg]) ?_
    refine ev_nil ⟨fun h => tree_ite ?_, fun h => tree_leaf (ev_nil fun β => ?_)⟩
    · have h1 : v1 = true := by simpa [BTm.den, Tm.i, Tm.s, Tm.den, env, vInt, vBool, vStr, exI] using h
      refine ev_call [.bool v2] rfl rfl (pure_gives (p2)) (fun β => by simp [BTm.den, Tm.i, Tm.s, Tm.den, env, vInt, vBool, vStr, exI, SW.den, SV.den, Cell.den, densP, Piece.den, denV, rowCells_mgk, iv_list, rv_list, ivZ, rvZ, mgl_agg]) (fun β => by simp [BTm.den, Tm.i, Tm.s, Tm.den, env, vInt, vBool, vStr, exI, SW.den, SV.den, Cell.den, densP, Piece.den, denV, rowCells_mgk, iv_list, rv_list, ivZ, rvZ, mgl_agg]) ?_
      refine ev_nil ⟨fun h => tree_leaf ?_, fun h => tree_leaf (ev_nil fun β => ?_)⟩
      · have h2 : v2 = true := by simpa [BTm.den, Tm.i, Tm.s, Tm.den, env, vInt, vBool, vStr, exI] using h
        obtain ⟨x, y, a, b, e, hr, a1, -, b1, -, c1, -⟩ := hval h1 h2
        refine ev_call [.bool (decide (x < 0)), .agg (mgk 32 (x : Int).natAbs)] rfl rfl (pure_gives (a1)) (fun β => by simp [BTm.den, Tm.i, Tm.s, Tm.den, env, vInt, vBool, vStr, exI, SW.den, SV.den, Cell.den, densP, Piece.den, denV, rowCells_mgk, iv_list, rv_list, ivZ, rvZ, mgl_agg]) (fun β => by simp [BTm.den, Tm.i, Tm.s, Tm.den, env, vInt, vBool, vStr, exI, SW.den, SV.den, Cell.den, densP, Piece.den, denV, rowCells_mgk, iv_list, rv_list, ivZ, rvZ, mgl_agg]) ?_
        refine ev_call [.bool (decide (y < 0)), .agg (mgk 32 (y : Int).natAbs)] rfl rfl (pure_gives (b1)) (fun β => by simp [BTm.den, Tm.i, Tm.s, Tm.den, env, vInt, vBool, vStr, exI, SW.den, SV.den, Cell.den, densP, Piece.den, denV, rowCells_mgk, iv_list, rv_list, ivZ, rvZ, mgl_agg]) (fun β => by simp [BTm.den, Tm.i, Tm.s, Tm.den, env, vInt, vBool, vStr, exI, SW.den, SV.den, Cell.den, densP, Piece.den, denV, rowCells_mgk, iv_list, rv_list, ivZ, rvZ, mgl_agg]) ?_
        refine ev_call [.bool (decide (a < 0)), .agg (mgk 32 (a : Int).natAbs), .bool (decide (b < 0)), .agg (mgk 32 (b : Int).natAbs), .int .i64 e] rfl rfl (pure_gives (c1)) (fun β => by simp [BTm.den, Tm.i, Tm.s, Tm.den, env, vInt, vBool, vStr, exI, SW.den, SV.den, Cell.den, densP, Piece.den, denV, rowCells_mgk, iv_list, rv_list, ivZ, rvZ, mgl_agg]) (fun β => by simp [BTm.den, Tm.i, Tm.s, Tm.den, env, vInt, vBool, vStr, exI, SW.den, SV.den, Cell.den, densP, Piece.den, denV, rowCells_mgk, iv_list, rv_list, ivZ, rvZ, mgl_agg]) ?_
        refine ev_nil fun β => ?_
        rw [hr]; simp [BTm.den, Tm.i, Tm.s, Tm.den, env, vInt, vBool, vStr, exI, SW.den, SV.den, Cell.den, densP, Piece.den, denV, rowCells_mgk, iv_list, rv_list, ivZ, rvZ, mgl_agg]
      · have h2 : v2 = false := by simpa [BTm.den, Tm.i, Tm.s, Tm.den, env, vInt, vBool, vStr, exI] using h
        rw [hno (.inr h2), errV, ← zero_rat]; simp [BTm.den, Tm.i, Tm.s, Tm.den, env, vInt, vBool, vStr, exI, SW.den, SV.den, Cell.den, densP, Piece.den, denV, denT]
    · have h1 : v1 = false := by simpa [BTm.den, Tm.i, Tm.s, Tm.den, env, vInt, vBool, vStr, exI] using h
      rw [hno (.inl h1), errV, ← zero_rat]; simp [BTm.den, Tm.i, Tm.s, Tm.den, env, vInt, vBool, vStr, exI, SW.den, SV.den, Cell.den, densP, Piece.den, denV, denT]
  have main2 : tdQuo.den Tryz.prog (fun ρ' ret => ∀ β, ret.val.den (env ρ') β = V) [.bool s, .agg (mgk 32 n), .bool t, .agg (mgk 32 m), .bool s', .agg (mgk 32 n'), .bool t', .agg (mgk 32 m')] := by
    refine tree_ite ?_
    refine ev_call [.bool v1] rfl rfl (pure_gives (d1)) (fun β => by simp [BTm.den, Tm.i, Tm.s, Tm.den, env, vInt, vBool, vStr, exI, SW.den, SV.den, Cell.den, densP, Piece.den, denV, rowCells_mgk, iv_list, rv_list, ivZ, rvZ, mgl_agg]) (fun β => by simp [BTm.den, Tm.i, Tm.s, Tm.den, env, vInt, vBool, vStr, exI, SW.den, SV.den, Cell.den, densP, Piece.den, denV, rowCells_mgk, iv_list, rv_list, ivZ, rvZ, mgl_agg]) ?_
    refine ev_nil ⟨fun h => tree_ite ?_, fun h => tree_leaf (ev_nil fun β => ?_)⟩
    · have h1 : v1 = true := by simpa [BTm.den, Tm.i, Tm.s, Tm.den, env, vInt, vBool, vStr, exI] using h
      refine ev_call [.bool v2] rfl rfl (pure_gives (d2)) (fun β => by simp [BTm.den, Tm.i, Tm.s, Tm.den, env, vInt, vBool, vStr, exI, SW.den, SV.den, Cell.den, densP, Piece.den, denV, rowCells_mgk, iv_list, rv_list, ivZ, rvZ, mgl_agg]) (fun β => by simp [BTm.den, Tm.i, Tm.s, Tm.den, env, vInt, vBool, vStr, exI, SW.den, SV.den, Cell.den, densP, Piece.den, denV, rowCells_mgk, iv_list, rv_list, ivZ, rvZ, mgl_agg]) ?_
      refine ev_nil ⟨fun h => tree_leaf ?_, fun h => tree_leaf (ev_nil fun β => ?_)⟩
      · have h2 : v2 = true := by simpa [BTm.den, Tm.i, Tm.s, Tm.den, env, vInt, vBool, vStr, exI] using h
        obtain ⟨x, y, a, b, e, hr, -, a1, -, b1, -, c1⟩ := hval h1 h2
        refine ev_call [.bool (decide (x < 0)), .agg (mgk 32 (x : Int).natAbs)] rfl rfl (pure_gives (a1)) (fun β => by simp [BTm.den, Tm.i, Tm.s, Tm.den, env, vInt, vBool, vStr, exI, SW.den, SV.den, Cell.den, densP, Piece.den, denV, rowCells_mgk, iv_list, rv_list, ivZ, rvZ, mgl_agg]) (fun β => by simp [BTm.den, Tm.i, Tm.s, Tm.den, env, vInt, vBool, vStr, exI, SW.den, SV.den, Cell.den, densP, Piece.den, denV, rowCells_mgk, iv_list, rv_list, ivZ, rvZ, mgl_agg]) ?_
        refine ev_call [.bool (decide (y < 0)), .agg (mgk 32 (y : Int).natAbs)] rfl rfl (pure_gives (b1)) (fun β => by simp [BTm.den, Tm.i, Tm.s, Tm.den, env, vInt, vBool, vStr, exI, SW.den, SV.den, Cell.den, densP, Piece.den, denV, rowCells_mgk, iv_list, rv_list, ivZ, rvZ, mgl_agg]) (fun β => by simp [BTm.den, Tm.i, Tm.s, Tm.den, env, vInt, vBool, vStr, exI, SW.den, SV.den, Cell.den, densP, Piece.den, denV, rowCells_mgk, iv_list, rv_list, ivZ, rvZ, mgl_agg]) ?_
        refine ev_call [.bool (decide (a < 0)), .agg (mgk 32 (a : Int).natAbs), .bool (decide (b < 0)), .agg (mgk 32 (b : Int).natAbs), .int .i64 e] rfl rfl (pure_gives (c1)) (fun β => by simp [BTm.den, Tm.i, Tm.s, Tm.den, env, vInt, vBool, vStr, exI, SW.den, SV.den, Cell.den, densP, Piece.den, denV, rowCells_mgk, iv_list, rv_list, ivZ, rvZ, mgl_agg]) (fun β => by simp [BTm.den, Tm.i, Tm.s, Tm.den, env, vInt, vBool, vStr, exI, SW.den, SV.den, Cell.den, densP, Piece.den, denV, rowCells_mgk, iv_list, rv_list, ivZ, rvZ, mgl_agg]) ?_
        refine ev_nil fun β => ?_
        rw [hr]; simp [BTm.den, Tm.i, Tm.s, Tm.den, env, vInt, vBool, vStr, exI, SW.den, SV.den, Cell.den, densP, Piece.den, denV, rowCells_mgk, iv_list, rv_list, ivZ, rvZ, mgl_agg]
      · have h2 : v2 = false := by simpa [BTm.den, Tm.i, Tm.s, Tm.den, env, vInt, vBool, vStr, exI] using h
        rw [hno (.inr h2), errV, ← zero_rat]; simp [BTm.den, Tm.i, Tm.s, Tm.den, env, vInt, vBool, vStr, exI, SW.den, SV.den, Cell.den, densP, Piece.den, denV, denT]
    · have h1 : v1 = false := by simpa [BTm.den, Tm.i, Tm.s, Tm.den, env, vInt, vBool, vStr, exI] using h
      rw [hno (.inl h1), errV, ← zero_rat]; simp [BTm.den, Tm.i, Tm.s, Tm.den, env, vInt, vBool, vStr, exI, SW.den, SV.den, Cell.den, densP, Piece.den, denV, denT]
  have h1 := pure_of plain [.bool s, .agg (mgk 32 n), .bool t, .agg (mgk 32 m), .bool s', .agg (mgk 32 n'), .bool t', .agg (mgk 32 m')] tpQuo_ok (by kernel_rfl) _ main1
  have h2 := pure_of plain [.bool s, .agg (mgk 32 n), .bool t, .agg (mgk 32 m), .bool s', .agg (mgk 32 n'), .bool t', .agg (mgk 32 m')] tdQuo_ok (by kernel_rfl) _ main2
  refine ⟨gives_pure ?_, gives_pure ?_⟩
  · simpa [ratR, BTm.den, Tm.i, Tm.s, Tm.den, env, vInt, vBool, vStr, exI, SW.den, SV.den, Cell.den, densP, Piece.den, denV, denT, rowCells_mgk, rv_list] using h1
  · simpa [ratR, BTm.den, Tm.i, Tm.s, Tm.den, env, vInt, vBool, vStr, exI, SW.den, SV.den, Cell.den, densP, Piece.den, denV, denT, rowCells_mgk, rv_list] using h2
end Go.Proofs.YtfdlgeomaballaaGreat
end
section
/- Sums of ratios: package ratio and the document. -/
namespace Go.Proofs.YtfdlgeomaballaaGreat
open Go.RowKit Go.Proofs.YtfdlgeomaballaaGreat.Sx
set_option linter.unusedSimpArgs false
set_option linter.unusedVariables false

/-- What Add returns. -/
def addR (s : Bool) (n : Nat) (t : Bool) (m : Nat) (s' : Bool) (n' : Nat) (t' : Bool) (m' : Nat) : Value :=
  if (vld s n t m && vld s' n' t' m') = true then mkZ (vz s n * vz t' m' + vz s' n' * vz t m) (vz t m * vz t' m') else errV 20
set_option maxHeartbeats 2000000 in
theorem add_rat (s t s' t' : Bool) (n m n' m' : Nat) (hn : n < pw 32) (hm : m < pw 32) (hn' : n' < pw 32) (hm' : m' < pw 32) :
    Gives Tryz.prog 25 #[.agg (rv s n t m), .agg (rv s' n' t' m')] (addR s n t m s' n' t' m') ∧ Gives Tryz.prog 26 #[.agg (rv s n t m), .agg (rv s' n' t' m')] (addR s n t m s' n' t' m') := by
  have p1 := pValid s t n m hn hm
  have p2 := pValid s' t' n' m' hn' hm'
  have d1 := dValid s t n m hn hm
  have d2 := dValid s' t' n' m' hn' hm'
  have hval : vld s n t m = true → vld s' n' t' m' = true → ∃ x1 x2 x y a b e : Int, addR s n t m s' n' t' m' = .tuple #[.agg (rvZ a b), .int .i64 e] ∧
      (Gives Tryz.prog 57 #[.agg (iv s n), .agg (iv t' m')] (.agg (ivZ x1)) ∧ Gives Tryz.prog 59 #[.agg (iv s n), .agg (iv t' m')] (.agg (ivZ x1))) ∧
      (Gives Tryz.prog 57 #[.agg (iv s' n'), .agg (iv t m)] (.agg (ivZ x2)) ∧ Gives Tryz.prog 59 #[.agg (iv s' n'), .agg (iv t m)] (.agg (ivZ x2))) ∧
      (Gives Tryz.prog 56 #[.agg (ivZ x1), .agg (ivZ x2)] (.agg (ivZ x)) ∧ Gives Tryz.prog 58 #[.agg (ivZ x1), .agg (ivZ x2)] (.tuple #[.agg (ivZ x), .int .i64 0])) ∧
      (Gives Tryz.prog 57 #[.agg (iv t m), .agg (iv t' m')] (.agg (ivZ y)) ∧ Gives Tryz.prog 59 #[.agg (iv t m), .agg (iv t' m')] (.agg (ivZ y))) ∧
      (Gives Tryz.prog 74 #[.agg (ivZ x), .agg (ivZ y)] (.tuple #[.agg (rvZ a b), .int .i64 e]) ∧ Gives Tryz.prog 21 #[.agg (ivZ x), .agg (ivZ y)] (.tuple #[.agg (rvZ a b), .int .i64 e])) := by
    intro h1 h2
    obtain ⟨L, hL, hb⟩ := pw_room
    obtain ⟨-, -, -, u1, u2, -⟩ := vld_parts h1
    obtain ⟨-, -, -, u3, u4, -⟩ := vld_parts h2
    obtain ⟨a1, a2, a3⟩ := short_times hL s t' n m' (hb _ u1) (hb _ u4) hn hm'
    obtain ⟨b1, b2, b3⟩ := short_times hL s' t n' m (hb _ u3) (hb _ u2) hn' hm
    obtain ⟨c1, c2, c3⟩ := short_times hL t t' m m' (hb _ u2) (hb _ u4) hm hm'
    obtain ⟨q1, q2, q3⟩ := short_plus hL _ _ a2 b2
    obtain ⟨a, b, e, h⟩ := mkZ_form (vz s n * vz t' m' + vz s' n' * vz t m) (vz t m * vz t' m')
    obtain ⟨g1, g2⟩ := make_Z _ _ q3 c3
    rw [h] at g1 g2
    refine ⟨_, _, _, _, a, b, e, ?_, a1, b1, ⟨q1, q2⟩, c1, ⟨g1, g2⟩⟩
    unfold addR
    rw [h1, h2, if_pos (by rfl), h]
  obtain ⟨v1, hv1⟩ : ∃ b, b = vld s n t m := ⟨_, rfl⟩
  obtain ⟨v2, hv2⟩ : ∃ b, b = vld s' n' t' m' := ⟨_, rfl⟩
  have hno : v1 = false ∨ v2 = false → addR s n t m s' n' t' m' = errV 20 := fun h => by
    unfold addR; rw [← hv1, ← hv2, if_neg]
    rcases h with rfl | rfl <;> simp
  rw [← hv1] at p1 d1 hval
  rw [← hv2] at p2 d2 hval
  obtain ⟨V, hV⟩ : ∃ V, V = addR s n t m s' n' t' m' := ⟨_, rfl⟩
  rw [← hV] at hval hno ⊢
  have main1 : tpAdd.den Tryz.prog (fun ρ' ret => ∀ β, ret.val.den (env ρ') β = V) [.bool s, .agg (mgk 32 n), .bool t, .agg (mgk 32 m), .bool s', .agg (mgk 32 n'), .bool t', .agg (mgk 32 m')] := by
    refine tree_ite ?_
    refine ev_call [.bool v1] rfl rfl (pure_gives (p1)) (fun β => by simp [BTm.den, Tm.i, Tm.s, Tm.den, env, vInt, vBool, vStr, exI, SW.den, SV.den, Cell.den, densP, Piece.den, denV, rowCells_mgk, iv_list, rv_list, ivZ, rvZ, mgl_agg]) (fun β => by simp [BTm.den, Tm.i, Tm.s, Tm.den, env, vInt, vBool, vStr, exI, SW.den, SV.den, Cell.den, densP, Piece.den, denV, rowCells_mgk, iv_list, rv_list, ivZ, rvZ, mgl_agg]) ?_
    refine ev_nil ⟨fun h => tree_ite ?_, fun h => tree_leaf (ev_nil fun β => ?_)⟩
    · have h1 : v1 = true := by simpa [BTm.den, Tm.i, Tm.s, Tm.den, env, vInt, vBool, vStr, exI] using h
      refine ev_call [.bool v2] rfl rfl (pure_gives (p2)) (fun β => by simp [BTm.den, Tm.i, Tm.s, Tm.den, env, vInt, vBool, vStr, exI, SW.den, SV.den, Cell.den, densP, Piece.den, denV, rowCells_mgk, iv_list, rv_list, ivZ, rvZ, mgl_agg]) (fun β => by simp [BTm.den, Tm.i, Tm.s, Tm.den, env, vInt, vBool, vStr, exI, SW.den, SV.den, Cell.den, densP, Piece.den, denV, rowCells_mgk, iv_list, rv_list, ivZ, rvZ, mgl_agg]) ?_
      refine ev_nil ⟨fun h => tree_leaf ?_, fun h => tree_leaf (ev_nil fun β => ?_)⟩
      · have h2 : v2 = true := by simpa [BTm.den, Tm.i, Tm.s, Tm.den, env, vInt, vBool, vStr, exI] using h
        obtain ⟨x1, x2, x, y, a, b, e, hr, ⟨a1, -⟩, ⟨b1, -⟩, ⟨q1, -⟩, ⟨c1, -⟩, ⟨g1, -⟩⟩ := hval h1 h2
        refine ev_call [.bool (decide (x1 < 0)), .agg (mgk 32 (x1 : Int).natAbs)] rfl rfl (pure_gives (a1)) (fun β => by simp [BTm.den, Tm.i, Tm.s, Tm.den, env, vInt, vBool, vStr, exI, SW.den, SV.den, Cell.den, densP, Piece.den, denV, rowCells_mgk, iv_list, rv_list, ivZ, rvZ, mgl_agg]) (fun β => by simp [BTm.den, Tm.i, Tm.s, Tm.den, env, vInt, vBool, vStr, exI, SW.den, SV.den, Cell.den, densP, Piece.den, denV, rowCells_mgk, iv_list, rv_list, ivZ, rvZ, mgl_agg]) ?_
        refine ev_call [.bool (decide (x2 < 0)), .agg (mgk 32 (x2 : Int).natAbs)] rfl rfl (pure_gives (b1)) (fun β => by simp [BTm.den, Tm.i, Tm.s, Tm.den, env, vInt, vBool, vStr, exI, SW.den, SV.den, Cell.den, densP, Piece.den, denV, rowCells_mgk, iv_list, rv_list, ivZ, rvZ, mgl_agg]) (fun β => by simp [BTm.den, Tm.i, Tm.s, Tm.den, env, vInt, vBool, vStr, exI, SW.den, SV.den, Cell.den, densP, Piece.den, denV, rowCells_mgk, iv_list, rv_list, ivZ, rvZ, mgl_agg]) ?_
        refine ev_call [.bool (decide (x < 0)), .agg (mgk 32 (x : Int).natAbs)] rfl rfl (pure_gives (q1)) (fun β => by simp [BTm.den, Tm.i, Tm.s, Tm.den, env, vInt, vBool, vStr, exI, SW.den, SV.den, Cell.den, densP, Piece.den, denV, rowCells_mgk, iv_list, rv_list, ivZ, rvZ, mgl_agg]) (fun β => by simp [BTm.den, Tm.i, Tm.s, Tm.den, env, vInt, vBool, vStr, exI, SW.den, SV.den, Cell.den, densP, Piece.den, denV, rowCells_mgk, iv_list, rv_list, ivZ, rvZ, mgl_agg]) ?_
        refine ev_call [.bool (decide (y < 0)), .agg (mgk 32 (y : Int).natAbs)] rfl rfl (pure_gives (c1)) (fun β => by simp [BTm.den, Tm.i, Tm.s, Tm.den, env, vInt, vBool, vStr, exI, SW.den, SV.den, Cell.den, densP, Piece.den, denV, rowCells_mgk, iv_list, rv_list, ivZ, rvZ, mgl_agg]) (fun β => by simp [BTm.den, Tm.i, Tm.s, Tm.den, env, vInt, vBool, vStr, exI, SW.den, SV.den, Cell.den, densP, Piece.den, denV, rowCells_mgk, iv_list, rv_list, ivZ, rvZ, mgl_agg]) ?_
        refine ev_call [.bool (decide (a < 0)), .agg (mgk 32 (a : Int).natAbs), .bool (decide (b < 0)), .agg (mgk 32 (b : Int).natAbs), .int .i64 e] rfl rfl (pure_gives (g1)) (fun β => by simp [BTm.den, Tm.i, Tm.s, Tm.den, env, vInt, vBool, vStr, exI, SW.den, SV.den, Cell.den, densP, Piece.den, denV, rowCells_mgk, iv_list, rv_list, ivZ, rvZ, mgl_agg]) (fun β => by simp [BTm.den, Tm.i, Tm.s, Tm.den, env, vInt, vBool, vStr, exI, SW.den, SV.den, Cell.den, densP, Piece.den, denV, rowCells_mgk, iv_list, rv_list, ivZ, rvZ, mgl_agg]) ?_
        refine ev_nil fun β => ?_
        rw [hr]; simp [BTm.den, Tm.i, Tm.s, Tm.den, env, vInt, vBool, vStr, exI, SW.den, SV.den, Cell.den, densP, Piece.den, denV, rowCells_mgk, iv_list, rv_list, ivZ, rvZ, mgl_agg]
      · have h2 : v2 = false := by simpa [BTm.den, Tm.i, Tm.s, Tm.den, env, vInt, vBool, vStr, exI] using h
        rw [hno (.inr h2), errV, ← zero_rat]; simp [BTm.den, Tm.i, Tm.s, Tm.den, env, vInt, vBool, vStr, exI, SW.den, SV.den, Cell.den, densP, Piece.den, denV, denT]
    · have h1 : v1 = false := by simpa [BTm.den, Tm.i, Tm.s, Tm.den, env, vInt, vBool, vStr, exI] using h
      rw [hno (.inl h1), errV, ← zero_rat]; simp [BTm.den, Tm.i, Tm.s, Tm.den, env, vInt, vBool, vStr, exI, SW.den, SV.den, Cell.den, densP, Piece.den, denV, denT]
  have main2 : tdAdd.den Tryz.prog (fun ρ' ret => ∀ β, ret.val.den (env ρ') β = V) [.bool s, .agg (mgk 32 n), .bool t, .agg (mgk 32 m), .bool s', .agg (mgk 32 n'), .bool t', .agg (mgk 32 m')] := by
    refine tree_ite ?_
    refine ev_call [.bool v1] rfl rfl (pure_gives (d1)) (fun β => by simp [BTm.den, Tm.i, Tm.s, Tm.den, env, vInt, vBool, vStr, exI, SW.den, SV.den, Cell.den, densP, Piece.den, denV, rowCells_mgk, iv_list, rv_list, ivZ, rvZ, mgl_agg]) (fun β => by simp [BTm.den, Tm.i, Tm.s, Tm.den, env, vInt, vBool, vStr, exI, SW.den, SV.den, Cell.den, densP, Piece.den, denV, rowCells_mgk, iv_list, rv_list, ivZ, rvZ, mgl_agg]) ?_
    refine ev_nil ⟨fun h => tree_ite ?_, fun h => tree_leaf (ev_nil fun β => ?_)⟩
    · have h1 : v1 = true := by simpa [BTm.den, Tm.i, Tm.s, Tm.den, env, vInt, vBool, vStr, exI] using h
      refine ev_call [.bool v2] rfl rfl (pure_gives (d2)) (fun β => by simp [BTm.den, Tm.i, Tm.s, Tm.den, env, vInt, vBool, vStr, exI, SW.den, SV.den, Cell.den, densP, Piece.den, denV, rowCells_mgk, iv_list, rv_list, ivZ, rvZ, mgl_agg]) (fun β => by simp [BTm.den, Tm.i, Tm.s, Tm.den, env, vInt, vBool, vStr, exI, SW.den, SV.den, Cell.den, densP, Piece.den, denV, rowCells_mgk, iv_list, rv_list, ivZ, rvZ, mgl_agg]) ?_
      refine ev_nil ⟨fun h => tree_leaf ?_, fun h => tree_leaf (ev_nil fun β => ?_)⟩
      · have h2 : v2 = true := by simpa [BTm.den, Tm.i, Tm.s, Tm.den, env, vInt, vBool, vStr, exI] using h
        obtain ⟨x1, x2, x, y, a, b, e, hr, ⟨-, a1⟩, ⟨-, b1⟩, ⟨-, q1⟩, ⟨-, c1⟩, ⟨-, g1⟩⟩ := hval h1 h2
        refine ev_call [.bool (decide (x1 < 0)), .agg (mgk 32 (x1 : Int).natAbs)] rfl rfl (pure_gives (a1)) (fun β => by simp [BTm.den, Tm.i, Tm.s, Tm.den, env, vInt, vBool, vStr, exI, SW.den, SV.den, Cell.den, densP, Piece.den, denV, rowCells_mgk, iv_list, rv_list, ivZ, rvZ, mgl_agg]) (fun β => by simp [BTm.den, Tm.i, Tm.s, Tm.den, env, vInt, vBool, vStr, exI, SW.den, SV.den, Cell.den, densP, Piece.den, denV, rowCells_mgk, iv_list, rv_list, ivZ, rvZ, mgl_agg]) ?_
        refine ev_call [.bool (decide (x2 < 0)), .agg (mgk 32 (x2 : Int).natAbs)] rfl rfl (pure_gives (b1)) (fun β => by simp [BTm.den, Tm.i, Tm.s, Tm.den, env, vInt, vBool, vStr, exI, SW.den, SV.den, Cell.den, densP, Piece.den, denV, rowCells_mgk, iv_list, rv_list, ivZ, rvZ, mgl_agg]) (fun β => by simp [BTm.den, Tm.i, Tm.s, Tm.den, env, vInt, vBool, vStr, exI, SW.den, SV.den, Cell.den, densP, Piece.den, denV, rowCells_mgk, iv_list, rv_list, ivZ, rvZ, mgl_agg]) ?_
        refine ev_call [.bool (decide (x < 0)), .agg (mgk 32 (x : Int).natAbs), .int .i64 0] rfl rfl (pure_gives (q1)) (fun β => by simp [BTm.den, Tm.i, Tm.s, Tm.den, env, vInt, vBool, vStr, exI, SW.den, SV.den, Cell.den, densP, Piece.den, denV, rowCells_mgk, iv_list, rv_list, ivZ, rvZ, mgl_agg]) (fun β => by simp [BTm.den, Tm.i, Tm.s, Tm.den, env, vInt, vBool, vStr, exI, SW.den, SV.den, Cell.den, densP, Piece.den, denV, rowCells_mgk, iv_list, rv_list, ivZ, rvZ, mgl_agg]) ?_
        refine ev_call [.bool (decide (y < 0)), .agg (mgk 32 (y : Int).natAbs)] rfl rfl (pure_gives (c1)) (fun β => by simp [BTm.den, Tm.i, Tm.s, Tm.den, env, vInt, vBool, vStr, exI, SW.den, SV.den, Cell.den, densP, Piece.den, denV, rowCells_mgk, iv_list, rv_list, ivZ, rvZ, mgl_agg]) (fun β => by simp [BTm.den, Tm.i, Tm.s, Tm.den, env, vInt, vBool, vStr, exI, SW.den, SV.den, Cell.den, densP, Piece.den, denV, rowCells_mgk, iv_list, rv_list, ivZ, rvZ, mgl_agg]) ?_
        refine ev_call [.bool (decide (a < 0)), .agg (mgk 32 (a : Int).natAbs), .bool (decide (b < 0)), .agg (mgk 32 (b : Int).natAbs), .int .i64 e] rfl rfl (pure_gives (g1)) (fun β => by simp [BTm.den, Tm.i, Tm.s, Tm.den, env, vInt, vBool, vStr, exI, SW.den, SV.den, Cell.den, densP, Piece.den, denV, rowCells_mgk, iv_list, rv_list, ivZ, rvZ, mgl_agg]) (fun β => by simp [BTm.den, Tm.i, Tm.s, Tm.den, env, vInt, vBool, vStr, exI, SW.den, SV.den, Cell.den, densP, Piece.den, denV, rowCells_mgk, iv_list, rv_list, ivZ, rvZ, mgl_agg]) ?_
        refine ev_nil fun β => ?_
        rw [hr]; simp [BTm.den, Tm.i, Tm.s, Tm.den, env, vInt, vBool, vStr, exI, SW.den, SV.den, Cell.den, densP, Piece.den, denV, rowCells_mgk, iv_list, rv_list, ivZ, rvZ, mgl_agg]
      · have h2 : v2 = false := by simpa [BTm.den, Tm.i, Tm.s, Tm.den, env, vInt, vBool, vStr, exI] using h
        rw [hno (.inr h2), errV, ← zero_rat]; simp [BTm.den, Tm.i, Tm.s, Tm.den, env, vInt, vBool, vStr, exI, SW.den, SV.den, Cell.den, densP, Piece.den, denV, denT]
    · have h1 : v1 = false := by simpa [BTm.den, Tm.i, Tm.s, Tm.den, env, vInt, vBool, vStr, exI] using h
      rw [hno (.inl h1), errV, ← zero_rat]; simp [BTm.den, Tm.i, Tm.s, Tm.den, env, vInt, vBool, vStr, exI, SW.den, SV.den, Cell.den, densP, Piece.den, denV, denT]
  have h1 := pure_of plain [.bool s, .agg (mgk 32 n), .bool t, .agg (mgk 32 m), .bool s', .agg (mgk 32 n'), .bool t', .agg (mgk 32 m')] tpAdd_ok (by kernel_rfl) _ main1
  have h2 := pure_of plain [.bool s, .agg (mgk 32 n), .bool t, .agg (mgk 32 m), .bool s', .agg (mgk 32 n'), .bool t', .agg (mgk 32 m')] tdAdd_ok (by kernel_rfl) _ main2
  refine ⟨gives_pure ?_, gives_pure ?_⟩
  · simpa [ratR, BTm.den, Tm.i, Tm.s, Tm.den, env, vInt, vBool, vStr, exI, SW.den, SV.den, Cell.den, densP, Piece.den, denV, denT, rowCells_mgk, rv_list] using h1
  · simpa [ratR, BTm.den, Tm.i, Tm.s, Tm.den, env, vInt, vBool, vStr, exI, SW.den, SV.den, Cell.den, densP, Piece.den, denV, denT, rowCells_mgk, rv_list] using h2
end Go.Proofs.YtfdlgeomaballaaGreat
end
section
/- Comparing ratios: package ratio and the document. -/
namespace Go.Proofs.YtfdlgeomaballaaGreat
open Go.RowKit Go.Proofs.YtfdlgeomaballaaGreat.Sx
set_option linter.unusedSimpArgs false
set_option linter.unusedVariables false

def cmpE : Value := .tuple #[.int .i64 0, .int .i64 20]
/-- What Cmp returns. -/
def cmpR (s : Bool) (n : Nat) (t : Bool) (m : Nat) (s' : Bool) (n' : Nat) (t' : Bool) (m' : Nat) : Value :=
  if (vld s n t m && vld s' n' t' m') = true then .tuple #[.int .i64 (cmpZ (vz s n * vz t' m') (vz s' n' * vz t m)), .int .i64 0] else cmpE
theorem compare_rat (s t s' t' : Bool) (n m n' m' : Nat) (x1 x2 c : Int) (a1 : Gives Tryz.prog 59 #[.agg (iv s n), .agg (iv t' m')] (.agg (ivZ x1))) (b1 : Gives Tryz.prog 59 #[.agg (iv s' n'), .agg (iv t m)] (.agg (ivZ x2))) (g1 : Gives Tryz.prog 82 #[.agg (ivZ x1), .agg (ivZ x2)] (.int .i64 c)) :
    Gives Tryz.prog 64 #[.agg (rv s n t m), .agg (rv s' n' t' m')] (.int .i64 c) := by
  have main : tdCompare.den Tryz.prog (fun ρ' ret => ∀ β, ret.val.den (env ρ') β = .int .i64 c) [.bool s, .agg (mgk 32 n), .bool t, .agg (mgk 32 m), .bool s', .agg (mgk 32 n'), .bool t', .agg (mgk 32 m')] := by
    refine tree_leaf ?_
    refine ev_call [.bool (decide (x1 < 0)), .agg (mgk 32 (x1 : Int).natAbs)] rfl rfl (pure_gives (a1)) (fun β => by simp [BTm.den, Tm.i, Tm.s, Tm.den, env, vInt, vBool, vStr, exI, SW.den, SV.den, Cell.den, densP, Piece.den, denV, rowCells_mgk, iv_list, rv_list, ivZ, rvZ, mgl_agg]) (fun β => by simp [BTm.den, Tm.i, Tm.s, Tm.den, env, vInt, vBool, vStr, exI, SW.den, SV.den, Cell.den, densP, Piece.den, denV, rowCells_mgk, iv_list, rv_list, ivZ, rvZ, mgl_agg]) ?_
    refine ev_call [.bool (decide (x2 < 0)), .agg (mgk 32 (x2 : Int).natAbs)] rfl rfl (pure_gives (b1)) (fun β => by simp [BTm.den, Tm.i, Tm.s, Tm.den, env, vInt, vBool, vStr, exI, SW.den, SV.den, Cell.den, densP, Piece.den, denV, rowCells_mgk, iv_list, rv_list, ivZ, rvZ, mgl_agg]) (fun β => by simp [BTm.den, Tm.i, Tm.s, Tm.den, env, vInt, vBool, vStr, exI, SW.den, SV.den, Cell.den, densP, Piece.den, denV, rowCells_mgk, iv_list, rv_list, ivZ, rvZ, mgl_agg]) ?_
    refine ev_call [.int .i64 c] rfl rfl (pure_gives (g1)) (fun β => by simp [BTm.den, Tm.i, Tm.s, Tm.den, env, vInt, vBool, vStr, exI, SW.den, SV.den, Cell.den, densP, Piece.den, denV, rowCells_mgk, iv_list, rv_list, ivZ, rvZ, mgl_agg]) (fun β => by simp [BTm.den, Tm.i, Tm.s, Tm.den, env, vInt, vBool, vStr, exI, SW.den, SV.den, Cell.den, densP, Piece.den, denV, rowCells_mgk, iv_list, rv_list, ivZ, rvZ, mgl_agg]) ?_
    refine ev_nil fun β => ?_
    simp [BTm.den, Tm.i, Tm.s, Tm.den, env, vInt, vBool, vStr, exI, SW.den, SV.den, Cell.den, densP, Piece.den, denV, rowCells_mgk, iv_list, rv_list, ivZ, rvZ, mgl_agg]
  have h1 := pure_of plain [.bool s, .agg (mgk 32 n), .bool t, .agg (mgk 32 m), .bool s', .agg (mgk 32 n'), .bool t', .agg (mgk 32 m')] tdCompare_ok (by kernel_rfl) _ main
  refine gives_pure ?_
  simpa [ratR, BTm.den, Tm.i, Tm.s, Tm.den, env, vInt, vBool, vStr, exI, SW.den, SV.den, Cell.den, densP, Piece.den, denV, denT, rowCells_mgk, rv_list] using h1
set_option maxHeartbeats 2000000 in
theorem cmp_rat (s t s' t' : Bool) (n m n' m' : Nat) (hn : n < pw 32) (hm : m < pw 32) (hn' : n' < pw 32) (hm' : m' < pw 32) :
    Gives Tryz.prog 33 #[.agg (rv s n t m), .agg (rv s' n' t' m')] (cmpR s n t m s' n' t' m') ∧ Gives Tryz.prog 34 #[.agg (rv s n t m), .agg (rv s' n' t' m')] (cmpR s n t m s' n' t' m') := by
  have p1 := pValid s t n m hn hm
  have p2 := pValid s' t' n' m' hn' hm'
  have d1 := dValid s t n m hn hm
  have d2 := dValid s' t' n' m' hn' hm'
  have hval : vld s n t m = true → vld s' n' t' m' = true → ∃ x1 x2 c : Int, cmpR s n t m s' n' t' m' = .tuple #[.int .i64 c, .int .i64 0] ∧
      (Gives Tryz.prog 57 #[.agg (iv s n), .agg (iv t' m')] (.agg (ivZ x1)) ∧ Gives Tryz.prog 59 #[.agg (iv s n), .agg (iv t' m')] (.agg (ivZ x1))) ∧
      (Gives Tryz.prog 57 #[.agg (iv s' n'), .agg (iv t m)] (.agg (ivZ x2)) ∧ Gives Tryz.prog 59 #[.agg (iv s' n'), .agg (iv t m)] (.agg (ivZ x2))) ∧
      Gives Tryz.prog 63 #[.agg (ivZ x1), .agg (ivZ x2)] (.int .i64 c) ∧ Gives Tryz.prog 82 #[.agg (ivZ x1), .agg (ivZ x2)] (.int .i64 c) := by
    intro h1 h2
    obtain ⟨L, hL, hb⟩ := pw_room
    obtain ⟨-, -, -, u1, u2, -⟩ := vld_parts h1
    obtain ⟨-, -, -, u3, u4, -⟩ := vld_parts h2
    obtain ⟨a1, a2, a3⟩ := short_times hL s t' n m' (hb _ u1) (hb _ u4) hn hm'
    obtain ⟨b1, b2, b3⟩ := short_times hL s' t n' m (hb _ u3) (hb _ u2) hn' hm
    have g1 := cmp_any (decide (vz s n * vz t' m' < 0)) (decide (vz s' n' * vz t m < 0)) _ _ a3 b3
    have g2 := rcmp_any (decide (vz s n * vz t' m' < 0)) (decide (vz s' n' * vz t m < 0)) _ _ a3 b3
    rw [vz_self, vz_self] at g1 g2
    refine ⟨_, _, _, ?_, a1, b1, g1, g2⟩
    unfold cmpR
    rw [h1, h2, if_pos (by rfl)]
  obtain ⟨v1, hv1⟩ : ∃ b, b = vld s n t m := ⟨_, rfl⟩
  obtain ⟨v2, hv2⟩ : ∃ b, b = vld s' n' t' m' := ⟨_, rfl⟩
  have hno : v1 = false ∨ v2 = false → cmpR s n t m s' n' t' m' = cmpE := fun h => by
    unfold cmpR; rw [← hv1, ← hv2, if_neg]
    rcases h with rfl | rfl <;> simp
  rw [← hv1] at p1 d1 hval
  rw [← hv2] at p2 d2 hval
  obtain ⟨V, hV⟩ : ∃ V, V = cmpR s n t m s' n' t' m' := ⟨_, rfl⟩
  rw [← hV] at hval hno ⊢
  have main1 : tpCmp.den Tryz.prog (fun ρ' ret => ∀ β, ret.val.den (env ρ') β = V) [.bool s, .agg (mgk 32 n), .bool t, .agg (mgk 32 m), .bool s', .agg (mgk 32 n'), .bool t', .agg (mgk 32 m')] := by
    refine tree_ite ?_
    refine ev_call [.bool v1] rfl rfl (pure_gives (p1)) (fun β => by simp [BTm.den, Tm.i, Tm.s, Tm.den, env, vInt, vBool, vStr, exI, SW.den, SV.den, Cell.den, densP, Piece.den, denV, rowCells_mgk, iv_list, rv_list, ivZ, rvZ, mgl_agg]) (fun β => by simp [BTm.den, Tm.i, Tm.s, Tm.den, env, vInt, vBool, vStr, exI, SW.den, SV.den, Cell.den, densP, Piece.den, denV, rowCells_mgk, iv_list, rv_list, ivZ, rvZ, mgl_agg]) ?_
    refine ev_nil ⟨fun h => tree_ite ?_, fun h => tree_leaf (ev_nil fun β => ?_)⟩
    · have h1 : v1 = true := by simpa [BTm.den, Tm.i, Tm.s, Tm.den, env, vInt, vBool, vStr, exI] using h
      refine ev_call [.bool v2] rfl rfl (pure_gives (p2)) (fun β => by simp [BTm.den, Tm.i, Tm.s, Tm.den, env, vInt, vBool, vStr, exI, SW.den, SV.den, Cell.den, densP, Piece.den, denV, rowCells_mgk, iv_list, rv_list, ivZ, rvZ, mgl_agg]) (fun β => by simp [BTm.den, Tm.i, Tm.s, Tm.den, env, vInt, vBool, vStr, exI, SW.den, SV.den, Cell.den, densP, Piece.den, denV, rowCells_mgk, iv_list, rv_list, ivZ, rvZ, mgl_agg]) ?_
      refine ev_nil ⟨fun h => tree_leaf ?_, fun h => tree_leaf (ev_nil fun β => ?_)⟩
      · have h2 : v2 = true := by simpa [BTm.den, Tm.i, Tm.s, Tm.den, env, vInt, vBool, vStr, exI] using h
        obtain ⟨x1, x2, c, hr, ⟨a1, -⟩, ⟨b1, -⟩, g1, -⟩ := hval h1 h2
        refine ev_call [.bool (decide (x1 < 0)), .agg (mgk 32 (x1 : Int).natAbs)] rfl rfl (pure_gives (a1)) (fun β => by simp [BTm.den, Tm.i, Tm.s, Tm.den, env, vInt, vBool, vStr, exI, SW.den, SV.den, Cell.den, densP, Piece.den, denV, rowCells_mgk, iv_list, rv_list, ivZ, rvZ, mgl_agg]) (fun β => by simp [BTm.den, Tm.i, Tm.s, Tm.den, env, vInt, vBool, vStr, exI, SW.den, SV.den, Cell.den, densP, Piece.den, denV, rowCells_mgk, iv_list, rv_list, ivZ, rvZ, mgl_agg]) ?_
        refine ev_call [.bool (decide (x2 < 0)), .agg (mgk 32 (x2 : Int).natAbs)] rfl rfl (pure_gives (b1)) (fun β => by simp [BTm.den, Tm.i, Tm.s, Tm.den, env, vInt, vBool, vStr, exI, SW.den, SV.den, Cell.den, densP, Piece.den, denV, rowCells_mgk, iv_list, rv_list, ivZ, rvZ, mgl_agg]) (fun β => by simp [BTm.den, Tm.i, Tm.s, Tm.den, env, vInt, vBool, vStr, exI, SW.den, SV.den, Cell.den, densP, Piece.den, denV, rowCells_mgk, iv_list, rv_list, ivZ, rvZ, mgl_agg]) ?_
        refine ev_call [.int .i64 c] rfl rfl (pure_gives (g1)) (fun β => by simp [BTm.den, Tm.i, Tm.s, Tm.den, env, vInt, vBool, vStr, exI, SW.den, SV.den, Cell.den, densP, Piece.den, denV, rowCells_mgk, iv_list, rv_list, ivZ, rvZ, mgl_agg]) (fun β => by simp [BTm.den, Tm.i, Tm.s, Tm.den, env, vInt, vBool, vStr, exI, SW.den, SV.den, Cell.den, densP, Piece.den, denV, rowCells_mgk, iv_list, rv_list, ivZ, rvZ, mgl_agg]) ?_
        refine ev_nil fun β => ?_
        rw [hr]; simp [BTm.den, Tm.i, Tm.s, Tm.den, env, vInt, vBool, vStr, exI, SW.den, SV.den, Cell.den, densP, Piece.den, denV, rowCells_mgk, iv_list, rv_list, ivZ, rvZ, mgl_agg]
      · have h2 : v2 = false := by simpa [BTm.den, Tm.i, Tm.s, Tm.den, env, vInt, vBool, vStr, exI] using h
        rw [hno (.inr h2), cmpE]; simp [BTm.den, Tm.i, Tm.s, Tm.den, env, vInt, vBool, vStr, exI, SW.den, SV.den, Cell.den, densP, Piece.den, denV, denT]
    · have h1 : v1 = false := by simpa [BTm.den, Tm.i, Tm.s, Tm.den, env, vInt, vBool, vStr, exI] using h
      rw [hno (.inl h1), cmpE]; simp [BTm.den, Tm.i, Tm.s, Tm.den, env, vInt, vBool, vStr, exI, SW.den, SV.den, Cell.den, densP, Piece.den, denV, denT]
  have main2 : tdCmp.den Tryz.prog (fun ρ' ret => ∀ β, ret.val.den (env ρ') β = V) [.bool s, .agg (mgk 32 n), .bool t, .agg (mgk 32 m), .bool s', .agg (mgk 32 n'), .bool t', .agg (mgk 32 m')] := by
    refine tree_ite ?_
    refine ev_call [.bool v1] rfl rfl (pure_gives (d1)) (fun β => by simp [BTm.den, Tm.i, Tm.s, Tm.den, env, vInt, vBool, vStr, exI, SW.den, SV.den, Cell.den, densP, Piece.den, denV, rowCells_mgk, iv_list, rv_list, ivZ, rvZ, mgl_agg]) (fun β => by simp [BTm.den, Tm.i, Tm.s, Tm.den, env, vInt, vBool, vStr, exI, SW.den, SV.den, Cell.den, densP, Piece.den, denV, rowCells_mgk, iv_list, rv_list, ivZ, rvZ, mgl_agg]) ?_
    refine ev_nil ⟨fun h => tree_ite ?_, fun h => tree_leaf (ev_nil fun β => ?_)⟩
    · have h1 : v1 = true := by simpa [BTm.den, Tm.i, Tm.s, Tm.den, env, vInt, vBool, vStr, exI] using h
      refine ev_call [.bool v2] rfl rfl (pure_gives (d2)) (fun β => by simp [BTm.den, Tm.i, Tm.s, Tm.den, env, vInt, vBool, vStr, exI, SW.den, SV.den, Cell.den, densP, Piece.den, denV, rowCells_mgk, iv_list, rv_list, ivZ, rvZ, mgl_agg]) (fun β => by simp [BTm.den, Tm.i, Tm.s, Tm.den, env, vInt, vBool, vStr, exI, SW.den, SV.den, Cell.den, densP, Piece.den, denV, rowCells_mgk, iv_list, rv_list, ivZ, rvZ, mgl_agg]) ?_
      refine ev_nil ⟨fun h => tree_leaf ?_, fun h => tree_leaf (ev_nil fun β => ?_)⟩
      · have h2 : v2 = true := by simpa [BTm.den, Tm.i, Tm.s, Tm.den, env, vInt, vBool, vStr, exI] using h
        obtain ⟨x1, x2, c, hr, ⟨-, a1⟩, ⟨-, b1⟩, -, g1⟩ := hval h1 h2
        have gc := compare_rat s t s' t' n m n' m' x1 x2 c a1 b1 g1
        refine ev_call [.int .i64 c] rfl rfl (pure_gives (gc)) (fun β => by simp [BTm.den, Tm.i, Tm.s, Tm.den, env, vInt, vBool, vStr, exI, SW.den, SV.den, Cell.den, densP, Piece.den, denV, rowCells_mgk, iv_list, rv_list, ivZ, rvZ, mgl_agg]) (fun β => by simp [BTm.den, Tm.i, Tm.s, Tm.den, env, vInt, vBool, vStr, exI, SW.den, SV.den, Cell.den, densP, Piece.den, denV, rowCells_mgk, iv_list, rv_list, ivZ, rvZ, mgl_agg]) ?_
        refine ev_nil fun β => ?_
        rw [hr]; simp [BTm.den, Tm.i, Tm.s, Tm.den, env, vInt, vBool, vStr, exI, SW.den, SV.den, Cell.den, densP, Piece.den, denV, rowCells_mgk, iv_list, rv_list, ivZ, rvZ, mgl_agg]
      · have h2 : v2 = false := by simpa [BTm.den, Tm.i, Tm.s, Tm.den, env, vInt, vBool, vStr, exI] using h
        rw [hno (.inr h2), cmpE]; simp [BTm.den, Tm.i, Tm.s, Tm.den, env, vInt, vBool, vStr, exI, SW.den, SV.den, Cell.den, densP, Piece.den, denV, denT]
    · have h1 : v1 = false := by simpa [BTm.den, Tm.i, Tm.s, Tm.den, env, vInt, vBool, vStr, exI] using h
      rw [hno (.inl h1), cmpE]; simp [BTm.den, Tm.i, Tm.s, Tm.den, env, vInt, vBool, vStr, exI, SW.den, SV.den, Cell.den, densP, Piece.den, denV, denT]
  have h1 := pure_of plain [.bool s, .agg (mgk 32 n), .bool t, .agg (mgk 32 m), .bool s', .agg (mgk 32 n'), .bool t', .agg (mgk 32 m')] tpCmp_ok (by kernel_rfl) _ main1
  have h2 := pure_of plain [.bool s, .agg (mgk 32 n), .bool t, .agg (mgk 32 m), .bool s', .agg (mgk 32 n'), .bool t', .agg (mgk 32 m')] tdCmp_ok (by kernel_rfl) _ main2
  refine ⟨gives_pure ?_, gives_pure ?_⟩
  · simpa [ratR, BTm.den, Tm.i, Tm.s, Tm.den, env, vInt, vBool, vStr, exI, SW.den, SV.den, Cell.den, densP, Piece.den, denV, denT, rowCells_mgk, rv_list] using h1
  · simpa [ratR, BTm.den, Tm.i, Tm.s, Tm.den, env, vInt, vBool, vStr, exI, SW.den, SV.den, Cell.den, densP, Piece.den, denV, denT, rowCells_mgk, rv_list] using h2
end Go.Proofs.YtfdlgeomaballaaGreat
end
section
/- Differences of ratios: package ratio and the document. -/
namespace Go.Proofs.YtfdlgeomaballaaGreat
open Go.RowKit Go.Proofs.YtfdlgeomaballaaGreat.Sx
set_option linter.unusedSimpArgs false
set_option linter.unusedVariables false

/-- What Sub returns. -/
def subR (s : Bool) (n : Nat) (t : Bool) (m : Nat) (s' : Bool) (n' : Nat) (t' : Bool) (m' : Nat) : Value :=
  if (vld s n t m && vld s' n' t' m') = true then mkZ (vz s n * vz t' m' + -(vz s' n' * vz t m)) (vz t m * vz t' m') else errV 20
theorem negative_rat (s t : Bool) (n m : Nat) (hn : n < pw 32) : Gives Tryz.prog 42 #[.agg (rv s n t m)] (.agg (rv (decide (-vz s n < 0)) n t m)) := by
  have g1 := rneg_any s n hn
  have hab : (-vz s n).natAbs = n := by rw [Int.natAbs_neg, vz_abs]
  unfold ivZ at g1
  rw [hab] at g1
  have main : tdNegative.den Tryz.prog (fun ρ' ret => ∀ β, ret.val.den (env ρ') β = .agg (rv (decide (-vz s n < 0)) n t m)) [.bool s, .agg (mgk 32 n), .bool t, .agg (mgk 32 m)] := by
    refine tree_leaf ?_
    obtain ⟨w, hw⟩ : ∃ w, w = decide (-vz s n < 0) := ⟨_, rfl⟩
    rw [← hw] at g1 ⊢
    refine ev_call [.bool w, .agg (mgk 32 n)] rfl rfl (pure_gives (g1)) (fun β => by simp [BTm.den, Tm.i, Tm.s, Tm.den, env, vInt, vBool, vStr, exI, SW.den, SV.den, Cell.den, densP, Piece.den, denV, rowCells_mgk, iv_list, rv_list, ivZ, rvZ, mgl_agg]) (fun β => by simp [BTm.den, Tm.i, Tm.s, Tm.den, env, vInt, vBool, vStr, exI, SW.den, SV.den, Cell.den, densP, Piece.den, denV, rowCells_mgk, iv_list, rv_list, ivZ, rvZ, mgl_agg]) ?_
    refine ev_nil fun β => ?_
    simp [BTm.den, Tm.i, Tm.s, Tm.den, env, vInt, vBool, vStr, exI, SW.den, SV.den, Cell.den, densP, Piece.den, denV, rowCells_mgk, iv_list, rv_list, ivZ, rvZ, mgl_agg]
  have h1 := pure_of plain [.bool s, .agg (mgk 32 n), .bool t, .agg (mgk 32 m)] tdNegative_ok (by kernel_rfl) _ main
  refine gives_pure ?_
  simpa [ratR, BTm.den, Tm.i, Tm.s, Tm.den, env, vInt, vBool, vStr, exI, SW.den, SV.den, Cell.den, densP, Piece.den, denV, denT, rowCells_mgk, rv_list] using h1
set_option maxHeartbeats 2000000 in
theorem sub_rat (s t s' t' : Bool) (n m n' m' : Nat) (hn : n < pw 32) (hm : m < pw 32) (hn' : n' < pw 32) (hm' : m' < pw 32) :
    Gives Tryz.prog 27 #[.agg (rv s n t m), .agg (rv s' n' t' m')] (subR s n t m s' n' t' m') ∧ Gives Tryz.prog 28 #[.agg (rv s n t m), .agg (rv s' n' t' m')] (subR s n t m s' n' t' m') := by
  have p1 := pValid s t n m hn hm
  have p2 := pValid s' t' n' m' hn' hm'
  have d1 := dValid s t n m hn hm
  have d2 := dValid s' t' n' m' hn' hm'
  have hval : vld s n t m = true → vld s' n' t' m' = true → ∃ x1 x2 x3 x y a b e : Int, subR s n t m s' n' t' m' = .tuple #[.agg (rvZ a b), .int .i64 e] ∧
      Gives Tryz.prog 57 #[.agg (iv s n), .agg (iv t' m')] (.agg (ivZ x1)) ∧
      Gives Tryz.prog 57 #[.agg (iv s' n'), .agg (iv t m)] (.agg (ivZ x2)) ∧
      Gives Tryz.prog 41 #[.agg (ivZ x2)] (.agg (ivZ x3)) ∧
      Gives Tryz.prog 56 #[.agg (ivZ x1), .agg (ivZ x3)] (.agg (ivZ x)) ∧
      Gives Tryz.prog 57 #[.agg (iv t m), .agg (iv t' m')] (.agg (ivZ y)) ∧
      Gives Tryz.prog 74 #[.agg (ivZ x), .agg (ivZ y)] (.tuple #[.agg (rvZ a b), .int .i64 e]) ∧
      Gives Tryz.prog 26 #[.agg (rv s n t m), .agg (rv (decide (-vz s' n' < 0)) n' t' m')] (.tuple #[.agg (rvZ a b), .int .i64 e]) := by
    intro h1 h2
    obtain ⟨L, hL, hb⟩ := pw_room
    obtain ⟨-, -, -, u1, u2, -⟩ := vld_parts h1
    obtain ⟨-, -, -, u3, u4, -⟩ := vld_parts h2
    obtain ⟨a1, a2, a3⟩ := short_times hL s t' n m' (hb _ u1) (hb _ u4) hn hm'
    obtain ⟨b1, b2, b3⟩ := short_times hL s' t n' m (hb _ u3) (hb _ u2) hn' hm
    obtain ⟨c1, c2, c3⟩ := short_times hL t t' m m' (hb _ u2) (hb _ u4) hm hm'
    obtain ⟨q1, q2, q3⟩ := short_plus hL _ (-(vz s' n' * vz t m)) a2 (by rw [Int.natAbs_neg]; exact b2)
    obtain ⟨a, b, e, h⟩ := mkZ_form (vz s n * vz t' m' + -(vz s' n' * vz t m)) (vz t m * vz t' m')
    obtain ⟨g1, g2⟩ := make_Z _ _ q3 c3
    rw [h] at g1
    have hng := neg_any (decide (vz s' n' * vz t m < 0)) _ b3
    rw [vz_self] at hng
    have had := (add_rat s t (decide (-vz s' n' < 0)) t' n m n' m' hn hm hn' hm').2
    have hvn : vld (decide (-vz s' n' < 0)) n' t' m' = true := by
      unfold vld at h2 ⊢
      have : (!(decide (-vz s' n' < 0) && isz n')) = true := by
        by_cases h0 : n' = 0
        · subst h0; cases s' <;> rfl
        · rw [isz_false h0]; simp
      rw [this]
      simp only [Bool.and_eq_true, decide_eq_true_eq] at h2 ⊢
      obtain ⟨⟨⟨⟨⟨-, h2⟩, h3⟩, h4⟩, h5⟩, h6⟩ := h2
      exact ⟨⟨⟨⟨⟨trivial, h2⟩, h3⟩, h4⟩, h5⟩, h6⟩
    have hvv : vz (decide (-vz s' n' < 0)) n' = -vz s' n' := by
      have := vz_self (-vz s' n')
      rwa [Int.natAbs_neg, vz_abs] at this
    unfold addR at had
    rw [h1, hvn, if_pos (by rfl), hvv, Int.neg_mul, h] at had
    refine ⟨_, _, _, _, _, a, b, e, ?_, a1.1, b1.1, hng, q1, c1.1, g1, had⟩
    unfold subR
    rw [h1, h2, if_pos (by rfl), h]
  obtain ⟨v1, hv1⟩ : ∃ b, b = vld s n t m := ⟨_, rfl⟩
  obtain ⟨v2, hv2⟩ : ∃ b, b = vld s' n' t' m' := ⟨_, rfl⟩
  have hno : v1 = false ∨ v2 = false → subR s n t m s' n' t' m' = errV 20 := fun h => by
    unfold subR; rw [← hv1, ← hv2, if_neg]
    rcases h with rfl | rfl <;> simp
  rw [← hv1] at p1 d1 hval
  rw [← hv2] at p2 d2 hval
  obtain ⟨V, hV⟩ : ∃ V, V = subR s n t m s' n' t' m' := ⟨_, rfl⟩
  rw [← hV] at hval hno ⊢
  have main1 : tpSub.den Tryz.prog (fun ρ' ret => ∀ β, ret.val.den (env ρ') β = V) [.bool s, .agg (mgk 32 n), .bool t, .agg (mgk 32 m), .bool s', .agg (mgk 32 n'), .bool t', .agg (mgk 32 m')] := by
    refine tree_ite ?_
    refine ev_call [.bool v1] rfl rfl (pure_gives (p1)) (fun β => by simp [BTm.den, Tm.i, Tm.s, Tm.den, env, vInt, vBool, vStr, exI, SW.den, SV.den, Cell.den, densP, Piece.den, denV, rowCells_mgk, iv_list, rv_list, ivZ, rvZ, mgl_agg]) (fun β => by simp [BTm.den, Tm.i, Tm.s, Tm.den, env, vInt, vBool, vStr, exI, SW.den, SV.den, Cell.den, densP, Piece.den, denV, rowCells_mgk, iv_list, rv_list, ivZ, rvZ, mgl_agg]) ?_
    refine ev_nil ⟨fun h => tree_ite ?_, fun h => tree_leaf (ev_nil fun β => ?_)⟩
    · have h1 : v1 = true := by simpa [BTm.den, Tm.i, Tm.s, Tm.den, env, vInt, vBool, vStr, exI] using h
      refine ev_call [.bool v2] rfl rfl (pure_gives (p2)) (fun β => by simp [BTm.den, Tm.i, Tm.s, Tm.den, env, vInt, vBool, vStr, exI, SW.den, SV.den, Cell.den, densP, Piece.den, denV, rowCells_mgk, iv_list, rv_list, ivZ, rvZ, mgl_agg]) (fun β => by simp [BTm.den, Tm.i, Tm.s, Tm.den, env, vInt, vBool, vStr, exI, SW.den, SV.den, Cell.den, densP, Piece.den, denV, rowCells_mgk, iv_list, rv_list, ivZ, rvZ, mgl_agg]) ?_
      refine ev_nil ⟨fun h => tree_leaf ?_, fun h => tree_leaf (ev_nil fun β => ?_)⟩
      · have h2 : v2 = true := by simpa [BTm.den, Tm.i, Tm.s, Tm.den, env, vInt, vBool, vStr, exI] using h
        obtain ⟨x1, x2, x3, x, y, a, b, e, hr, a1, b1, n1, q1, c1, g1, -⟩ := hval h1 h2
        refine ev_call [.bool (decide (x1 < 0)), .agg (mgk 32 (x1 : Int).natAbs)] rfl rfl (pure_gives (a1)) (fun β => by simp [BTm.den, Tm.i, Tm.s, Tm.den, env, vInt, vBool, vStr, exI, SW.den, SV.den, Cell.den, densP, Piece.den, denV, rowCells_mgk, iv_list, rv_list, ivZ, rvZ, mgl_agg]) (fun β => by simp [BTm.den, Tm.i, Tm.s, Tm.den, env, vInt, vBool, vStr, exI, SW.den, SV.den, Cell.den, densP, Piece.den, denV, rowCells_mgk, iv_list, rv_list, ivZ, rvZ, mgl_agg]) ?_
        refine ev_call [.bool (decide (x2 < 0)), .agg (mgk 32 (x2 : Int).natAbs)] rfl rfl (pure_gives (b1)) (fun β => by simp [BTm.den, Tm.i, Tm.s, Tm.den, env, vInt, vBool, vStr, exI, SW.den, SV.den, Cell.den, densP, Piece.den, denV, rowCells_mgk, iv_list, rv_list, ivZ, rvZ, mgl_agg]) (fun β => by simp [BTm.den, Tm.i, Tm.s, Tm.den, env, vInt, vBool, vStr, exI, SW.den, SV.den, Cell.den, densP, Piece.den, denV, rowCells_mgk, iv_list, rv_list, ivZ, rvZ, mgl_agg]) ?_
        refine ev_call [.bool (decide (x3 < 0)), .agg (mgk 32 (x3 : Int).natAbs)] rfl rfl (pure_gives (n1)) (fun β => by simp [BTm.den, Tm.i, Tm.s, Tm.den, env, vInt, vBool, vStr, exI, SW.den, SV.den, Cell.den, densP, Piece.den, denV, rowCells_mgk, iv_list, rv_list, ivZ, rvZ, mgl_agg]) (fun β => by simp [BTm.den, Tm.i, Tm.s, Tm.den, env, vInt, vBool, vStr, exI, SW.den, SV.den, Cell.den, densP, Piece.den, denV, rowCells_mgk, iv_list, rv_list, ivZ, rvZ, mgl_agg]) ?_
        refine ev_call [.bool (decide (x < 0)), .agg (mgk 32 (x : Int).natAbs)] rfl rfl (pure_gives (q1)) (fun β => by simp [BTm.den, Tm.i, Tm.s, Tm.den, env, vInt, vBool, vStr, exI, SW.den, SV.den, Cell.den, densP, Piece.den, denV, rowCells_mgk, iv_list, rv_list, ivZ, rvZ, mgl_agg]) (fun β => by simp [BTm.den, Tm.i, Tm.s, Tm.den, env, vInt, vBool, vStr, exI, SW.den, SV.den, Cell.den, densP, Piece.den, denV, rowCells_mgk, iv_list, rv_list, ivZ, rvZ, mgl_agg]) ?_
        refine ev_call [.bool (decide (y < 0)), .agg (mgk 32 (y : Int).natAbs)] rfl rfl (pure_gives (c1)) (fun β => by simp [BTm.den, Tm.i, Tm.s, Tm.den, env, vInt, vBool, vStr, exI, SW.den, SV.den, Cell.den, densP, Piece.den, denV, rowCells_mgk, iv_list, rv_list, ivZ, rvZ, mgl_agg]) (fun β => by simp [BTm.den, Tm.i, Tm.s, Tm.den, env, vInt, vBool, vStr, exI, SW.den, SV.den, Cell.den, densP, Piece.den, denV, rowCells_mgk, iv_list, rv_list, ivZ, rvZ, mgl_agg]) ?_
        refine ev_call [.bool (decide (a < 0)), .agg (mgk 32 (a : Int).natAbs), .bool (decide (b < 0)), .agg (mgk 32 (b : Int).natAbs), .int .i64 e] rfl rfl (pure_gives (g1)) (fun β => by simp [BTm.den, Tm.i, Tm.s, Tm.den, env, vInt, vBool, vStr, exI, SW.den, SV.den, Cell.den, densP, Piece.den, denV, rowCells_mgk, iv_list, rv_list, ivZ, rvZ, mgl_agg]) (fun β => by simp [BTm.den, Tm.i, Tm.s, Tm.den, env, vInt, vBool, vStr, exI, SW.den, SV.den, Cell.den, densP, Piece.den, denV, rowCells_mgk, iv_list, rv_list, ivZ, rvZ, mgl_agg]) ?_
        refine ev_nil fun β => ?_
        rw [hr]; simp [BTm.den, Tm.i, Tm.s, Tm.den, env, vInt, vBool, vStr, exI, SW.den, SV.den, Cell.den, densP, Piece.den, denV, rowCells_mgk, iv_list, rv_list, ivZ, rvZ, mgl_agg]
      · have h2 : v2 = false := by simpa [BTm.den, Tm.i, Tm.s, Tm.den, env, vInt, vBool, vStr, exI] using h
        rw [hno (.inr h2), errV, ← zero_rat]; simp [BTm.den, Tm.i, Tm.s, Tm.den, env, vInt, vBool, vStr, exI, SW.den, SV.den, Cell.den, densP, Piece.den, denV, denT]
    · have h1 : v1 = false := by simpa [BTm.den, Tm.i, Tm.s, Tm.den, env, vInt, vBool, vStr, exI] using h
      rw [hno (.inl h1), errV, ← zero_rat]; simp [BTm.den, Tm.i, Tm.s, Tm.den, env, vInt, vBool, vStr, exI, SW.den, SV.den, Cell.den, densP, Piece.den, denV, denT]
  have main2 : tdSub.den Tryz.prog (fun ρ' ret => ∀ β, ret.val.den (env ρ') β = V) [.bool s, .agg (mgk 32 n), .bool t, .agg (mgk 32 m), .bool s', .agg (mgk 32 n'), .bool t', .agg (mgk 32 m')] := by
    refine tree_ite ?_
    refine ev_call [.bool v1] rfl rfl (pure_gives (d1)) (fun β => by simp [BTm.den, Tm.i, Tm.s, Tm.den, env, vInt, vBool, vStr, exI, SW.den, SV.den, Cell.den, densP, Piece.den, denV, rowCells_mgk, iv_list, rv_list, ivZ, rvZ, mgl_agg]) (fun β => by simp [BTm.den, Tm.i, Tm.s, Tm.den, env, vInt, vBool, vStr, exI, SW.den, SV.den, Cell.den, densP, Piece.den, denV, rowCells_mgk, iv_list, rv_list, ivZ, rvZ, mgl_agg]) ?_
    refine ev_nil ⟨fun h => tree_ite ?_, fun h => tree_leaf (ev_nil fun β => ?_)⟩
    · have h1 : v1 = true := by simpa [BTm.den, Tm.i, Tm.s, Tm.den, env, vInt, vBool, vStr, exI] using h
      refine ev_call [.bool v2] rfl rfl (pure_gives (d2)) (fun β => by simp [BTm.den, Tm.i, Tm.s, Tm.den, env, vInt, vBool, vStr, exI, SW.den, SV.den, Cell.den, densP, Piece.den, denV, rowCells_mgk, iv_list, rv_list, ivZ, rvZ, mgl_agg]) (fun β => by simp [BTm.den, Tm.i, Tm.s, Tm.den, env, vInt, vBool, vStr, exI, SW.den, SV.den, Cell.den, densP, Piece.den, denV, rowCells_mgk, iv_list, rv_list, ivZ, rvZ, mgl_agg]) ?_
      refine ev_nil ⟨fun h => tree_leaf ?_, fun h => tree_leaf (ev_nil fun β => ?_)⟩
      · have h2 : v2 = true := by simpa [BTm.den, Tm.i, Tm.s, Tm.den, env, vInt, vBool, vStr, exI] using h
        obtain ⟨x1, x2, x3, x, y, a, b, e, hr, -, -, -, -, -, -, g1⟩ := hval h1 h2
        refine ev_call [.bool (decide (-vz s' n' < 0)), .agg (mgk 32 n'), .bool t', .agg (mgk 32 m')] rfl rfl (pure_gives (negative_rat s' t' n' m' hn')) (fun β => by simp [BTm.den, Tm.i, Tm.s, Tm.den, env, vInt, vBool, vStr, exI, SW.den, SV.den, Cell.den, densP, Piece.den, denV, rowCells_mgk, iv_list, rv_list, ivZ, rvZ, mgl_agg]) (fun β => by simp [BTm.den, Tm.i, Tm.s, Tm.den, env, vInt, vBool, vStr, exI, SW.den, SV.den, Cell.den, densP, Piece.den, denV, rowCells_mgk, iv_list, rv_list, ivZ, rvZ, mgl_agg]) ?_
        refine ev_call [.bool (decide (a < 0)), .agg (mgk 32 (a : Int).natAbs), .bool (decide (b < 0)), .agg (mgk 32 (b : Int).natAbs), .int .i64 e] rfl rfl (pure_gives (g1)) (fun β => by simp [BTm.den, Tm.i, Tm.s, Tm.den, env, vInt, vBool, vStr, exI, SW.den, SV.den, Cell.den, densP, Piece.den, denV, rowCells_mgk, iv_list, rv_list, ivZ, rvZ, mgl_agg]) (fun β => by simp [BTm.den, Tm.i, Tm.s, Tm.den, env, vInt, vBool, vStr, exI, SW.den, SV.den, Cell.den, densP, Piece.den, denV, rowCells_mgk, iv_list, rv_list, ivZ, rvZ, mgl_agg]) ?_
        refine ev_nil fun β => ?_
        rw [hr]; simp [BTm.den, Tm.i, Tm.s, Tm.den, env, vInt, vBool, vStr, exI, SW.den, SV.den, Cell.den, densP, Piece.den, denV, rowCells_mgk, iv_list, rv_list, ivZ, rvZ, mgl_agg]
      · have h2 : v2 = false := by simpa [BTm.den, Tm.i, Tm.s, Tm.den, env, vInt, vBool, vStr, exI] using h
        rw [hno (.inr h2), errV, ← zero_rat]; simp [BTm.den, Tm.i, Tm.s, Tm.den, env, vInt, vBool, vStr, exI, SW.den, SV.den, Cell.den, densP, Piece.den, denV, denT]
    · have h1 : v1 = false := by simpa [BTm.den, Tm.i, Tm.s, Tm.den, env, vInt, vBool, vStr, exI] using h
      rw [hno (.inl h1), errV, ← zero_rat]; simp [BTm.den, Tm.i, Tm.s, Tm.den, env, vInt, vBool, vStr, exI, SW.den, SV.den, Cell.den, densP, Piece.den, denV, denT]
  have h1 := pure_of plain [.bool s, .agg (mgk 32 n), .bool t, .agg (mgk 32 m), .bool s', .agg (mgk 32 n'), .bool t', .agg (mgk 32 m')] tpSub_ok (by kernel_rfl) _ main1
  have h2 := pure_of plain [.bool s, .agg (mgk 32 n), .bool t, .agg (mgk 32 m), .bool s', .agg (mgk 32 n'), .bool t', .agg (mgk 32 m')] tdSub_ok (by kernel_rfl) _ main2
  refine ⟨gives_pure ?_, gives_pure ?_⟩
  · simpa [ratR, BTm.den, Tm.i, Tm.s, Tm.den, env, vInt, vBool, vStr, exI, SW.den, SV.den, Cell.den, densP, Piece.den, denV, denT, rowCells_mgk, rv_list] using h1
  · simpa [ratR, BTm.den, Tm.i, Tm.s, Tm.den, env, vInt, vBool, vStr, exI, SW.den, SV.den, Cell.den, densP, Piece.den, denV, denT, rowCells_mgk, rv_list] using h2
end Go.Proofs.YtfdlgeomaballaaGreat
end
