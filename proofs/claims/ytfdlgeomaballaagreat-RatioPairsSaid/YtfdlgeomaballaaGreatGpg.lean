/- Merged: Ty, Yq, Yx. -/
import Derived.Test.YtfdlgeomaballaaGreatGpf
import Derived.Test.YtfdlgeomaballaaGreatGpc
section
/- Functions of one ratio, Of and Whole: package ratio and the document. -/
namespace Go.Proofs.YtfdlgeomaballaaGreat
open Go.RowKit Go.Proofs.YtfdlgeomaballaaGreat.Sx
set_option linter.unusedSimpArgs false
set_option linter.unusedVariables false

/-- What Neg, Abs, Sign, Floor return. -/
def negR (s : Bool) (n : Nat) (t : Bool) (m : Nat) : Value := if vld s n t m = true then .tuple #[.agg (rv (decide (-vz s n < 0)) n t m), .int .i64 0] else errV 20
def absR (s : Bool) (n : Nat) (t : Bool) (m : Nat) : Value := if vld s n t m = true then .tuple #[.agg (rv false n t m), .int .i64 0] else errV 20
def signR (s : Bool) (n : Nat) (t : Bool) (m : Nat) : Value := if vld s n t m = true then .tuple #[.int .i64 (sgn (vz s n)), .int .i64 0] else cmpE
def floorE : Value := .tuple #[.agg (ivZ 0), .int .i64 20]
def floorR (s : Bool) (n : Nat) (t : Bool) (m : Nat) : Value := if vld s n t m = true then .tuple #[.agg (ivZ (vz s n / vz t m)), .int .i64 0] else floorE
theorem zero_num : (Value.bool false :: List.replicate 32 (.int .u32 0)).toArray = ivZ 0 := by
  rw [← mgl_zero, iv_list]; rfl
set_option maxHeartbeats 2000000 in
theorem neg_rat (s t : Bool) (n m : Nat) (hn : n < pw 32) (hm : m < pw 32) :
    Gives Tryz.prog 8 #[.agg (rv s n t m)] (negR s n t m) ∧ Gives Tryz.prog 9 #[.agg (rv s n t m)] (negR s n t m) := by
  have p1 := pValid s t n m hn hm
  have d1 := dValid s t n m hn hm
  have g1 := neg_any s n hn
  have hab : (-vz s n).natAbs = n := by rw [Int.natAbs_neg, vz_abs]
  unfold ivZ at g1
  rw [hab] at g1
  have g2 := negative_rat s t n m hn
  obtain ⟨V, hV⟩ : ∃ V, V = negR s n t m := ⟨_, rfl⟩
  have hV' := hV
  unfold negR at hV'
  rw [← hV]
  obtain ⟨v1, hv1⟩ : ∃ b, b = vld s n t m := ⟨_, rfl⟩
  obtain ⟨w, hw⟩ : ∃ w, w = decide (-vz s n < 0) := ⟨_, rfl⟩
  rw [← hv1] at p1 d1 hV'
  rw [← hw] at g1 g2 hV'
  have main1 : tpNeg.den Tryz.prog (fun ρ' ret => ∀ β, ret.val.den (env ρ') β = V) [.bool s, .agg (mgk 32 n), .bool t, .agg (mgk 32 m)] := by
    refine tree_ite ?_
    refine ev_call [.bool v1] rfl rfl (pure_gives (p1)) (fun β => by simp [BTm.den, Tm.i, Tm.s, Tm.den, env, vInt, vBool, vStr, exI, SW.den, SV.den, Cell.den, densP, Piece.den, denV, rowCells_mgk, iv_list, rv_list, ivZ, rvZ, mgl_agg]) (fun β => by simp [BTm.den, Tm.i, Tm.s, Tm.den, env, vInt, vBool, vStr, exI, SW.den, SV.den, Cell.den, densP, Piece.den, denV, rowCells_mgk, iv_list, rv_list, ivZ, rvZ, mgl_agg]) ?_
    refine ev_nil ⟨fun h => tree_leaf ?_, fun h => tree_leaf (ev_nil fun β => ?_)⟩
    · have h1 : v1 = true := by simpa [BTm.den, Tm.i, Tm.s, Tm.den, env, vInt, vBool, vStr, exI] using h
      refine ev_call [.bool w, .agg (mgk 32 n)] rfl rfl (pure_gives (g1)) (fun β => by simp [BTm.den, Tm.i, Tm.s, Tm.den, env, vInt, vBool, vStr, exI, SW.den, SV.den, Cell.den, densP, Piece.den, denV, rowCells_mgk, iv_list, rv_list, ivZ, rvZ, mgl_agg]) (fun β => by simp [BTm.den, Tm.i, Tm.s, Tm.den, env, vInt, vBool, vStr, exI, SW.den, SV.den, Cell.den, densP, Piece.den, denV, rowCells_mgk, iv_list, rv_list, ivZ, rvZ, mgl_agg]) ?_
      refine ev_nil fun β => ?_
      rw [hV', if_pos h1]; simp [BTm.den, Tm.i, Tm.s, Tm.den, env, vInt, vBool, vStr, exI, SW.den, SV.den, Cell.den, densP, Piece.den, denV, rowCells_mgk, iv_list, rv_list, ivZ, rvZ, mgl_agg]
    · have h1 : v1 = false := by simpa [BTm.den, Tm.i, Tm.s, Tm.den, env, vInt, vBool, vStr, exI] using h
      rw [hV', h1, if_neg (by simp), errV, ← zero_rat]; simp [BTm.den, Tm.i, Tm.s, Tm.den, env, vInt, vBool, vStr, exI, SW.den, SV.den, Cell.den, densP, Piece.den, denV, denT]
  have main2 : tdNeg.den Tryz.prog (fun ρ' ret => ∀ β, ret.val.den (env ρ') β = V) [.bool s, .agg (mgk 32 n), .bool t, .agg (mgk 32 m)] := by
    refine tree_ite ?_
    refine ev_call [.bool v1] rfl rfl (pure_gives (d1)) (fun β => by simp [BTm.den, Tm.i, Tm.s, Tm.den, env, vInt, vBool, vStr, exI, SW.den, SV.den, Cell.den, densP, Piece.den, denV, rowCells_mgk, iv_list, rv_list, ivZ, rvZ, mgl_agg]) (fun β => by simp [BTm.den, Tm.i, Tm.s, Tm.den, env, vInt, vBool, vStr, exI, SW.den, SV.den, Cell.den, densP, Piece.den, denV, rowCells_mgk, iv_list, rv_list, ivZ, rvZ, mgl_agg]) ?_
    refine ev_nil ⟨fun h => tree_leaf ?_, fun h => tree_leaf (ev_nil fun β => ?_)⟩
    · have h1 : v1 = true := by simpa [BTm.den, Tm.i, Tm.s, Tm.den, env, vInt, vBool, vStr, exI] using h
      refine ev_call [.bool w, .agg (mgk 32 n), .bool t, .agg (mgk 32 m)] rfl rfl (pure_gives (g2)) (fun β => by simp [BTm.den, Tm.i, Tm.s, Tm.den, env, vInt, vBool, vStr, exI, SW.den, SV.den, Cell.den, densP, Piece.den, denV, rowCells_mgk, iv_list, rv_list, ivZ, rvZ, mgl_agg]) (fun β => by simp [BTm.den, Tm.i, Tm.s, Tm.den, env, vInt, vBool, vStr, exI, SW.den, SV.den, Cell.den, densP, Piece.den, denV, rowCells_mgk, iv_list, rv_list, ivZ, rvZ, mgl_agg]) ?_
      refine ev_nil fun β => ?_
      rw [hV', if_pos h1]; simp [BTm.den, Tm.i, Tm.s, Tm.den, env, vInt, vBool, vStr, exI, SW.den, SV.den, Cell.den, densP, Piece.den, denV, rowCells_mgk, iv_list, rv_list, ivZ, rvZ, mgl_agg]
    · have h1 : v1 = false := by simpa [BTm.den, Tm.i, Tm.s, Tm.den, env, vInt, vBool, vStr, exI] using h
      rw [hV', h1, if_neg (by simp), errV, ← zero_rat]; simp [BTm.den, Tm.i, Tm.s, Tm.den, env, vInt, vBool, vStr, exI, SW.den, SV.den, Cell.den, densP, Piece.den, denV, denT]
  have h1 := pure_of plain [.bool s, .agg (mgk 32 n), .bool t, .agg (mgk 32 m)] tpNeg_ok (by kernel_rfl) _ main1
  have h2 := pure_of plain [.bool s, .agg (mgk 32 n), .bool t, .agg (mgk 32 m)] tdNeg_ok (by kernel_rfl) _ main2
  refine ⟨gives_pure ?_, gives_pure ?_⟩
  · simpa [ratR, BTm.den, Tm.i, Tm.s, Tm.den, env, vInt, vBool, vStr, exI, SW.den, SV.den, Cell.den, densP, Piece.den, denV, denT, rowCells_mgk, rv_list] using h1
  · simpa [ratR, BTm.den, Tm.i, Tm.s, Tm.den, env, vInt, vBool, vStr, exI, SW.den, SV.den, Cell.den, densP, Piece.den, denV, denT, rowCells_mgk, rv_list] using h2
set_option maxHeartbeats 2000000 in
theorem abs_rat (s t : Bool) (n m : Nat) (hn : n < pw 32) (hm : m < pw 32) :
    Gives Tryz.prog 10 #[.agg (rv s n t m)] (absR s n t m) ∧ Gives Tryz.prog 11 #[.agg (rv s n t m)] (absR s n t m) := by
  have p1 := pValid s t n m hn hm
  have d1 := dValid s t n m hn hm
  have g1 := rabs_any s n hn
  have hab : (vz false n).natAbs = n := by rw [vz_abs]
  have hlt : decide (vz false n < 0) = false := by rw [vz_lt]; rfl
  unfold ivZ at g1
  rw [hab, hlt] at g1
  obtain ⟨V, hV⟩ : ∃ V, V = absR s n t m := ⟨_, rfl⟩
  have hV' := hV
  unfold absR at hV'
  rw [← hV]
  obtain ⟨v1, hv1⟩ : ∃ b, b = vld s n t m := ⟨_, rfl⟩
  rw [← hv1] at p1 d1 hV'
  have main1 : tpAbs.den Tryz.prog (fun ρ' ret => ∀ β, ret.val.den (env ρ') β = V) [.bool s, .agg (mgk 32 n), .bool t, .agg (mgk 32 m)] := by
    refine tree_ite ?_
    refine ev_call [.bool v1] rfl rfl (pure_gives (p1)) (fun β => by simp [BTm.den, Tm.i, Tm.s, Tm.den, env, vInt, vBool, vStr, exI, SW.den, SV.den, Cell.den, densP, Piece.den, denV, rowCells_mgk, iv_list, rv_list, ivZ, rvZ, mgl_agg]) (fun β => by simp [BTm.den, Tm.i, Tm.s, Tm.den, env, vInt, vBool, vStr, exI, SW.den, SV.den, Cell.den, densP, Piece.den, denV, rowCells_mgk, iv_list, rv_list, ivZ, rvZ, mgl_agg]) ?_
    refine ev_nil ⟨fun h => tree_leaf (ev_nil fun β => ?_), fun h => tree_leaf (ev_nil fun β => ?_)⟩
    · have h1 : v1 = true := by simpa [BTm.den, Tm.i, Tm.s, Tm.den, env, vInt, vBool, vStr, exI] using h
      rw [hV', if_pos h1]; simp [BTm.den, Tm.i, Tm.s, Tm.den, env, vInt, vBool, vStr, exI, SW.den, SV.den, Cell.den, densP, Piece.den, denV, rowCells_mgk, iv_list, rv_list, ivZ, rvZ, mgl_agg]
    · have h1 : v1 = false := by simpa [BTm.den, Tm.i, Tm.s, Tm.den, env, vInt, vBool, vStr, exI] using h
      rw [hV', h1, if_neg (by simp), errV, ← zero_rat]; simp [BTm.den, Tm.i, Tm.s, Tm.den, env, vInt, vBool, vStr, exI, SW.den, SV.den, Cell.den, densP, Piece.den, denV, denT]
  have main2 : tdAbs.den Tryz.prog (fun ρ' ret => ∀ β, ret.val.den (env ρ') β = V) [.bool s, .agg (mgk 32 n), .bool t, .agg (mgk 32 m)] := by
    refine tree_ite ?_
    refine ev_call [.bool v1] rfl rfl (pure_gives (d1)) (fun β => by simp [BTm.den, Tm.i, Tm.s, Tm.den, env, vInt, vBool, vStr, exI, SW.den, SV.den, Cell.den, densP, Piece.den, denV, rowCells_mgk, iv_list, rv_list, ivZ, rvZ, mgl_agg]) (fun β => by simp [BTm.den, Tm.i, Tm.s, Tm.den, env, vInt, vBool, vStr, exI, SW.den, SV.den, Cell.den, densP, Piece.den, denV, rowCells_mgk, iv_list, rv_list, ivZ, rvZ, mgl_agg]) ?_
    refine ev_nil ⟨fun h => tree_leaf ?_, fun h => tree_leaf (ev_nil fun β => ?_)⟩
    · have h1 : v1 = true := by simpa [BTm.den, Tm.i, Tm.s, Tm.den, env, vInt, vBool, vStr, exI] using h
      refine ev_call [.bool false, .agg (mgk 32 n)] rfl rfl (pure_gives (g1)) (fun β => by simp [BTm.den, Tm.i, Tm.s, Tm.den, env, vInt, vBool, vStr, exI, SW.den, SV.den, Cell.den, densP, Piece.den, denV, rowCells_mgk, iv_list, rv_list, ivZ, rvZ, mgl_agg]) (fun β => by simp [BTm.den, Tm.i, Tm.s, Tm.den, env, vInt, vBool, vStr, exI, SW.den, SV.den, Cell.den, densP, Piece.den, denV, rowCells_mgk, iv_list, rv_list, ivZ, rvZ, mgl_agg]) ?_
      refine ev_nil fun β => ?_
      rw [hV', if_pos h1]; simp [BTm.den, Tm.i, Tm.s, Tm.den, env, vInt, vBool, vStr, exI, SW.den, SV.den, Cell.den, densP, Piece.den, denV, rowCells_mgk, iv_list, rv_list, ivZ, rvZ, mgl_agg]
    · have h1 : v1 = false := by simpa [BTm.den, Tm.i, Tm.s, Tm.den, env, vInt, vBool, vStr, exI] using h
      rw [hV', h1, if_neg (by simp), errV, ← zero_rat]; simp [BTm.den, Tm.i, Tm.s, Tm.den, env, vInt, vBool, vStr, exI, SW.den, SV.den, Cell.den, densP, Piece.den, denV, denT]
  have h1 := pure_of plain [.bool s, .agg (mgk 32 n), .bool t, .agg (mgk 32 m)] tpAbs_ok (by kernel_rfl) _ main1
  have h2 := pure_of plain [.bool s, .agg (mgk 32 n), .bool t, .agg (mgk 32 m)] tdAbs_ok (by kernel_rfl) _ main2
  refine ⟨gives_pure ?_, gives_pure ?_⟩
  · simpa [ratR, BTm.den, Tm.i, Tm.s, Tm.den, env, vInt, vBool, vStr, exI, SW.den, SV.den, Cell.den, densP, Piece.den, denV, denT, rowCells_mgk, rv_list] using h1
  · simpa [ratR, BTm.den, Tm.i, Tm.s, Tm.den, env, vInt, vBool, vStr, exI, SW.den, SV.den, Cell.den, densP, Piece.den, denV, denT, rowCells_mgk, rv_list] using h2
theorem sign_p (s t : Bool) (n m : Nat) (hn : n < pw 32) (hm : m < pw 32) : Gives Tryz.prog 12 #[.agg (rv s n t m)] (signR s n t m) := by
  have p1 := pValid s t n m hn hm
  have g1 := sign_any s n hn
  obtain ⟨V, hV⟩ : ∃ V, V = signR s n t m := ⟨_, rfl⟩
  have hV' := hV
  unfold signR at hV'
  rw [← hV]
  obtain ⟨v1, hv1⟩ : ∃ b, b = vld s n t m := ⟨_, rfl⟩
  obtain ⟨c, hc⟩ : ∃ b, b = sgn (vz s n) := ⟨_, rfl⟩
  rw [← hv1] at p1 hV'
  rw [← hc] at g1 hV'
  have main1 : tpSign.den Tryz.prog (fun ρ' ret => ∀ β, ret.val.den (env ρ') β = V) [.bool s, .agg (mgk 32 n), .bool t, .agg (mgk 32 m)] := by
    refine tree_ite ?_
    refine ev_call [.bool v1] rfl rfl (pure_gives (p1)) (fun β => by simp [BTm.den, Tm.i, Tm.s, Tm.den, env, vInt, vBool, vStr, exI, SW.den, SV.den, Cell.den, densP, Piece.den, denV, rowCells_mgk, iv_list, rv_list, ivZ, rvZ, mgl_agg]) (fun β => by simp [BTm.den, Tm.i, Tm.s, Tm.den, env, vInt, vBool, vStr, exI, SW.den, SV.den, Cell.den, densP, Piece.den, denV, rowCells_mgk, iv_list, rv_list, ivZ, rvZ, mgl_agg]) ?_
    refine ev_nil ⟨fun h => tree_leaf ?_, fun h => tree_leaf (ev_nil fun β => ?_)⟩
    · have h1 : v1 = true := by simpa [BTm.den, Tm.i, Tm.s, Tm.den, env, vInt, vBool, vStr, exI] using h
      refine ev_call [.int .i64 c] rfl rfl (pure_gives (g1)) (fun β => by simp [BTm.den, Tm.i, Tm.s, Tm.den, env, vInt, vBool, vStr, exI, SW.den, SV.den, Cell.den, densP, Piece.den, denV, rowCells_mgk, iv_list, rv_list, ivZ, rvZ, mgl_agg]) (fun β => by simp [BTm.den, Tm.i, Tm.s, Tm.den, env, vInt, vBool, vStr, exI, SW.den, SV.den, Cell.den, densP, Piece.den, denV, rowCells_mgk, iv_list, rv_list, ivZ, rvZ, mgl_agg]) ?_
      refine ev_nil fun β => ?_
      rw [hV', if_pos h1]; simp [BTm.den, Tm.i, Tm.s, Tm.den, env, vInt, vBool, vStr, exI, SW.den, SV.den, Cell.den, densP, Piece.den, denV, rowCells_mgk, iv_list, rv_list, ivZ, rvZ, mgl_agg]
    · have h1 : v1 = false := by simpa [BTm.den, Tm.i, Tm.s, Tm.den, env, vInt, vBool, vStr, exI] using h
      rw [hV', h1, if_neg (by simp), cmpE]; simp [BTm.den, Tm.i, Tm.s, Tm.den, env, vInt, vBool, vStr, exI, SW.den, SV.den, Cell.den, densP, Piece.den, denV, denT]
  have h1 := pure_of plain [.bool s, .agg (mgk 32 n), .bool t, .agg (mgk 32 m)] tpSign_ok (by kernel_rfl) _ main1
  refine gives_pure ?_
  simpa [ratR, BTm.den, Tm.i, Tm.s, Tm.den, env, vInt, vBool, vStr, exI, SW.den, SV.den, Cell.den, densP, Piece.den, denV, denT, rowCells_mgk, rv_list] using h1
set_option maxHeartbeats 2000000 in
theorem floor_rat (s t : Bool) (n m : Nat) (hn : n < pw 32) (hm : m < pw 32) :
    Gives Tryz.prog 13 #[.agg (rv s n t m)] (floorR s n t m) ∧ Gives Tryz.prog 14 #[.agg (rv s n t m)] (floorR s n t m) := by
  have p1 := pValid s t n m hn hm
  have d1 := dValid s t n m hn hm
  have g12 : vld s n t m = true → Gives Tryz.prog 43 #[.agg (iv s n), .agg (iv t m)] (.agg (ivZ (vz s n / vz t m))) ∧ Gives Tryz.prog 44 #[.agg (iv s n), .agg (iv t m)] (divR (vz s n) (vz t m)) := fun h => by
    obtain ⟨-, -, h0, -⟩ := vld_parts h
    exact ⟨over_any s t n m hn hm (Nat.pos_of_ne_zero h0), rdivMod_any s t n m hn hm (Nat.pos_of_ne_zero h0)⟩
  unfold divR at g12
  obtain ⟨V, hV⟩ : ∃ V, V = floorR s n t m := ⟨_, rfl⟩
  have hV' := hV
  unfold floorR at hV'
  rw [← hV]
  obtain ⟨v1, hv1⟩ : ∃ b, b = vld s n t m := ⟨_, rfl⟩
  obtain ⟨q, hq⟩ : ∃ b, b = vz s n / vz t m := ⟨_, rfl⟩
  obtain ⟨r, hr⟩ : ∃ b, b = vz s n % vz t m := ⟨_, rfl⟩
  rw [← hv1] at p1 d1 hV' g12
  rw [← hq] at g12 hV'
  rw [← hr] at g12
  have main1 : tpFloor.den Tryz.prog (fun ρ' ret => ∀ β, ret.val.den (env ρ') β = V) [.bool s, .agg (mgk 32 n), .bool t, .agg (mgk 32 m)] := by
    refine tree_ite ?_
    refine ev_call [.bool v1] rfl rfl (pure_gives (p1)) (fun β => by simp [BTm.den, Tm.i, Tm.s, Tm.den, env, vInt, vBool, vStr, exI, SW.den, SV.den, Cell.den, densP, Piece.den, denV, rowCells_mgk, iv_list, rv_list, ivZ, rvZ, mgl_agg]) (fun β => by simp [BTm.den, Tm.i, Tm.s, Tm.den, env, vInt, vBool, vStr, exI, SW.den, SV.den, Cell.den, densP, Piece.den, denV, rowCells_mgk, iv_list, rv_list, ivZ, rvZ, mgl_agg]) ?_
    refine ev_nil ⟨fun h => tree_leaf ?_, fun h => tree_leaf (ev_nil fun β => ?_)⟩
    · have h1 : v1 = true := by simpa [BTm.den, Tm.i, Tm.s, Tm.den, env, vInt, vBool, vStr, exI] using h
      refine ev_call [.bool (decide (q < 0)), .agg (mgk 32 (q : Int).natAbs)] rfl rfl (pure_gives ((g12 h1).1)) (fun β => by simp [BTm.den, Tm.i, Tm.s, Tm.den, env, vInt, vBool, vStr, exI, SW.den, SV.den, Cell.den, densP, Piece.den, denV, rowCells_mgk, iv_list, rv_list, ivZ, rvZ, mgl_agg]) (fun β => by simp [BTm.den, Tm.i, Tm.s, Tm.den, env, vInt, vBool, vStr, exI, SW.den, SV.den, Cell.den, densP, Piece.den, denV, rowCells_mgk, iv_list, rv_list, ivZ, rvZ, mgl_agg]) ?_
      refine ev_nil fun β => ?_
      rw [hV', if_pos h1]; simp [BTm.den, Tm.i, Tm.s, Tm.den, env, vInt, vBool, vStr, exI, SW.den, SV.den, Cell.den, densP, Piece.den, denV, rowCells_mgk, iv_list, rv_list, ivZ, rvZ, mgl_agg]
    · have h1 : v1 = false := by simpa [BTm.den, Tm.i, Tm.s, Tm.den, env, vInt, vBool, vStr, exI] using h
      rw [hV', h1, if_neg (by simp), floorE, ← zero_num]; simp [BTm.den, Tm.i, Tm.s, Tm.den, env, vInt, vBool, vStr, exI, SW.den, SV.den, Cell.den, densP, Piece.den, denV, denT]
  have main2 : tdFloor.den Tryz.prog (fun ρ' ret => ∀ β, ret.val.den (env ρ') β = V) [.bool s, .agg (mgk 32 n), .bool t, .agg (mgk 32 m)] := by
    refine tree_ite ?_
    refine ev_call [.bool v1] rfl rfl (pure_gives (d1)) (fun β => by simp [BTm.den, Tm.i, Tm.s, Tm.den, env, vInt, vBool, vStr, exI, SW.den, SV.den, Cell.den, densP, Piece.den, denV, rowCells_mgk, iv_list, rv_list, ivZ, rvZ, mgl_agg]) (fun β => by simp [BTm.den, Tm.i, Tm.s, Tm.den, env, vInt, vBool, vStr, exI, SW.den, SV.den, Cell.den, densP, Piece.den, denV, rowCells_mgk, iv_list, rv_list, ivZ, rvZ, mgl_agg]) ?_
    refine ev_nil ⟨fun h => tree_leaf ?_, fun h => tree_leaf (ev_nil fun β => ?_)⟩
    · have h1 : v1 = true := by simpa [BTm.den, Tm.i, Tm.s, Tm.den, env, vInt, vBool, vStr, exI] using h
      refine ev_call [.bool (decide (q < 0)), .agg (mgk 32 (q : Int).natAbs), .bool (decide (r < 0)), .agg (mgk 32 (r : Int).natAbs), .int .i64 0] rfl rfl (pure_gives ((g12 h1).2)) (fun β => by simp [BTm.den, Tm.i, Tm.s, Tm.den, env, vInt, vBool, vStr, exI, SW.den, SV.den, Cell.den, densP, Piece.den, denV, rowCells_mgk, iv_list, rv_list, ivZ, rvZ, mgl_agg]) (fun β => by simp [BTm.den, Tm.i, Tm.s, Tm.den, env, vInt, vBool, vStr, exI, SW.den, SV.den, Cell.den, densP, Piece.den, denV, rowCells_mgk, iv_list, rv_list, ivZ, rvZ, mgl_agg]) ?_
      refine ev_nil fun β => ?_
      rw [hV', if_pos h1]; simp [BTm.den, Tm.i, Tm.s, Tm.den, env, vInt, vBool, vStr, exI, SW.den, SV.den, Cell.den, densP, Piece.den, denV, rowCells_mgk, iv_list, rv_list, ivZ, rvZ, mgl_agg]
    · have h1 : v1 = false := by simpa [BTm.den, Tm.i, Tm.s, Tm.den, env, vInt, vBool, vStr, exI] using h
      rw [hV', h1, if_neg (by simp), floorE, ← zero_num]; simp [BTm.den, Tm.i, Tm.s, Tm.den, env, vInt, vBool, vStr, exI, SW.den, SV.den, Cell.den, densP, Piece.den, denV, denT]
  have h1 := pure_of plain [.bool s, .agg (mgk 32 n), .bool t, .agg (mgk 32 m)] tpFloor_ok (by kernel_rfl) _ main1
  have h2 := pure_of plain [.bool s, .agg (mgk 32 n), .bool t, .agg (mgk 32 m)] tdFloor_ok (by kernel_rfl) _ main2
  refine ⟨gives_pure ?_, gives_pure ?_⟩
  · simpa [ratR, BTm.den, Tm.i, Tm.s, Tm.den, env, vInt, vBool, vStr, exI, SW.den, SV.den, Cell.den, densP, Piece.den, denV, denT, rowCells_mgk, rv_list] using h1
  · simpa [ratR, BTm.den, Tm.i, Tm.s, Tm.den, env, vInt, vBool, vStr, exI, SW.den, SV.den, Cell.den, densP, Piece.den, denV, denT, rowCells_mgk, rv_list] using h2
theorem small_lt (x : Int) (h : -9223372036854775808 ≤ x ∧ x ≤ 9223372036854775807) : x.natAbs < pw 32 := by
  have := pw_le (show 2 ≤ 32 by omega)
  rw [show pw 2 = 18446744073709551616 by decide] at this
  omega
theorem whole_p (z : Int) (h : -9223372036854775808 ≤ z ∧ z ≤ 9223372036854775807) : Gives Tryz.prog 47 #[.int .i64 z] (.agg (rvZ z 1)) := by
  have g1 := fromInt_any z h
  have o1 := fromInt_any 1 (by omega)
  have main1 : tpWhole.den Tryz.prog (fun ρ' ret => ∀ β, ret.val.den (env ρ') β = .agg (rvZ z 1)) [.int .i64 z] := by
    refine tree_leaf ?_
    refine ev_call [.bool (decide (z < 0)), .agg (mgk 32 (z : Int).natAbs)] rfl rfl (pure_gives (g1)) (fun β => by simp [BTm.den, Tm.i, Tm.s, Tm.den, env, vInt, vBool, vStr, exI, SW.den, SV.den, Cell.den, densP, Piece.den, denV, rowCells_mgk, iv_list, rv_list, ivZ, rvZ, mgl_agg]) (fun β => by simp [BTm.den, Tm.i, Tm.s, Tm.den, env, vInt, vBool, vStr, exI, SW.den, SV.den, Cell.den, densP, Piece.den, denV, rowCells_mgk, iv_list, rv_list, ivZ, rvZ, mgl_agg]) ?_
    refine ev_call [.bool (decide (1 < 0)), .agg (mgk 32 (1 : Int).natAbs)] rfl rfl (pure_gives o1) (fun β => by simp [BTm.den, Tm.i, Tm.s, Tm.den, env, vInt, vBool, vStr, exI, SW.den, SV.den, Cell.den, densP, Piece.den, denV, denT]) (fun β => by simp [BTm.den, Tm.i, Tm.s, Tm.den, env, vInt, vBool, vStr, exI, SW.den, SV.den, Cell.den, densP, Piece.den, denV, denT, rowCells_mgk, iv_list, ivZ]) ?_
    refine ev_nil fun β => ?_
    simp [BTm.den, Tm.i, Tm.s, Tm.den, env, vInt, vBool, vStr, exI, SW.den, SV.den, Cell.den, densP, Piece.den, denV, rowCells_mgk, iv_list, rv_list, ivZ, rvZ, mgl_agg]
  have h1 := pure_of plain [.int .i64 z] tpWhole_ok (by kernel_rfl) _ main1
  refine gives_pure ?_
  simpa [intW, BTm.den, Tm.i, Tm.s, Tm.den, env, vInt, vBool, vStr, exI, SW.den, SV.den, Cell.den, densP, Piece.den, denV, denT] using h1
theorem of_rat (n d : Int) (hn : -9223372036854775808 ≤ n ∧ n ≤ 9223372036854775807) (hd : -9223372036854775808 ≤ d ∧ d ≤ 9223372036854775807) :
    Gives Tryz.prog 46 #[.int .i64 n, .int .i64 d] (mkZ n d) ∧ Gives Tryz.prog 53 #[.int .i64 n, .int .i64 d] (mkZ n d) := by
  have n1 := fromInt_any n hn
  have n2 := rfromInt_any n hn
  have d1 := fromInt_any d hd
  have d2 := rfromInt_any d hd
  obtain ⟨m1, m2⟩ := make_Z n d (small_lt n hn) (small_lt d hd)
  obtain ⟨V, hV⟩ : ∃ V, V = mkZ n d := ⟨_, rfl⟩
  obtain ⟨a, b, e, h⟩ := mkZ_form n d
  rw [← hV] at m1 m2 h ⊢
  rw [h] at m1 m2
  have main1 : tpOf.den Tryz.prog (fun ρ' ret => ∀ β, ret.val.den (env ρ') β = V) [.int .i64 n, .int .i64 d] := by
    refine tree_leaf ?_
    refine ev_call [.bool (decide (n < 0)), .agg (mgk 32 (n : Int).natAbs)] rfl rfl (pure_gives (n1)) (fun β => by simp [BTm.den, Tm.i, Tm.s, Tm.den, env, vInt, vBool, vStr, exI, SW.den, SV.den, Cell.den, densP, Piece.den, denV, rowCells_mgk, iv_list, rv_list, ivZ, rvZ, mgl_agg]) (fun β => by simp [BTm.den, Tm.i, Tm.s, Tm.den, env, vInt, vBool, vStr, exI, SW.den, SV.den, Cell.den, densP, Piece.den, denV, rowCells_mgk, iv_list, rv_list, ivZ, rvZ, mgl_agg]) ?_
    refine ev_call [.bool (decide (d < 0)), .agg (mgk 32 (d : Int).natAbs)] rfl rfl (pure_gives (d1)) (fun β => by simp [BTm.den, Tm.i, Tm.s, Tm.den, env, vInt, vBool, vStr, exI, SW.den, SV.den, Cell.den, densP, Piece.den, denV, rowCells_mgk, iv_list, rv_list, ivZ, rvZ, mgl_agg]) (fun β => by simp [BTm.den, Tm.i, Tm.s, Tm.den, env, vInt, vBool, vStr, exI, SW.den, SV.den, Cell.den, densP, Piece.den, denV, rowCells_mgk, iv_list, rv_list, ivZ, rvZ, mgl_agg]) ?_
    refine ev_call [.bool (decide (a < 0)), .agg (mgk 32 (a : Int).natAbs), .bool (decide (b < 0)), .agg (mgk 32 (b : Int).natAbs), .int .i64 e] rfl rfl (pure_gives (m1)) (fun β => by simp [BTm.den, Tm.i, Tm.s, Tm.den, env, vInt, vBool, vStr, exI, SW.den, SV.den, Cell.den, densP, Piece.den, denV, rowCells_mgk, iv_list, rv_list, ivZ, rvZ, mgl_agg]) (fun β => by simp [BTm.den, Tm.i, Tm.s, Tm.den, env, vInt, vBool, vStr, exI, SW.den, SV.den, Cell.den, densP, Piece.den, denV, rowCells_mgk, iv_list, rv_list, ivZ, rvZ, mgl_agg]) ?_
    refine ev_nil fun β => ?_
    rw [h]; simp [BTm.den, Tm.i, Tm.s, Tm.den, env, vInt, vBool, vStr, exI, SW.den, SV.den, Cell.den, densP, Piece.den, denV, rowCells_mgk, iv_list, rv_list, ivZ, rvZ, mgl_agg]
  have main2 : tdOf.den Tryz.prog (fun ρ' ret => ∀ β, ret.val.den (env ρ') β = V) [.int .i64 n, .int .i64 d] := by
    refine tree_leaf ?_
    refine ev_call [.bool (decide (n < 0)), .agg (mgk 32 (n : Int).natAbs)] rfl rfl (pure_gives (n2)) (fun β => by simp [BTm.den, Tm.i, Tm.s, Tm.den, env, vInt, vBool, vStr, exI, SW.den, SV.den, Cell.den, densP, Piece.den, denV, rowCells_mgk, iv_list, rv_list, ivZ, rvZ, mgl_agg]) (fun β => by simp [BTm.den, Tm.i, Tm.s, Tm.den, env, vInt, vBool, vStr, exI, SW.den, SV.den, Cell.den, densP, Piece.den, denV, rowCells_mgk, iv_list, rv_list, ivZ, rvZ, mgl_agg]) ?_
    refine ev_call [.bool (decide (d < 0)), .agg (mgk 32 (d : Int).natAbs)] rfl rfl (pure_gives (d2)) (fun β => by simp [BTm.den, Tm.i, Tm.s, Tm.den, env, vInt, vBool, vStr, exI, SW.den, SV.den, Cell.den, densP, Piece.den, denV, rowCells_mgk, iv_list, rv_list, ivZ, rvZ, mgl_agg]) (fun β => by simp [BTm.den, Tm.i, Tm.s, Tm.den, env, vInt, vBool, vStr, exI, SW.den, SV.den, Cell.den, densP, Piece.den, denV, rowCells_mgk, iv_list, rv_list, ivZ, rvZ, mgl_agg]) ?_
    refine ev_call [.bool (decide (a < 0)), .agg (mgk 32 (a : Int).natAbs), .bool (decide (b < 0)), .agg (mgk 32 (b : Int).natAbs), .int .i64 e] rfl rfl (pure_gives (m2)) (fun β => by simp [BTm.den, Tm.i, Tm.s, Tm.den, env, vInt, vBool, vStr, exI, SW.den, SV.den, Cell.den, densP, Piece.den, denV, rowCells_mgk, iv_list, rv_list, ivZ, rvZ, mgl_agg]) (fun β => by simp [BTm.den, Tm.i, Tm.s, Tm.den, env, vInt, vBool, vStr, exI, SW.den, SV.den, Cell.den, densP, Piece.den, denV, rowCells_mgk, iv_list, rv_list, ivZ, rvZ, mgl_agg]) ?_
    refine ev_nil fun β => ?_
    rw [h]; simp [BTm.den, Tm.i, Tm.s, Tm.den, env, vInt, vBool, vStr, exI, SW.den, SV.den, Cell.den, densP, Piece.den, denV, rowCells_mgk, iv_list, rv_list, ivZ, rvZ, mgl_agg]
  have h1 := pure_of plain [.int .i64 n, .int .i64 d] tpOf_ok (by kernel_rfl) _ main1
  have h2 := pure_of plain [.int .i64 n, .int .i64 d] tdOf_ok (by kernel_rfl) _ main2
  refine ⟨gives_pure ?_, gives_pure ?_⟩
  · simpa [intW, BTm.den, Tm.i, Tm.s, Tm.den, env, vInt, vBool, vStr, exI, SW.den, SV.den, Cell.den, densP, Piece.den, denV, denT] using h1
  · simpa [intW, BTm.den, Tm.i, Tm.s, Tm.den, env, vInt, vBool, vStr, exI, SW.den, SV.den, Cell.den, densP, Piece.den, denV, denT] using h2
end Go.Proofs.YtfdlgeomaballaaGreat
end
section
/- '==' of ratios. -/
namespace Go.Proofs.YtfdlgeomaballaaGreat
open Go.RowKit Go.Proofs.YtfdlgeomaballaaGreat.Sx
set_option linter.unusedSimpArgs false
set_option linter.unusedVariables false

theorem rv_x0 (s t : Bool) (n m : Nat) : (rv s n t m).extract 0 (0 + 33) = iv s n := by
  apply Array.toList_inj.1
  have := rv_left s t n m
  rw [List.drop_zero] at this
  rw [Array.toList_extract, ← this]
  try simp
theorem rv_x1 (s t : Bool) (n m : Nat) : (rv s n t m).extract 33 (33 + 33) = iv t m := by
  apply Array.toList_inj.1
  have := rv_right s t n m
  rw [Array.toList_extract, ← this]
  try simp
theorem size29' : (Tryz.prog.info? 29).map (·.size) = some 33 := by kernel_rfl
theorem stoodRat : Tryz.prog.stoodInHeld 31 = false := by kernel_rfl
/-- Two ratios are equal in all cells. -/
theorem same_rv (s t s' t' : Bool) (n m n' m' : Nat) (hn : n < pw 32) (hm : m < pw 32) (hn' : n' < pw 32) (hm' : m' < pw 32) :
    SameFact Tryz.prog 31 (.agg (rv s n t m)) (.agg (rv s' n' t' m')) (decide ((s = s' ∧ n = n') ∧ (t = t' ∧ m = m'))) := fun w => by
  show (Op.equalIn (9999 + 1) 31 (.agg (rv s n t m)) (.agg (rv s' n' t' m'))).run Tryz.prog w = _
  have hu := Tryz.underlying31
  have hfs : Tryz.prog.fieldsOf 31 = #[⟨"Num", 29, 0, false, "", "", 0⟩, ⟨"Den", 29, 33, false, "", "", 132⟩] := by simp [Program.fieldsOf, hu]
  rw [run_equalIn_struct w 9999 31 _ _ (by rw [hfs]; exact hu) stoodRat, hfs]
  have hN : ¬ ("Num" = "_") := by decide
  have hD : ¬ ("Den" = "_") := by decide
  simp only [Op.eqFields, ne_eq, hN, hD, not_false_eq_true, if_true, Sem.run_bind]
  have e0 : ∀ (s t : Bool) (n m : Nat), (part 29 (rv s n t m) 0).run Tryz.prog w = .ok (.agg (iv s n)) w := fun s t n m => by
    rw [run_part_row w 29 _ Tryz.underlying29 rfl 33 size29', rv_x0]
  have e1 : ∀ (s t : Bool) (n m : Nat), (part 29 (rv s n t m) 33).run Tryz.prog w = .ok (.agg (iv t m)) w := fun s t n m => by
    rw [run_part_row w 29 _ Tryz.underlying29 rfl 33 size29', rv_x1]
  have q : ∀ (s s' : Bool) (n n' : Nat), n < pw 32 → n' < pw 32 → (Op.equalIn 9999 29 (.agg (iv s n)) (.agg (iv s' n'))).run Tryz.prog w = .ok (decide (s = s' ∧ n = n')) w := fun s s' n n' h h' =>
    run_equalIn_iv w 9996 29 4 27 26 .u32 _ _ s s' n n' Tryz.underlying29 (by kernel_rfl) (by decide) (by decide) rfl rfl rfl rfl Tryz.underlying4 Tryz.underlying27 size27 size26 Tryz.underlying26 h h'
  rw [show decide ((s = s' ∧ n = n') ∧ (t = t' ∧ m = m')) = (decide (s = s' ∧ n = n') && decide (t = t' ∧ m = m')) from Bool.decide_and _ _]
  have q2 := q t t' m m' hm hm'
  simp only [e0, Result.andThen_ok, q s s' n n' hn hn']
  obtain ⟨b1, hb1⟩ : ∃ b, b = decide (s = s' ∧ n = n') := ⟨_, rfl⟩
  obtain ⟨b2, hb2⟩ : ∃ b, b = decide (t = t' ∧ m = m') := ⟨_, rfl⟩
  rw [← hb1, ← hb2]
  rw [← hb2] at q2
  cases b1
  · simp
  · simp only [Bool.not_true, Bool.false_eq_true, if_false, Bool.true_and, Sem.run_bind, e1, Result.andThen_ok, q2]
    cases b2 <;> simp
/-- Ratios of canonical numbers. -/
theorem same_rZ (a b c d : Int) (ha : a.natAbs < pw 32) (hb : b.natAbs < pw 32) (hc : c.natAbs < pw 32) (hd : d.natAbs < pw 32) :
    SameFact Tryz.prog 31 (.agg (rvZ a b)) (.agg (rvZ c d)) (decide (a = c ∧ b = d)) := by
  have := same_rv (decide (a < 0)) (decide (b < 0)) (decide (c < 0)) (decide (d < 0)) _ _ _ _ ha hb hc hd
  rw [decide_eq_decide.2 (show _ ↔ (a = c ∧ b = d) from and_congr (ivZ_inj (x := a) (y := c)) (ivZ_inj (x := b) (y := d)))] at this
  exact this
theorem same_r1 (s t : Bool) (n m : Nat) (hn : n < pw 32) (hm : m < pw 32) : SameFact Tryz.prog 31 (.agg (rv s n t m)) (.agg (rv s n t m)) true := by
  have := same_rv s t s t n m n m hn hm hn hm
  rwa [decide_eq_true (show (s = s ∧ n = n) ∧ (t = t ∧ m = m) from ⟨⟨rfl, rfl⟩, rfl, rfl⟩)] at this
end Go.Proofs.YtfdlgeomaballaaGreat
end
section
/- The laws over ratios that take no tape. -/
namespace Go.Proofs.YtfdlgeomaballaaGreat
open Go.RowKit Go.Proofs.YtfdlgeomaballaaGreat.Sx
set_option linter.unusedSimpArgs false
set_option linter.unusedVariables false

theorem short480 {n : Nat} (h : bl n ≤ 480) : n < pw 32 := by
  obtain ⟨L, hL, hb⟩ := pw_room
  have h1 := hb n h
  have h2 : L ≤ L * L * 4 := by
    have := Nat.le_mul_self L; omega
  omega
/-- A ratio and an error. -/
def RF (V : Value) : Prop := ∃ (s t : Bool) (n m : Nat) (e : Int), V = .tuple #[.agg (rv s n t m), .int .i64 e] ∧ n < pw 32 ∧ m < pw 32
theorem rf_err (e : Int) : RF (errV e) := ⟨false, false, 0, 0, e, rfl, pw_pos 32, pw_pos 32⟩
theorem rf_mkZ (x y : Int) : RF (mkZ x y) := by
  unfold mkZ mkv
  split
  · exact rf_err 11
  · split
    · rename_i h
      unfold mkF at h
      simp only [Bool.and_eq_true, decide_eq_true_eq] at h
      exact ⟨_, _, _, _, _, rfl, short480 h.1, short480 h.2⟩
    · exact rf_err 10
theorem rf_if {c : Prop} [Decidable c] {a b : Value} (ha : RF a) (hb : RF b) : RF (if c then a else b) := by
  split <;> assumption
theorem rf_add (s t s' t' : Bool) (n m n' m' : Nat) : RF (addR s n t m s' n' t' m') := rf_if (rf_mkZ _ _) (rf_err _)
theorem rf_sub (s t s' t' : Bool) (n m n' m' : Nat) : RF (subR s n t m s' n' t' m') := rf_if (rf_mkZ _ _) (rf_err _)
theorem rf_mul (s t s' t' : Bool) (n m n' m' : Nat) : RF (mulR s n t m s' n' t' m') := rf_if (rf_mkZ _ _) (rf_err _)
theorem rf_quo (s t s' t' : Bool) (n m n' m' : Nat) : RF (quoR s n t m s' n' t' m') := rf_if (rf_mkZ _ _) (rf_err _)
theorem rf_neg (s t : Bool) (n m : Nat) (hn : n < pw 32) (hm : m < pw 32) : RF (negR s n t m) := rf_if ⟨_, _, _, _, _, rfl, hn, hm⟩ (rf_err _)
theorem rf_abs (s t : Bool) (n m : Nat) (hn : n < pw 32) (hm : m < pw 32) : RF (absR s n t m) := rf_if ⟨_, _, _, _, _, rfl, hn, hm⟩ (rf_err _)
theorem two_ints {c : Prop} [Decidable c] (a b x y : Int) : ∃ p q : Int, (if c then Value.tuple #[.int .i64 a, .int .i64 b] else Value.tuple #[.int .i64 x, .int .i64 y]) = .tuple #[.int .i64 p, .int .i64 q] := by
  split <;> exact ⟨_, _, rfl⟩
theorem floor_form (s t : Bool) (n m : Nat) (hn : n < pw 32) (hm : m < pw 32) : ∃ a e : Int, floorR s n t m = .tuple #[.agg (ivZ a), .int .i64 e] ∧ a.natAbs < pw 32 := by
  unfold floorR
  split
  · rename_i h
    obtain ⟨-, ht, h0, h1, -⟩ := vld_parts h
    refine ⟨_, _, rfl, ?_⟩
    subst ht
    obtain ⟨z, hz⟩ : ∃ z : Int, z = vz s n := ⟨_, rfl⟩
    have hza : z.natAbs = n := by rw [hz, vz_abs]
    rw [← hz, show vz false m = (m : Int) from rfl]
    have h2 : (z / (m : Int)).natAbs ≤ z.natAbs := Int.natAbs_ediv_le_natAbs z m
    omega
  · exact ⟨_, _, rfl, pw_pos 32⟩

/-! ### The chapter's examples -/
theorem mkZ_at {x y : Int} (a b : Int) (h0 : y ≠ 0) (h1 : mkN x y (Nat.gcd x.natAbs y.natAbs) = a) (h2 : mkN y y (Nat.gcd x.natAbs y.natAbs) = b) (h3 : mkF a b = true) : mkZ x y = .tuple #[.agg (rvZ a b), .int .i64 0] := by
  unfold mkZ mkv
  rw [if_neg h0, h1, h2, if_pos h3]
theorem zero_rv : (Value.bool false :: (List.replicate 32 (.int .u32 0) ++ Value.bool false :: List.replicate 32 (.int .u32 0))).toArray = rv false 0 false 0 := zero_rat
theorem one_pw : 1 < pw 32 := one_lt
theorem small_pw {n : Nat} (h : n < 4294967296) : n < pw 32 := by
  have := pw_le (show 1 ≤ 32 by omega); rw [pw_one] at this; omega
set_option maxHeartbeats 2000000 in
theorem known_rat : Gives Tryz.prog 16 #[] (.bool true) := by
  have k13 : Gives Tryz.prog 46 #[.int .i64 1, .int .i64 3] (.tuple #[.agg (rv false 1 false 3), .int .i64 0]) := by
    have := (of_rat 1 3 (by omega) (by omega)).1
    rwa [mkZ_at 1 3 (by decide) (by decide +kernel) (by decide +kernel) (by decide +kernel)] at this
  have k16 : Gives Tryz.prog 46 #[.int .i64 1, .int .i64 6] (.tuple #[.agg (rv false 1 false 6), .int .i64 0]) := by
    have := (of_rat 1 6 (by omega) (by omega)).1
    rwa [mkZ_at 1 6 (by decide) (by decide +kernel) (by decide +kernel) (by decide +kernel)] at this
  have k12 : Gives Tryz.prog 46 #[.int .i64 1, .int .i64 2] (.tuple #[.agg (rv false 1 false 2), .int .i64 0]) := by
    have := (of_rat 1 2 (by omega) (by omega)).1
    rwa [mkZ_at 1 2 (by decide) (by decide +kernel) (by decide +kernel) (by decide +kernel)] at this
  have p1 : (1 : Nat) < pw 32 := small_pw (by omega)
  have p2 : (2 : Nat) < pw 32 := small_pw (by omega)
  have p3 : (3 : Nat) < pw 32 := small_pw (by omega)
  have p6 : (6 : Nat) < pw 32 := small_pw (by omega)
  have p0 : (0 : Nat) < pw 32 := pw_pos 32
  have kA : Gives Tryz.prog 25 #[.agg (rv false 1 false 3), .agg (rv false 1 false 6)] (.tuple #[.agg (rv false 1 false 2), .int .i64 0]) := by
    have := (add_rat false false false false 1 3 1 6 p1 p3 p1 p6).1
    unfold addR at this
    rw [if_pos (by decide +kernel), show vz false 1 * vz false 6 + vz false 1 * vz false 3 = 9 from rfl, show vz false 3 * vz false 6 = 18 from rfl,
      mkZ_at 1 2 (by decide) (by decide +kernel) (by decide +kernel) (by decide +kernel)] at this
    exact this
  have kW : Gives Tryz.prog 47 #[.int .i64 0] (.agg (rv false 0 false 1)) := whole_p 0 (by omega)
  have kQ : Gives Tryz.prog 31 #[.agg (rv false 1 false 3), .agg (rv false 0 false 1)] (.tuple #[.agg (rv false 0 false 0), .int .i64 11]) := by
    have := (quo_rat false false false false 1 3 0 1 p1 p3 p0 p1).1
    unfold quoR at this
    rw [if_pos (by decide +kernel), show vz false 3 * vz false 0 = 0 from rfl, mkZ, mkv, if_pos rfl] at this
    exact this
  have kV : Gives Tryz.prog 7 #[.agg (rv false 1 false 2)] (.bool true) := by
    have := pValid false false 1 2 p1 p2
    rwa [show vld false 1 false 2 = true by decide +kernel] at this
  have kZ : Gives Tryz.prog 7 #[.agg (rv false 0 false 0)] (.bool false) := by
    have := pValid false false 0 0 p0 p0
    rwa [show vld false 0 false 0 = false by decide +kernel] at this
  have kS := same_r1 false false 1 2 p1 p2
  obtain ⟨r13, h13⟩ : ∃ r, r = rv false 1 false 3 := ⟨_, rfl⟩
  have main : tRKnown.den Tryz.prog (fun ρ' ret => ∀ β, ret.val.den (env ρ') β = .bool true) [] := by
    refine tree_ite ?_
    refine ev_call [.bool false, .agg (mgk 32 1), .bool false, .agg (mgk 32 3), .int .i64 0] rfl rfl (pure_gives (k13)) (fun β => by simp [BTm.den, Tm.i, Tm.s, Tm.den, env, vInt, vBool, vStr, exI, SW.den, SV.den, Cell.den, densP, Piece.den, denV, rowCells_mgk, iv_list, rv_list, ivZ, rvZ, mgl_agg]) (fun β => by simp [BTm.den, Tm.i, Tm.s, Tm.den, env, vInt, vBool, vStr, exI, SW.den, SV.den, Cell.den, densP, Piece.den, denV, rowCells_mgk, iv_list, rv_list, ivZ, rvZ, mgl_agg]) ?_
    refine ev_call [.bool false, .agg (mgk 32 1), .bool false, .agg (mgk 32 6), .int .i64 0] rfl rfl (pure_gives (k16)) (fun β => by simp [BTm.den, Tm.i, Tm.s, Tm.den, env, vInt, vBool, vStr, exI, SW.den, SV.den, Cell.den, densP, Piece.den, denV, rowCells_mgk, iv_list, rv_list, ivZ, rvZ, mgl_agg]) (fun β => by simp [BTm.den, Tm.i, Tm.s, Tm.den, env, vInt, vBool, vStr, exI, SW.den, SV.den, Cell.den, densP, Piece.den, denV, rowCells_mgk, iv_list, rv_list, ivZ, rvZ, mgl_agg]) ?_
    refine ev_call [.bool false, .agg (mgk 32 1), .bool false, .agg (mgk 32 2), .int .i64 0] rfl rfl (pure_gives (k12)) (fun β => by simp [BTm.den, Tm.i, Tm.s, Tm.den, env, vInt, vBool, vStr, exI, SW.den, SV.den, Cell.den, densP, Piece.den, denV, rowCells_mgk, iv_list, rv_list, ivZ, rvZ, mgl_agg]) (fun β => by simp [BTm.den, Tm.i, Tm.s, Tm.den, env, vInt, vBool, vStr, exI, SW.den, SV.den, Cell.den, densP, Piece.den, denV, rowCells_mgk, iv_list, rv_list, ivZ, rvZ, mgl_agg]) ?_
    refine ev_call [.bool false, .agg (mgk 32 1), .bool false, .agg (mgk 32 2), .int .i64 0] rfl rfl (pure_gives (kA)) (fun β => by simp [BTm.den, Tm.i, Tm.s, Tm.den, env, vInt, vBool, vStr, exI, SW.den, SV.den, Cell.den, densP, Piece.den, denV, rowCells_mgk, iv_list, rv_list, ivZ, rvZ, mgl_agg]) (fun β => by simp [BTm.den, Tm.i, Tm.s, Tm.den, env, vInt, vBool, vStr, exI, SW.den, SV.den, Cell.den, densP, Piece.den, denV, rowCells_mgk, iv_list, rv_list, ivZ, rvZ, mgl_agg]) ?_
    refine ev_call [.bool false, .agg (mgk 32 0), .bool false, .agg (mgk 32 1)] rfl rfl (pure_gives (kW)) (fun β => by simp [BTm.den, Tm.i, Tm.s, Tm.den, env, vInt, vBool, vStr, exI, SW.den, SV.den, Cell.den, densP, Piece.den, denV, rowCells_mgk, iv_list, rv_list, ivZ, rvZ, mgl_agg]) (fun β => by simp [BTm.den, Tm.i, Tm.s, Tm.den, env, vInt, vBool, vStr, exI, SW.den, SV.den, Cell.den, densP, Piece.den, denV, rowCells_mgk, iv_list, rv_list, ivZ, rvZ, mgl_agg]) ?_
    refine ev_call [.bool false, .agg (mgk 32 0), .bool false, .agg (mgk 32 0), .int .i64 11] rfl rfl (pure_gives (kQ)) (fun β => by simp [BTm.den, Tm.i, Tm.s, Tm.den, env, vInt, vBool, vStr, exI, SW.den, SV.den, Cell.den, densP, Piece.den, denV, rowCells_mgk, iv_list, rv_list, ivZ, rvZ, mgl_agg]) (fun β => by simp [BTm.den, Tm.i, Tm.s, Tm.den, env, vInt, vBool, vStr, exI, SW.den, SV.den, Cell.den, densP, Piece.den, denV, rowCells_mgk, iv_list, rv_list, ivZ, rvZ, mgl_agg]) ?_
    refine ev_nil (way_true (by simp [BTm.den, Tm.i, Tm.s, Tm.den, env, vInt, vBool, vStr, exI]) (tree_ite ?_))
    refine ev_same (true) rfl (fun β => by simp [BTm.den, Tm.i, Tm.s, Tm.den, env, vInt, vBool, vStr, exI, SW.den, SV.den, Cell.den, densP, Piece.den, denV, rowCells_mgk, iv_list, rv_list, ivZ, rvZ, mgl_agg]) (fun β => by simp [BTm.den, Tm.i, Tm.s, Tm.den, env, vInt, vBool, vStr, exI, SW.den, SV.den, Cell.den, densP, Piece.den, denV, rowCells_mgk, iv_list, rv_list, ivZ, rvZ, mgl_agg]) (kS) ?_
    refine ev_nil (way_true (by simp [BTm.den, Tm.i, Tm.s, Tm.den, env, vInt, vBool, vStr, exI]) (tree_ite ?_))
    refine ev_nil (way_true (by simp [BTm.den, Tm.i, Tm.s, Tm.den, env, vInt, vBool, vStr, exI]) (tree_ite ?_))
    refine ev_call [.bool true] rfl rfl (pure_gives (kV)) (fun β => by simp [BTm.den, Tm.i, Tm.s, Tm.den, env, vInt, vBool, vStr, exI, SW.den, SV.den, Cell.den, densP, Piece.den, denV, rowCells_mgk, iv_list, rv_list, ivZ, rvZ, mgl_agg]) (fun β => by simp [BTm.den, Tm.i, Tm.s, Tm.den, env, vInt, vBool, vStr, exI, SW.den, SV.den, Cell.den, densP, Piece.den, denV, rowCells_mgk, iv_list, rv_list, ivZ, rvZ, mgl_agg]) ?_
    refine ev_nil (way_true (by simp [BTm.den, Tm.i, Tm.s, Tm.den, env, vInt, vBool, vStr, exI]) (tree_leaf ?_))
    refine ev_call [.bool false] rfl rfl (pure_gives kZ) (fun β => by simp [BTm.den, Tm.i, Tm.s, Tm.den, env, vInt, vBool, vStr, exI, SW.den, SV.den, Cell.den, densP, Piece.den, denV, denT]; exact zero_rv) (fun β => by simp [BTm.den, Tm.i, Tm.s, Tm.den, env, vInt, vBool, vStr, exI, SW.den, SV.den, Cell.den, densP, Piece.den, denV, denT]) ?_
    refine ev_nil fun β => ?_
    simp [BTm.den, Tm.i, Tm.s, Tm.den, env, vInt, vBool, vStr, exI, SW.den, SV.den, Cell.den, densP, Piece.den, denV, rowCells_mgk, iv_list, rv_list, ivZ, rvZ, mgl_agg]
  exact gives_pure (pure_of plain [] tRKnown_ok (by kernel_rfl) _ main)

/-! ### The laws -/
set_option maxHeartbeats 4000000 in
theorem rexact_any (s0 t0 s1 t1 : Bool) (n0 m0 n1 m1 : Nat) (hn0 : n0 < pw 32) (hm0 : m0 < pw 32) (hn1 : n1 < pw 32) (hm1 : m1 < pw 32) :
    Gives Tryz.prog 6 #[.agg (rv s0 n0 t0 m0), .agg (rv s1 n1 t1 m1)] (.bool true) := by
  obtain ⟨sa, ta, na, ma, ea, hfa, ba1, ba2⟩ := rf_add s0 t0 s1 t1 n0 m0 n1 m1
  obtain ⟨sb, tb, nb, mb, eb, hfb, bb1, bb2⟩ := rf_sub s0 t0 s1 t1 n0 m0 n1 m1
  obtain ⟨sc, tc, nc, mc, ec, hfc, bc1, bc2⟩ := rf_mul s0 t0 s1 t1 n0 m0 n1 m1
  obtain ⟨sd, td, nd, md, ed, hfd, bd1, bd2⟩ := rf_quo s0 t0 s1 t1 n0 m0 n1 m1
  obtain ⟨c, f, hcf⟩ : ∃ c f : Int, cmpR s0 n0 t0 m0 s1 n1 t1 m1 = .tuple #[.int .i64 c, .int .i64 f] := two_ints _ _ _ _
  obtain ⟨a1, a2⟩ := add_rat s0 t0 s1 t1 n0 m0 n1 m1 hn0 hm0 hn1 hm1
  obtain ⟨b1, b2⟩ := sub_rat s0 t0 s1 t1 n0 m0 n1 m1 hn0 hm0 hn1 hm1
  obtain ⟨c1, c2⟩ := mul_rat s0 t0 s1 t1 n0 m0 n1 m1 hn0 hm0 hn1 hm1
  obtain ⟨d1, d2⟩ := quo_rat s0 t0 s1 t1 n0 m0 n1 m1 hn0 hm0 hn1 hm1
  obtain ⟨e1, e2⟩ := cmp_rat s0 t0 s1 t1 n0 m0 n1 m1 hn0 hm0 hn1 hm1
  rw [hfa] at a1 a2
  rw [hfb] at b1 b2
  rw [hfc] at c1 c2
  rw [hfd] at d1 d2
  rw [hcf] at e1 e2
  have p1 := pValid s0 t0 n0 m0 hn0 hm0
  have p2 := dValid s0 t0 n0 m0 hn0 hm0
  have q1 := pValid s1 t1 n1 m1 hn1 hm1
  have q2 := dValid s1 t1 n1 m1 hn1 hm1
  obtain ⟨v1, hv1⟩ : ∃ b, b = vld s0 n0 t0 m0 := ⟨_, rfl⟩
  obtain ⟨v2, hv2⟩ : ∃ b, b = vld s1 n1 t1 m1 := ⟨_, rfl⟩
  rw [← hv1] at p1 p2
  rw [← hv2] at q1 q2
  have kk := known_rat
  have main : tRExact.den Tryz.prog (fun ρ' ret => ∀ β, ret.val.den (env ρ') β = .bool true) [.bool s0, .agg (mgk 32 n0), .bool t0, .agg (mgk 32 m0), .bool s1, .agg (mgk 32 n1), .bool t1, .agg (mgk 32 m1)] := by
    refine tree_ite ?_
    refine ev_call [.bool sa, .agg (mgk 32 na), .bool ta, .agg (mgk 32 ma), .int .i64 ea] rfl rfl (pure_gives (a1)) (fun β => by simp [BTm.den, Tm.i, Tm.s, Tm.den, env, vInt, vBool, vStr, exI, SW.den, SV.den, Cell.den, densP, Piece.den, denV, rowCells_mgk, iv_list, rv_list, ivZ, rvZ, mgl_agg]) (fun β => by simp [BTm.den, Tm.i, Tm.s, Tm.den, env, vInt, vBool, vStr, exI, SW.den, SV.den, Cell.den, densP, Piece.den, denV, rowCells_mgk, iv_list, rv_list, ivZ, rvZ, mgl_agg]) ?_
    refine ev_call [.bool sa, .agg (mgk 32 na), .bool ta, .agg (mgk 32 ma), .int .i64 ea] rfl rfl (pure_gives (a2)) (fun β => by simp [BTm.den, Tm.i, Tm.s, Tm.den, env, vInt, vBool, vStr, exI, SW.den, SV.den, Cell.den, densP, Piece.den, denV, rowCells_mgk, iv_list, rv_list, ivZ, rvZ, mgl_agg]) (fun β => by simp [BTm.den, Tm.i, Tm.s, Tm.den, env, vInt, vBool, vStr, exI, SW.den, SV.den, Cell.den, densP, Piece.den, denV, rowCells_mgk, iv_list, rv_list, ivZ, rvZ, mgl_agg]) ?_
    refine ev_call [.bool sb, .agg (mgk 32 nb), .bool tb, .agg (mgk 32 mb), .int .i64 eb] rfl rfl (pure_gives (b1)) (fun β => by simp [BTm.den, Tm.i, Tm.s, Tm.den, env, vInt, vBool, vStr, exI, SW.den, SV.den, Cell.den, densP, Piece.den, denV, rowCells_mgk, iv_list, rv_list, ivZ, rvZ, mgl_agg]) (fun β => by simp [BTm.den, Tm.i, Tm.s, Tm.den, env, vInt, vBool, vStr, exI, SW.den, SV.den, Cell.den, densP, Piece.den, denV, rowCells_mgk, iv_list, rv_list, ivZ, rvZ, mgl_agg]) ?_
    refine ev_call [.bool sb, .agg (mgk 32 nb), .bool tb, .agg (mgk 32 mb), .int .i64 eb] rfl rfl (pure_gives (b2)) (fun β => by simp [BTm.den, Tm.i, Tm.s, Tm.den, env, vInt, vBool, vStr, exI, SW.den, SV.den, Cell.den, densP, Piece.den, denV, rowCells_mgk, iv_list, rv_list, ivZ, rvZ, mgl_agg]) (fun β => by simp [BTm.den, Tm.i, Tm.s, Tm.den, env, vInt, vBool, vStr, exI, SW.den, SV.den, Cell.den, densP, Piece.den, denV, rowCells_mgk, iv_list, rv_list, ivZ, rvZ, mgl_agg]) ?_
    refine ev_call [.bool sc, .agg (mgk 32 nc), .bool tc, .agg (mgk 32 mc), .int .i64 ec] rfl rfl (pure_gives (c1)) (fun β => by simp [BTm.den, Tm.i, Tm.s, Tm.den, env, vInt, vBool, vStr, exI, SW.den, SV.den, Cell.den, densP, Piece.den, denV, rowCells_mgk, iv_list, rv_list, ivZ, rvZ, mgl_agg]) (fun β => by simp [BTm.den, Tm.i, Tm.s, Tm.den, env, vInt, vBool, vStr, exI, SW.den, SV.den, Cell.den, densP, Piece.den, denV, rowCells_mgk, iv_list, rv_list, ivZ, rvZ, mgl_agg]) ?_
    refine ev_call [.bool sc, .agg (mgk 32 nc), .bool tc, .agg (mgk 32 mc), .int .i64 ec] rfl rfl (pure_gives (c2)) (fun β => by simp [BTm.den, Tm.i, Tm.s, Tm.den, env, vInt, vBool, vStr, exI, SW.den, SV.den, Cell.den, densP, Piece.den, denV, rowCells_mgk, iv_list, rv_list, ivZ, rvZ, mgl_agg]) (fun β => by simp [BTm.den, Tm.i, Tm.s, Tm.den, env, vInt, vBool, vStr, exI, SW.den, SV.den, Cell.den, densP, Piece.den, denV, rowCells_mgk, iv_list, rv_list, ivZ, rvZ, mgl_agg]) ?_
    refine ev_call [.bool sd, .agg (mgk 32 nd), .bool td, .agg (mgk 32 md), .int .i64 ed] rfl rfl (pure_gives (d1)) (fun β => by simp [BTm.den, Tm.i, Tm.s, Tm.den, env, vInt, vBool, vStr, exI, SW.den, SV.den, Cell.den, densP, Piece.den, denV, rowCells_mgk, iv_list, rv_list, ivZ, rvZ, mgl_agg]) (fun β => by simp [BTm.den, Tm.i, Tm.s, Tm.den, env, vInt, vBool, vStr, exI, SW.den, SV.den, Cell.den, densP, Piece.den, denV, rowCells_mgk, iv_list, rv_list, ivZ, rvZ, mgl_agg]) ?_
    refine ev_call [.bool sd, .agg (mgk 32 nd), .bool td, .agg (mgk 32 md), .int .i64 ed] rfl rfl (pure_gives (d2)) (fun β => by simp [BTm.den, Tm.i, Tm.s, Tm.den, env, vInt, vBool, vStr, exI, SW.den, SV.den, Cell.den, densP, Piece.den, denV, rowCells_mgk, iv_list, rv_list, ivZ, rvZ, mgl_agg]) (fun β => by simp [BTm.den, Tm.i, Tm.s, Tm.den, env, vInt, vBool, vStr, exI, SW.den, SV.den, Cell.den, densP, Piece.den, denV, rowCells_mgk, iv_list, rv_list, ivZ, rvZ, mgl_agg]) ?_
    refine ev_same (true) rfl (fun β => by simp [BTm.den, Tm.i, Tm.s, Tm.den, env, vInt, vBool, vStr, exI, SW.den, SV.den, Cell.den, densP, Piece.den, denV, rowCells_mgk, iv_list, rv_list, ivZ, rvZ, mgl_agg]) (fun β => by simp [BTm.den, Tm.i, Tm.s, Tm.den, env, vInt, vBool, vStr, exI, SW.den, SV.den, Cell.den, densP, Piece.den, denV, rowCells_mgk, iv_list, rv_list, ivZ, rvZ, mgl_agg]) (same_r1 sa ta na ma ba1 ba2) ?_
    refine ev_nil (way_true (by simp [BTm.den, Tm.i, Tm.s, Tm.den, env, vInt, vBool, vStr, exI]) (tree_ite ?_))
    refine ev_nil (way_true (by simp [BTm.den, Tm.i, Tm.s, Tm.den, env, vInt, vBool, vStr, exI]) (tree_ite ?_))
    refine ev_same (true) rfl (fun β => by simp [BTm.den, Tm.i, Tm.s, Tm.den, env, vInt, vBool, vStr, exI, SW.den, SV.den, Cell.den, densP, Piece.den, denV, rowCells_mgk, iv_list, rv_list, ivZ, rvZ, mgl_agg]) (fun β => by simp [BTm.den, Tm.i, Tm.s, Tm.den, env, vInt, vBool, vStr, exI, SW.den, SV.den, Cell.den, densP, Piece.den, denV, rowCells_mgk, iv_list, rv_list, ivZ, rvZ, mgl_agg]) (same_r1 sb tb nb mb bb1 bb2) ?_
    refine ev_nil (way_true (by simp [BTm.den, Tm.i, Tm.s, Tm.den, env, vInt, vBool, vStr, exI]) (tree_ite ?_))
    refine ev_nil (way_true (by simp [BTm.den, Tm.i, Tm.s, Tm.den, env, vInt, vBool, vStr, exI]) (tree_ite ?_))
    refine ev_same (true) rfl (fun β => by simp [BTm.den, Tm.i, Tm.s, Tm.den, env, vInt, vBool, vStr, exI, SW.den, SV.den, Cell.den, densP, Piece.den, denV, rowCells_mgk, iv_list, rv_list, ivZ, rvZ, mgl_agg]) (fun β => by simp [BTm.den, Tm.i, Tm.s, Tm.den, env, vInt, vBool, vStr, exI, SW.den, SV.den, Cell.den, densP, Piece.den, denV, rowCells_mgk, iv_list, rv_list, ivZ, rvZ, mgl_agg]) (same_r1 sc tc nc mc bc1 bc2) ?_
    refine ev_nil (way_true (by simp [BTm.den, Tm.i, Tm.s, Tm.den, env, vInt, vBool, vStr, exI]) (tree_ite ?_))
    refine ev_nil (way_true (by simp [BTm.den, Tm.i, Tm.s, Tm.den, env, vInt, vBool, vStr, exI]) (tree_ite ?_))
    refine ev_same (true) rfl (fun β => by simp [BTm.den, Tm.i, Tm.s, Tm.den, env, vInt, vBool, vStr, exI, SW.den, SV.den, Cell.den, densP, Piece.den, denV, rowCells_mgk, iv_list, rv_list, ivZ, rvZ, mgl_agg]) (fun β => by simp [BTm.den, Tm.i, Tm.s, Tm.den, env, vInt, vBool, vStr, exI, SW.den, SV.den, Cell.den, densP, Piece.den, denV, rowCells_mgk, iv_list, rv_list, ivZ, rvZ, mgl_agg]) (same_r1 sd td nd md bd1 bd2) ?_
    refine ev_nil (way_true (by simp [BTm.den, Tm.i, Tm.s, Tm.den, env, vInt, vBool, vStr, exI]) (tree_ite ?_))
    refine ev_nil (way_true (by simp [BTm.den, Tm.i, Tm.s, Tm.den, env, vInt, vBool, vStr, exI]) (tree_ite ?_))
    refine ev_call [.int .i64 c, .int .i64 f] rfl rfl (pure_gives (e1)) (fun β => by simp [BTm.den, Tm.i, Tm.s, Tm.den, env, vInt, vBool, vStr, exI, SW.den, SV.den, Cell.den, densP, Piece.den, denV, rowCells_mgk, iv_list, rv_list, ivZ, rvZ, mgl_agg]) (fun β => by simp [BTm.den, Tm.i, Tm.s, Tm.den, env, vInt, vBool, vStr, exI, SW.den, SV.den, Cell.den, densP, Piece.den, denV, rowCells_mgk, iv_list, rv_list, ivZ, rvZ, mgl_agg]) ?_
    refine ev_call [.int .i64 c, .int .i64 f] rfl rfl (pure_gives (e2)) (fun β => by simp [BTm.den, Tm.i, Tm.s, Tm.den, env, vInt, vBool, vStr, exI, SW.den, SV.den, Cell.den, densP, Piece.den, denV, rowCells_mgk, iv_list, rv_list, ivZ, rvZ, mgl_agg]) (fun β => by simp [BTm.den, Tm.i, Tm.s, Tm.den, env, vInt, vBool, vStr, exI, SW.den, SV.den, Cell.den, densP, Piece.den, denV, rowCells_mgk, iv_list, rv_list, ivZ, rvZ, mgl_agg]) ?_
    refine ev_call [.bool true] rfl rfl (pure_gives (kk)) (fun β => by simp [BTm.den, Tm.i, Tm.s, Tm.den, env, vInt, vBool, vStr, exI, SW.den, SV.den, Cell.den, densP, Piece.den, denV, rowCells_mgk, iv_list, rv_list, ivZ, rvZ, mgl_agg]) (fun β => by simp [BTm.den, Tm.i, Tm.s, Tm.den, env, vInt, vBool, vStr, exI, SW.den, SV.den, Cell.den, densP, Piece.den, denV, rowCells_mgk, iv_list, rv_list, ivZ, rvZ, mgl_agg]) ?_
    refine ev_nil (way_true (by simp [BTm.den, Tm.i, Tm.s, Tm.den, env, vInt, vBool, vStr, exI]) (tree_ite ?_))
    refine ev_nil (way_true (by simp [BTm.den, Tm.i, Tm.s, Tm.den, env, vInt, vBool, vStr, exI]) (tree_ite ?_))
    refine ev_nil (way_true (by simp [BTm.den, Tm.i, Tm.s, Tm.den, env, vInt, vBool, vStr, exI]) (tree_ite ?_))
    refine ev_call [.bool v1] rfl rfl (pure_gives (p1)) (fun β => by simp [BTm.den, Tm.i, Tm.s, Tm.den, env, vInt, vBool, vStr, exI, SW.den, SV.den, Cell.den, densP, Piece.den, denV, rowCells_mgk, iv_list, rv_list, ivZ, rvZ, mgl_agg]) (fun β => by simp [BTm.den, Tm.i, Tm.s, Tm.den, env, vInt, vBool, vStr, exI, SW.den, SV.den, Cell.den, densP, Piece.den, denV, rowCells_mgk, iv_list, rv_list, ivZ, rvZ, mgl_agg]) ?_
    refine ev_call [.bool v1] rfl rfl (pure_gives (p2)) (fun β => by simp [BTm.den, Tm.i, Tm.s, Tm.den, env, vInt, vBool, vStr, exI, SW.den, SV.den, Cell.den, densP, Piece.den, denV, rowCells_mgk, iv_list, rv_list, ivZ, rvZ, mgl_agg]) (fun β => by simp [BTm.den, Tm.i, Tm.s, Tm.den, env, vInt, vBool, vStr, exI, SW.den, SV.den, Cell.den, densP, Piece.den, denV, rowCells_mgk, iv_list, rv_list, ivZ, rvZ, mgl_agg]) ?_
    refine ev_nil ⟨fun h => tree_ite (ev_nil ?_), fun h => tree_ite (ev_nil ?_)⟩
    · have h : v1 = true := by simpa [BTm.den, Tm.i, Tm.s, Tm.den, env, vInt, vBool, vStr, exI] using h
      refine way_true (by simp [BTm.den, Tm.i, Tm.s, Tm.den, env, vInt, vBool, vStr, exI, h]) (tree_ite ?_)
      refine ev_call [.bool v2] rfl rfl (pure_gives (q1)) (fun β => by simp [BTm.den, Tm.i, Tm.s, Tm.den, env, vInt, vBool, vStr, exI, SW.den, SV.den, Cell.den, densP, Piece.den, denV, rowCells_mgk, iv_list, rv_list, ivZ, rvZ, mgl_agg]) (fun β => by simp [BTm.den, Tm.i, Tm.s, Tm.den, env, vInt, vBool, vStr, exI, SW.den, SV.den, Cell.den, densP, Piece.den, denV, rowCells_mgk, iv_list, rv_list, ivZ, rvZ, mgl_agg]) ?_
      refine ev_call [.bool v2] rfl rfl (pure_gives (q2)) (fun β => by simp [BTm.den, Tm.i, Tm.s, Tm.den, env, vInt, vBool, vStr, exI, SW.den, SV.den, Cell.den, densP, Piece.den, denV, rowCells_mgk, iv_list, rv_list, ivZ, rvZ, mgl_agg]) (fun β => by simp [BTm.den, Tm.i, Tm.s, Tm.den, env, vInt, vBool, vStr, exI, SW.den, SV.den, Cell.den, densP, Piece.den, denV, rowCells_mgk, iv_list, rv_list, ivZ, rvZ, mgl_agg]) ?_
      refine ev_nil ⟨fun h => tree_leaf (ev_nil fun β => ?_), fun h => tree_leaf (ev_nil fun β => ?_)⟩
      · have h : v2 = true := by simpa [BTm.den, Tm.i, Tm.s, Tm.den, env, vInt, vBool, vStr, exI] using h
        rw [h]; simp [BTm.den, Tm.i, Tm.s, Tm.den, env, vInt, vBool, vStr, exI, SW.den, SV.den, Cell.den, densP, Piece.den, denV, rowCells_mgk, iv_list, rv_list, ivZ, rvZ, mgl_agg]
      · have h : v2 = false := by simpa [BTm.den, Tm.i, Tm.s, Tm.den, env, vInt, vBool, vStr, exI] using h
        rw [h]; simp [BTm.den, Tm.i, Tm.s, Tm.den, env, vInt, vBool, vStr, exI, SW.den, SV.den, Cell.den, densP, Piece.den, denV, rowCells_mgk, iv_list, rv_list, ivZ, rvZ, mgl_agg]
    · have h : v1 = false := by simpa [BTm.den, Tm.i, Tm.s, Tm.den, env, vInt, vBool, vStr, exI] using h
      refine way_false (by simp [BTm.den, Tm.i, Tm.s, Tm.den, env, vInt, vBool, vStr, exI, h]) (tree_ite ?_)
      refine ev_call [.bool v2] rfl rfl (pure_gives (q1)) (fun β => by simp [BTm.den, Tm.i, Tm.s, Tm.den, env, vInt, vBool, vStr, exI, SW.den, SV.den, Cell.den, densP, Piece.den, denV, rowCells_mgk, iv_list, rv_list, ivZ, rvZ, mgl_agg]) (fun β => by simp [BTm.den, Tm.i, Tm.s, Tm.den, env, vInt, vBool, vStr, exI, SW.den, SV.den, Cell.den, densP, Piece.den, denV, rowCells_mgk, iv_list, rv_list, ivZ, rvZ, mgl_agg]) ?_
      refine ev_call [.bool v2] rfl rfl (pure_gives (q2)) (fun β => by simp [BTm.den, Tm.i, Tm.s, Tm.den, env, vInt, vBool, vStr, exI, SW.den, SV.den, Cell.den, densP, Piece.den, denV, rowCells_mgk, iv_list, rv_list, ivZ, rvZ, mgl_agg]) (fun β => by simp [BTm.den, Tm.i, Tm.s, Tm.den, env, vInt, vBool, vStr, exI, SW.den, SV.den, Cell.den, densP, Piece.den, denV, rowCells_mgk, iv_list, rv_list, ivZ, rvZ, mgl_agg]) ?_
      refine ev_nil ⟨fun h => tree_leaf (ev_nil fun β => ?_), fun h => tree_leaf (ev_nil fun β => ?_)⟩
      · have h : v2 = true := by simpa [BTm.den, Tm.i, Tm.s, Tm.den, env, vInt, vBool, vStr, exI] using h
        rw [h]; simp [BTm.den, Tm.i, Tm.s, Tm.den, env, vInt, vBool, vStr, exI, SW.den, SV.den, Cell.den, densP, Piece.den, denV, rowCells_mgk, iv_list, rv_list, ivZ, rvZ, mgl_agg]
      · have h : v2 = false := by simpa [BTm.den, Tm.i, Tm.s, Tm.den, env, vInt, vBool, vStr, exI] using h
        rw [h]; simp [BTm.den, Tm.i, Tm.s, Tm.den, env, vInt, vBool, vStr, exI, SW.den, SV.den, Cell.den, densP, Piece.den, denV, rowCells_mgk, iv_list, rv_list, ivZ, rvZ, mgl_agg]
  have h := pure_of plain [.bool s0, .agg (mgk 32 n0), .bool t0, .agg (mgk 32 m0), .bool s1, .agg (mgk 32 n1), .bool t1, .agg (mgk 32 m1)] tRExact_ok (by kernel_rfl) _ main
  refine gives_pure ?_
  simpa [ratR, BTm.den, Tm.i, Tm.s, Tm.den, env, vInt, vBool, vStr, exI, SW.den, SV.den, Cell.den, densP, Piece.den, denV, denT, rowCells_mgk, rv_list] using h
theorem mkN_abs {x y : Int} {g : Nat} (hx : (g : Int) ∣ x) : (mkN x y g).natAbs = x.natAbs / g := by
  have : (x / (g : Int)).natAbs = x.natAbs / g := by rw [Int.natAbs_ediv_of_dvd hx, Int.natAbs_natCast]
  unfold mkN
  split
  · rw [Int.natAbs_neg]; exact this
  · exact this
theorem mkN_den {y : Int} {g : Nat} (h0 : y ≠ 0) (hg : 0 < g) (hy : (g : Int) ∣ y) : 0 < mkN y y g := by
  have h1 := quo_neg hg hy
  have h2 : y / (g : Int) ≠ 0 := fun h => h0 (by rw [← Int.mul_ediv_cancel' hy, h, Int.mul_zero])
  unfold mkN
  split <;> omega
theorem vldZ {a b : Int} (hb : 0 < b) (h1 : mkF a b = true) (h2 : Nat.gcd a.natAbs b.natAbs = 1) : vld (decide (a < 0)) a.natAbs (decide (b < 0)) b.natAbs = true := by
  unfold mkF at h1
  simp only [Bool.and_eq_true, decide_eq_true_eq] at h1
  unfold vld
  rw [decide_eq_true h1.1, decide_eq_true h1.2, decide_eq_true h2, decide_eq_false (show ¬ b < 0 by omega), isz_false (show b.natAbs ≠ 0 by omega)]
  by_cases ha : a < 0
  · rw [decide_eq_true ha, isz_false (show a.natAbs ≠ 0 by omega)]; rfl
  · rw [decide_eq_false ha]; rfl
/-- What Make returns: an error, or a valid ratio. -/
theorem mkZ_cases (x y : Int) : (∃ e : Int, e ≠ 0 ∧ mkZ x y = errV e) ∨ ∃ a b : Int, mkZ x y = .tuple #[.agg (rvZ a b), .int .i64 0] ∧ a.natAbs < pw 32 ∧ b.natAbs < pw 32 ∧ vld (decide (a < 0)) a.natAbs (decide (b < 0)) b.natAbs = true := by
  unfold mkZ mkv
  split
  · exact .inl ⟨11, by decide, rfl⟩
  · rename_i h0
    split
    · rename_i hf
      refine .inr ⟨_, _, rfl, ?_, ?_, ?_⟩
      · unfold mkF at hf
        simp only [Bool.and_eq_true, decide_eq_true_eq] at hf
        exact short480 hf.1
      · unfold mkF at hf
        simp only [Bool.and_eq_true, decide_eq_true_eq] at hf
        exact short480 hf.2
      · have hg : 0 < Nat.gcd x.natAbs y.natAbs := Nat.gcd_pos_of_pos_right _ (by omega)
        have hx : ((Nat.gcd x.natAbs y.natAbs : Nat) : Int) ∣ x := Int.dvd_natAbs.1 (Int.natCast_dvd_natCast.2 (Nat.gcd_dvd_left _ _))
        have hy : ((Nat.gcd x.natAbs y.natAbs : Nat) : Int) ∣ y := Int.dvd_natAbs.1 (Int.natCast_dvd_natCast.2 (Nat.gcd_dvd_right _ _))
        refine vldZ (mkN_den h0 hg hy) hf ?_
        rw [mkN_abs hx, mkN_abs hy]
        exact Nat.coprime_div_gcd_div_gcd hg
    · exact .inl ⟨10, by decide, rfl⟩
end Go.Proofs.YtfdlgeomaballaaGreat
end
