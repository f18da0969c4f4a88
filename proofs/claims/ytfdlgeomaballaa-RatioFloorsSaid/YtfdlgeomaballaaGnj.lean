/- Merged: Vm, Vr. -/
import Derived.Test.YtfdlgeomaballaaGng
import Derived.Test.YtfdlgeomaballaaGnc
import Derived.Test.YtfdlgeomaballaaTi
section
/- What is made of a tape: numbers of so many bits, and ratios. -/
namespace Go.Proofs.Ytfdlgeomaballaa
open Go.RowKit Go.Proofs.Ytfdlgeomaballaa.Sx
set_option linter.unusedSimpArgs false
set_option linter.unusedVariables false

/-- One limb as it is drawn. -/
def drawn (tv : Nat → Int) (k j : Nat) : Nat := if foldv (tv (k + 2 * j + 1)) 9 = 0 then 0 else if foldv (tv (k + 2 * j + 1)) 9 = 1 then 4294967295 else (foldv (tv (k + 2 * j)) 4294967296).toNat
def limbT (tv : Nat → Int) (k N j : Nat) : Nat := if N - 32 * j < 32 then drawn tv k j % 2 ^ (N - 32 * j) else drawn tv k j
def magT (tv : Nat → Int) (k N : Nat) : Nat → Nat
  | 0 => 0
  | j + 1 => magT tv k N j + limbT tv k N j * pw j
theorem drawn_lt (tv : Nat → Int) (k j : Nat) : drawn tv k j < 4294967296 := by
  unfold drawn
  have := foldv_range (v := tv (k + 2 * j)) (n := 4294967296) (by omega)
  split
  · omega
  · split <;> omega
theorem limbT_lt (tv : Nat → Int) (k N j : Nat) : limbT tv k N j < 4294967296 := by
  unfold limbT
  have := drawn_lt tv k j
  split
  · exact Nat.lt_of_le_of_lt (Nat.mod_le _ _) this
  · exact this
theorem magT_lt (tv : Nat → Int) (k N : Nat) : ∀ j, (j = 0 ∨ 32 * (j - 1) < N) → magT tv k N j < 2 ^ (min (32 * j) N)
  | 0, _ => Nat.pow_pos (by omega)
  | j + 1, h => by
    have h' : 32 * j < N := by rcases h with h | h <;> omega
    have ih := magT_lt tv k N j (by omega)
    rw [show min (32 * j) N = 32 * j by omega] at ih
    refine fill_bits h' ih (limbT_lt tv k N j) fun hl => ?_
    unfold limbT
    rw [if_pos hl]
    exact Nat.mod_lt _ (Nat.pow_pos (by omega))
theorem mask_ari (v l : Nat) (hv : v < 4294967296) (hl : l < 32) : ariI .and .u32 ((v : Nat) : Int) (ariI .sub .u32 (shfI .shl .u32 1 ((l : Nat) : Int)) 1) = ((v % 2 ^ l : Nat) : Int) := by
  have h := mask_and (z := ((v : Nat) : Int)) (v := v) (j := l) rfl hv hl
  have h1 : 2 ^ l ≤ 2 ^ 31 := Nat.pow_le_pow_right (by omega) (by omega)
  have h2 : 0 < 2 ^ l := Nat.pow_pos (by omega)
  have e1 : shfI .shl .u32 1 ((l : Nat) : Int) = ((2 ^ l : Nat) : Int) := by
    have := shl32_of 1 l (2 ^ l) (by omega) rfl
    rw [Nat.one_mul, Nat.mod_eq_of_lt (by omega)] at this
    exact this
  have e2 : ariI .sub .u32 (shfI .shl .u32 1 ((l : Nat) : Int)) 1 = ((2 ^ l - 1) % 4294967296 : Int) := by
    rw [e1]
    show IntKind.u32.wrap (((2 ^ l : Nat) : Int) - 1) = _
    rw [IntKind.wrap_u32]
    have : ((2 : Int) ^ l) = ((2 ^ l : Nat) : Int) := by simp
    rw [this]
  rw [e2]
  exact h
set_option maxHeartbeats 8000000 in
/-- The loop of make.Int: from place k on, N bits. -/
theorem mint_loop [Outer] (Lv : Value) (hL : fix Lv = Lv) (tv : Nat → Int) (ht : Tape Outer.r Lv tv) (k0 k1 k N : Nat) (x3 B p P1 NI : Int) (hk : k + 64 ≤ 1152921504606846976) (hN1 : (if B < p then B else p) = P1) (hN2 : (if 1024 < P1 then 1024 else P1) = NI) (hNI : NI = ((N : Nat) : Int)) (hN : N ≤ 1024) :
    Ev.holds Try.prog (env [Lv, .int .i64 (k0 : Nat), .int .i64 B, .int .i64 x3, .int .i64 (k1 : Nat), .int .i64 p, .int .i64 (k : Nat), .int .i64 ((N + 31) / 32 : Nat), Lv, .int .i64 (k + 2 * ((N + 31) / 32) : Nat), .bool false, .agg (mgk 32 (magT tv k N ((N + 31) / 32)))])
      (.loop 114 0 mintS114_0 mintH114_0 (.exit 0) .none 5) := by
  obtain ⟨J, hJ⟩ : ∃ J, J = (N + 31) / 32 := ⟨_, rfl⟩
  rw [← hJ]
  refine loop_holds plain (m := 5) (x := .exit 0) (alt := none) [Lv, .int .i64 (k0 : Nat), .int .i64 B, .int .i64 x3, .int .i64 (k1 : Nat), .int .i64 p, .int .i64 (k : Nat)] [.int .i64 (J : Nat), Lv, .int .i64 (k + 2 * J : Nat), .bool false, .agg (mgk 32 (magT tv k N J))] tmInt0_ok tmInt0_fine
    (fun vs => ∃ j : Nat, j ≤ J ∧ vs = [.int .i64 (j : Nat), Lv, .int .i64 (k + 2 * j : Nat), .bool false, .agg (mgk 32 (magT tv k N j))])
    (fun vs => 32 - (vInt (vs.getD 0 undef)).toNat) tmInt0_diff ?_ ?_
  · refine ⟨[.int .i64 (0 : Nat), Lv, .int .i64 (k + 2 * 0 : Nat), .bool false, .agg (mgk 32 (magT tv k N 0))], rfl, ⟨0, by omega, rfl⟩, ?_⟩
    have hz : rowCells (.agg (mgk 32 (magT tv k N 0))) 32 = List.replicate 32 (.int .u32 0) := by rw [rowCells_mgk, magT, mgl_zero]
    simp [tmInt0_d, BTm.den, Tm.i, Tm.s, Tm.den, env, vInt, vBool, vStr, exI, SW.den, SV.den, Cell.den, densP, Piece.den, denV, denT, hz, hL]
  · rintro vs hl ⟨j, hj, rfl⟩
    clear hl
    refine tree_ite ?_
    refine ev_fits (32 * (j : Int)) (by simp [BTm.den, Tm.i, Tm.s, Tm.den, env, vInt, vBool, vStr, exI]) (rng_i64 _ (by omega)) ?_
    refine ev_nil ⟨fun hlt => tree_ite ?_, fun hlt => tree_leaf (ev_nil ?_)⟩
    · have hlt : 32 * (j : Int) < NI := by simpa [BTm.den, Tm.i, Tm.s, Tm.den, env, vInt, vBool, vStr, exI, hN1, hN2] using hlt
      have hj32 : j < 32 := by omega
      have hjJ : j + 1 ≤ J := by omega
      have hg1 := fun b => ht (k + 2 * j) b 4294967296 (by omega) (by omega)
      have hg2 := fun b => ht (k + 2 * j + 1) b 9 (by omega) (by omega)
      have hr1 := foldv_range (v := tv (k + 2 * j)) (n := 4294967296) (by omega)
      have hlT : limbT tv k N j = if N - 32 * j < 32 then drawn tv k j % 2 ^ (N - 32 * j) else drawn tv k j := rfl
      have hdr : drawn tv k j = if foldv (tv (k + 2 * j + 1)) 9 = 0 then 0 else if foldv (tv (k + 2 * j + 1)) 9 = 1 then 4294967295 else (foldv (tv (k + 2 * j)) 4294967296).toNat := rfl
      have hdl := drawn_lt tv k j
      have hml : magT tv k N j < pw j := by
        have := magT_lt tv k N j (by omega)
        rw [show min (32 * j) N = 32 * j by omega] at this
        rw [pw_bits]; exact this
      have hms : magT tv k N (j + 1) = put (magT tv k N j) j (limbT tv k N j) := by
        rw [put_low _ hml]; rfl
      have hll := limbT_lt tv k N j
      obtain ⟨z1, hz1⟩ : ∃ z, z = foldv (tv (k + 2 * j)) 4294967296 := ⟨_, rfl⟩
      obtain ⟨z2, hz2⟩ : ∃ z, z = foldv (tv (k + 2 * j + 1)) 9 := ⟨_, rfl⟩
      obtain ⟨d, hd⟩ : ∃ z, z = drawn tv k j := ⟨_, rfl⟩
      obtain ⟨v, hv⟩ : ∃ z, z = limbT tv k N j := ⟨_, rfl⟩
      obtain ⟨M, hM⟩ : ∃ z, z = magT tv k N j := ⟨_, rfl⟩
      rw [← hz1] at hg1 hr1 hdr
      rw [← hz2] at hg2 hdr
      rw [← hd] at hdr hlT hdl
      rw [← hv] at hlT hms hll
      rw [← hM] at hms
      rw [← hM]
      clear hz1 hz2 hd hv hM hml
      have hput : mgl 32 (put M j v) = (mgl 32 M).take j ++ [.int .u32 (v : Nat)] ++ (mgl 32 M).drop (j + 1) := mgl_put (by omega) rfl hll
      have hc1 : IntKind.u32.wrap z1 = z1 := by rw [IntKind.wrap_u32]; omega
      refine ev_turn [.int .i64 (z1), .int .i64 (((k + 2 * j + 1 : Nat) : Int))] rfl rfl (fun β _ => Given.turns (fun b => #[.pointer (some ⟨b, 0, none⟩), .int .i64 (4294967296)]) (hg1) (fun β => by simp [BTm.den, Tm.i, Tm.s, Tm.den, env, vInt, vBool, vStr, exI, SW.den, SV.den, Cell.den, densP, Piece.den, denV, hL]) (fun β => by simp [BTm.den, Tm.i, Tm.s, Tm.den, env, vInt, vBool, vStr, exI, SW.den, SV.den, Cell.den, densP, Piece.den, denV, hL]) (fun β => by simp [BTm.den, Tm.i, Tm.s, Tm.den, env, vInt, vBool, vStr, exI, SW.den, SV.den, Cell.den, densP, Piece.den, denV, hL]) (fun β => by simp [BTm.den, Tm.i, Tm.s, Tm.den, env, vInt, vBool, vStr, exI, SW.den, SV.den, Cell.den, densP, Piece.den, denV, hL]) β) ?_
      refine ev_turn [.int .i64 (z2), .int .i64 (((k + 2 * j + 1 + 1 : Nat) : Int))] rfl rfl (fun β _ => Given.turns (fun b => #[.pointer (some ⟨b, 0, none⟩), .int .i64 (9)]) (hg2) (fun β => by simp [BTm.den, Tm.i, Tm.s, Tm.den, env, vInt, vBool, vStr, exI, SW.den, SV.den, Cell.den, densP, Piece.den, denV, hL]) (fun β => by simp [BTm.den, Tm.i, Tm.s, Tm.den, env, vInt, vBool, vStr, exI, SW.den, SV.den, Cell.den, densP, Piece.den, denV, hL]) (fun β => by simp [BTm.den, Tm.i, Tm.s, Tm.den, env, vInt, vBool, vStr, exI, SW.den, SV.den, Cell.den, densP, Piece.den, denV, hL]) (fun β => by simp [BTm.den, Tm.i, Tm.s, Tm.den, env, vInt, vBool, vStr, exI, SW.den, SV.den, Cell.den, densP, Piece.den, denV, hL]) β) ?_
      have fin : ∀ (ρ' : List Value) (y1 y2 : SW × SW) (y3 : SW × SW), (∀ β, y1.1.den (env ρ') β = .int .i64 ((j + 1 : Nat) : Int)) → True := fun _ _ _ _ _ => trivial
      have hj1 : ((j : Int) + 1) = ((j + 1 : Nat) : Int) := by push_cast; rfl
      have hk1 : k + 2 * j + 1 + 1 = k + 2 * (j + 1) := by omega
      refine ev_nil ⟨fun h => tree_ite ?_, fun h => tree_ite (ev_nil ⟨fun h' => tree_ite ?_, fun h' => tree_ite ?_⟩)⟩
      · have h : z2 = 0 := by simpa [BTm.den, Tm.i, Tm.s, Tm.den, env, vInt, vBool, vStr, exI] using h
        rw [if_pos h] at hdr
        refine ev_fits (32 * (j : Int)) (by simp [BTm.den, Tm.i, Tm.s, Tm.den, env, vInt, vBool, vStr, exI]) (rng_i64 _ (by omega)) ?_
        refine ev_fits (NI - 32 * (j : Int)) (by simp [BTm.den, Tm.i, Tm.s, Tm.den, env, vInt, vBool, vStr, exI, hN1, hN2]) (rng_i64 _ (by omega)) ?_
        refine ev_nil ⟨fun hs => tree_leaf ?_, fun hs => tree_leaf ?_⟩
        · have hs : NI - 32 * (j : Int) < 32 := by simpa [BTm.den, Tm.i, Tm.s, Tm.den, env, vInt, vBool, vStr, exI, hN1, hN2] using hs
          have hsub : NI - 32 * (j : Int) = ((N - 32 * j : Nat) : Int) := by omega
          have hmk := mask_ari d (N - 32 * j) hdl (by omega)
          rw [if_pos (by omega)] at hlT
          rw [← hlT, hdr, show ((0 : Nat) : Int) = 0 from rfl] at hmk
          refine ev_fits ((N - 32 * j : Nat) : Int) (by simp [BTm.den, Tm.i, Tm.s, Tm.den, env, vInt, vBool, vStr, exI, hN1, hN2, hsub]) (rng_u64 _ (by omega)) ?_
          refine ev_need (by simp [BTm.den, Tm.i, Tm.s, Tm.den, env, vInt, vBool, vStr, exI, hN1, hN2, hsub]) ?_
          refine ev_need (by simp [BTm.den, Tm.i, Tm.s, Tm.den, env, vInt, vBool, vStr, exI]) ?_
          refine ev_need (by simp [BTm.den, Tm.i, Tm.s, Tm.den, env, vInt, vBool, vStr, exI] <;> omega) ?_
          refine ev_put [.agg (mgk 32 (put M j v))] rfl rfl (l := mgl 32 M) (l' := mgl 32 (put M j v)) (m := [.int .u32 (v : Nat)]) (k := j) (by simp [BTm.den, Tm.i, Tm.s, Tm.den, env, vInt, vBool, vStr, exI] <;> omega) (fun β => rowCells_mgk 32 _) (fun β => rowCells_mgk 32 _) (fun β => ?_) hput (by rw [mgl_length]; simp; omega) ?_
          · simp only [BTm.den, Tm.i, Tm.s, Tm.den, env, vInt, vBool, vStr, exI, SW.den, SV.den, Cell.den, densP, Piece.den, denV, denT, hN1, hN2, hsub, List.getD_cons_succ, List.getD_cons_zero, List.getElem?_cons_succ, List.getElem?_cons_zero, Option.getD_some]
            simp [hN1, hN2, hsub, hc1, hmk]
          refine ev_fits ((j + 1 : Nat) : Int) (by simp [BTm.den, Tm.i, Tm.s, Tm.den, env, vInt, vBool, vStr, exI]) (rng_i64 _ (by omega)) ?_
          refine ev_nil ⟨[.int .i64 (j + 1 : Nat), Lv, .int .i64 (k + 2 * (j + 1) : Nat), .bool false, .agg (mgk 32 (magT tv k N (j + 1)))], rfl, ⟨j + 1, hjJ, rfl⟩, by simp [vInt]; omega, ?_⟩
          rw [hms]
          simp [BTm.den, Tm.i, Tm.s, Tm.den, env, vInt, vBool, vStr, exI, SW.den, SV.den, Cell.den, densP, Piece.den, denV, denT, rowCells_mgk, hL] <;> omega
        · have hs : ¬ NI - 32 * (j : Int) < 32 := by simpa [BTm.den, Tm.i, Tm.s, Tm.den, env, vInt, vBool, vStr, exI, hN1, hN2] using hs
          rw [if_neg (by omega)] at hlT
          refine ev_need (by simp [BTm.den, Tm.i, Tm.s, Tm.den, env, vInt, vBool, vStr, exI]) ?_
          refine ev_need (by simp [BTm.den, Tm.i, Tm.s, Tm.den, env, vInt, vBool, vStr, exI] <;> omega) ?_
          refine ev_put [.agg (mgk 32 (put M j v))] rfl rfl (l := mgl 32 M) (l' := mgl 32 (put M j v)) (m := [.int .u32 (v : Nat)]) (k := j) (by simp [BTm.den, Tm.i, Tm.s, Tm.den, env, vInt, vBool, vStr, exI] <;> omega) (fun β => rowCells_mgk 32 _) (fun β => rowCells_mgk 32 _) (fun β => ?_) hput (by rw [mgl_length]; simp; omega) ?_
          · simp [BTm.den, Tm.i, Tm.s, Tm.den, env, vInt, vBool, vStr, exI, SW.den, SV.den, Cell.den, densP, Piece.den, denV, denT, hc1, hlT, hdr] 
          refine ev_fits ((j + 1 : Nat) : Int) (by simp [BTm.den, Tm.i, Tm.s, Tm.den, env, vInt, vBool, vStr, exI]) (rng_i64 _ (by omega)) ?_
          refine ev_nil ⟨[.int .i64 (j + 1 : Nat), Lv, .int .i64 (k + 2 * (j + 1) : Nat), .bool false, .agg (mgk 32 (magT tv k N (j + 1)))], rfl, ⟨j + 1, hjJ, rfl⟩, by simp [vInt]; omega, ?_⟩
          rw [hms]
          simp [BTm.den, Tm.i, Tm.s, Tm.den, env, vInt, vBool, vStr, exI, SW.den, SV.den, Cell.den, densP, Piece.den, denV, denT, rowCells_mgk, hL] <;> omega
      · have h : z2 ≠ 0 := by simpa [BTm.den, Tm.i, Tm.s, Tm.den, env, vInt, vBool, vStr, exI] using h
        have h' : z2 = 1 := by simpa [BTm.den, Tm.i, Tm.s, Tm.den, env, vInt, vBool, vStr, exI] using h'
        rw [if_neg h, if_pos h'] at hdr
        refine ev_fits (32 * (j : Int)) (by simp [BTm.den, Tm.i, Tm.s, Tm.den, env, vInt, vBool, vStr, exI]) (rng_i64 _ (by omega)) ?_
        refine ev_fits (NI - 32 * (j : Int)) (by simp [BTm.den, Tm.i, Tm.s, Tm.den, env, vInt, vBool, vStr, exI, hN1, hN2]) (rng_i64 _ (by omega)) ?_
        refine ev_nil ⟨fun hs => tree_leaf ?_, fun hs => tree_leaf ?_⟩
        · have hs : NI - 32 * (j : Int) < 32 := by simpa [BTm.den, Tm.i, Tm.s, Tm.den, env, vInt, vBool, vStr, exI, hN1, hN2] using hs
          have hsub : NI - 32 * (j : Int) = ((N - 32 * j : Nat) : Int) := by omega
          have hmk := mask_ari d (N - 32 * j) hdl (by omega)
          rw [if_pos (by omega)] at hlT
          rw [← hlT, hdr, show ((4294967295 : Nat) : Int) = 4294967295 from rfl] at hmk
          refine ev_fits ((N - 32 * j : Nat) : Int) (by simp [BTm.den, Tm.i, Tm.s, Tm.den, env, vInt, vBool, vStr, exI, hN1, hN2, hsub]) (rng_u64 _ (by omega)) ?_
          refine ev_need (by simp [BTm.den, Tm.i, Tm.s, Tm.den, env, vInt, vBool, vStr, exI, hN1, hN2, hsub]) ?_
          refine ev_need (by simp [BTm.den, Tm.i, Tm.s, Tm.den, env, vInt, vBool, vStr, exI]) ?_
          refine ev_need (by simp [BTm.den, Tm.i, Tm.s, Tm.den, env, vInt, vBool, vStr, exI] <;> omega) ?_
          refine ev_put [.agg (mgk 32 (put M j v))] rfl rfl (l := mgl 32 M) (l' := mgl 32 (put M j v)) (m := [.int .u32 (v : Nat)]) (k := j) (by simp [BTm.den, Tm.i, Tm.s, Tm.den, env, vInt, vBool, vStr, exI] <;> omega) (fun β => rowCells_mgk 32 _) (fun β => rowCells_mgk 32 _) (fun β => ?_) hput (by rw [mgl_length]; simp; omega) ?_
          · simp only [BTm.den, Tm.i, Tm.s, Tm.den, env, vInt, vBool, vStr, exI, SW.den, SV.den, Cell.den, densP, Piece.den, denV, denT, hN1, hN2, hsub, List.getD_cons_succ, List.getD_cons_zero, List.getElem?_cons_succ, List.getElem?_cons_zero, Option.getD_some]
            simp [hN1, hN2, hsub, hc1, hmk]
          refine ev_fits ((j + 1 : Nat) : Int) (by simp [BTm.den, Tm.i, Tm.s, Tm.den, env, vInt, vBool, vStr, exI]) (rng_i64 _ (by omega)) ?_
          refine ev_nil ⟨[.int .i64 (j + 1 : Nat), Lv, .int .i64 (k + 2 * (j + 1) : Nat), .bool false, .agg (mgk 32 (magT tv k N (j + 1)))], rfl, ⟨j + 1, hjJ, rfl⟩, by simp [vInt]; omega, ?_⟩
          rw [hms]
          simp [BTm.den, Tm.i, Tm.s, Tm.den, env, vInt, vBool, vStr, exI, SW.den, SV.den, Cell.den, densP, Piece.den, denV, denT, rowCells_mgk, hL] <;> omega
        · have hs : ¬ NI - 32 * (j : Int) < 32 := by simpa [BTm.den, Tm.i, Tm.s, Tm.den, env, vInt, vBool, vStr, exI, hN1, hN2] using hs
          rw [if_neg (by omega)] at hlT
          refine ev_need (by simp [BTm.den, Tm.i, Tm.s, Tm.den, env, vInt, vBool, vStr, exI]) ?_
          refine ev_need (by simp [BTm.den, Tm.i, Tm.s, Tm.den, env, vInt, vBool, vStr, exI] <;> omega) ?_
          refine ev_put [.agg (mgk 32 (put M j v))] rfl rfl (l := mgl 32 M) (l' := mgl 32 (put M j v)) (m := [.int .u32 (v : Nat)]) (k := j) (by simp [BTm.den, Tm.i, Tm.s, Tm.den, env, vInt, vBool, vStr, exI] <;> omega) (fun β => rowCells_mgk 32 _) (fun β => rowCells_mgk 32 _) (fun β => ?_) hput (by rw [mgl_length]; simp; omega) ?_
          · simp [BTm.den, Tm.i, Tm.s, Tm.den, env, vInt, vBool, vStr, exI, SW.den, SV.den, Cell.den, densP, Piece.den, denV, denT, hc1, hlT, hdr] 
          refine ev_fits ((j + 1 : Nat) : Int) (by simp [BTm.den, Tm.i, Tm.s, Tm.den, env, vInt, vBool, vStr, exI]) (rng_i64 _ (by omega)) ?_
          refine ev_nil ⟨[.int .i64 (j + 1 : Nat), Lv, .int .i64 (k + 2 * (j + 1) : Nat), .bool false, .agg (mgk 32 (magT tv k N (j + 1)))], rfl, ⟨j + 1, hjJ, rfl⟩, by simp [vInt]; omega, ?_⟩
          rw [hms]
          simp [BTm.den, Tm.i, Tm.s, Tm.den, env, vInt, vBool, vStr, exI, SW.den, SV.den, Cell.den, densP, Piece.den, denV, denT, rowCells_mgk, hL] <;> omega
      · have h : z2 ≠ 0 := by simpa [BTm.den, Tm.i, Tm.s, Tm.den, env, vInt, vBool, vStr, exI] using h
        have h' : z2 ≠ 1 := by simpa [BTm.den, Tm.i, Tm.s, Tm.den, env, vInt, vBool, vStr, exI] using h'
        rw [if_neg h, if_neg h'] at hdr
        refine ev_fits (32 * (j : Int)) (by simp [BTm.den, Tm.i, Tm.s, Tm.den, env, vInt, vBool, vStr, exI]) (rng_i64 _ (by omega)) ?_
        refine ev_fits (NI - 32 * (j : Int)) (by simp [BTm.den, Tm.i, Tm.s, Tm.den, env, vInt, vBool, vStr, exI, hN1, hN2]) (rng_i64 _ (by omega)) ?_
        refine ev_nil ⟨fun hs => tree_leaf ?_, fun hs => tree_leaf ?_⟩
        · have hs : NI - 32 * (j : Int) < 32 := by simpa [BTm.den, Tm.i, Tm.s, Tm.den, env, vInt, vBool, vStr, exI, hN1, hN2] using hs
          have hsub : NI - 32 * (j : Int) = ((N - 32 * j : Nat) : Int) := by omega
          have hmk := mask_ari d (N - 32 * j) hdl (by omega)
          rw [if_pos (by omega)] at hlT
          rw [← hlT, hdr, show ((z1.toNat : Nat) : Int) = z1 by omega] at hmk
          refine ev_fits ((N - 32 * j : Nat) : Int) (by simp [BTm.den, Tm.i, Tm.s, Tm.den, env, vInt, vBool, vStr, exI, hN1, hN2, hsub]) (rng_u64 _ (by omega)) ?_
          refine ev_need (by simp [BTm.den, Tm.i, Tm.s, Tm.den, env, vInt, vBool, vStr, exI, hN1, hN2, hsub]) ?_
          refine ev_need (by simp [BTm.den, Tm.i, Tm.s, Tm.den, env, vInt, vBool, vStr, exI]) ?_
          refine ev_need (by simp [BTm.den, Tm.i, Tm.s, Tm.den, env, vInt, vBool, vStr, exI] <;> omega) ?_
          refine ev_put [.agg (mgk 32 (put M j v))] rfl rfl (l := mgl 32 M) (l' := mgl 32 (put M j v)) (m := [.int .u32 (v : Nat)]) (k := j) (by simp [BTm.den, Tm.i, Tm.s, Tm.den, env, vInt, vBool, vStr, exI] <;> omega) (fun β => rowCells_mgk 32 _) (fun β => rowCells_mgk 32 _) (fun β => ?_) hput (by rw [mgl_length]; simp; omega) ?_
          · simp only [BTm.den, Tm.i, Tm.s, Tm.den, env, vInt, vBool, vStr, exI, SW.den, SV.den, Cell.den, densP, Piece.den, denV, denT, hN1, hN2, hsub, List.getD_cons_succ, List.getD_cons_zero, List.getElem?_cons_succ, List.getElem?_cons_zero, Option.getD_some]
            simp [hN1, hN2, hsub, hc1, hmk]
          refine ev_fits ((j + 1 : Nat) : Int) (by simp [BTm.den, Tm.i, Tm.s, Tm.den, env, vInt, vBool, vStr, exI]) (rng_i64 _ (by omega)) ?_
          refine ev_nil ⟨[.int .i64 (j + 1 : Nat), Lv, .int .i64 (k + 2 * (j + 1) : Nat), .bool false, .agg (mgk 32 (magT tv k N (j + 1)))], rfl, ⟨j + 1, hjJ, rfl⟩, by simp [vInt]; omega, ?_⟩
          rw [hms]
          simp [BTm.den, Tm.i, Tm.s, Tm.den, env, vInt, vBool, vStr, exI, SW.den, SV.den, Cell.den, densP, Piece.den, denV, denT, rowCells_mgk, hL] <;> omega
        · have hs : ¬ NI - 32 * (j : Int) < 32 := by simpa [BTm.den, Tm.i, Tm.s, Tm.den, env, vInt, vBool, vStr, exI, hN1, hN2] using hs
          rw [if_neg (by omega)] at hlT
          refine ev_need (by simp [BTm.den, Tm.i, Tm.s, Tm.den, env, vInt, vBool, vStr, exI]) ?_
          refine ev_need (by simp [BTm.den, Tm.i, Tm.s, Tm.den, env, vInt, vBool, vStr, exI] <;> omega) ?_
          refine ev_put [.agg (mgk 32 (put M j v))] rfl rfl (l := mgl 32 M) (l' := mgl 32 (put M j v)) (m := [.int .u32 (v : Nat)]) (k := j) (by simp [BTm.den, Tm.i, Tm.s, Tm.den, env, vInt, vBool, vStr, exI] <;> omega) (fun β => rowCells_mgk 32 _) (fun β => rowCells_mgk 32 _) (fun β => ?_) hput (by rw [mgl_length]; simp; omega) ?_
          · simp [BTm.den, Tm.i, Tm.s, Tm.den, env, vInt, vBool, vStr, exI, SW.den, SV.den, Cell.den, densP, Piece.den, denV, denT, hc1, hlT, hdr] <;> omega
          refine ev_fits ((j + 1 : Nat) : Int) (by simp [BTm.den, Tm.i, Tm.s, Tm.den, env, vInt, vBool, vStr, exI]) (rng_i64 _ (by omega)) ?_
          refine ev_nil ⟨[.int .i64 (j + 1 : Nat), Lv, .int .i64 (k + 2 * (j + 1) : Nat), .bool false, .agg (mgk 32 (magT tv k N (j + 1)))], rfl, ⟨j + 1, hjJ, rfl⟩, by simp [vInt]; omega, ?_⟩
          rw [hms]
          simp [BTm.den, Tm.i, Tm.s, Tm.den, env, vInt, vBool, vStr, exI, SW.den, SV.den, Cell.den, densP, Piece.den, denV, denT, rowCells_mgk, hL] <;> omega
    · have hlt : ¬ 32 * (j : Int) < NI := by simpa [BTm.den, Tm.i, Tm.s, Tm.den, env, vInt, vBool, vStr, exI, hN1, hN2] using hlt
      obtain rfl : j = J := by omega
      refine ⟨rfl, ?_⟩
      simp [BTm.den, Tm.i, Tm.s, Tm.den, env, vInt, vBool, vStr, exI, SW.den, SV.den, Cell.den, densP, Piece.den, denV, denT, rowCells_mgk]
/-- make.Int gives a number of at most so many bits. -/
theorem mint_given [Outer] (Lv : Value) (hL : fix Lv = Lv) (tv : Nat → Int) (ht : Tape Outer.r Lv tv) (bits : Nat) (hb : 1 ≤ bits ∧ bits ≤ 1024) (k0 : Nat) (hk : k0 + 67 ≤ 1152921504606846976) :
    ∃ (z : Int) (k' : Nat), z.natAbs < 2 ^ bits ∧ k0 ≤ k' ∧ k' ≤ k0 + 67 ∧ ∀ b, Given Try.prog 114 #[.pointer (some ⟨b, 0, none⟩), .int .i64 ((bits : Nat) : Int)] b Outer.r Lv k0 k' (.agg (ivZ z)) := by
  obtain ⟨x, hx, g1⟩ := ht.next1 k0 ((bits : Int) + 1) (by omega) (by omega)
  obtain ⟨B, hB⟩ : ∃ B : Int, B = ((bits : Nat) : Int) := ⟨_, rfl⟩
  obtain ⟨p, hp, g2⟩ := ht.pick1 [0, 1, 5, 20, 31, 32, 33, 64, 65, 100, 200, 400, B, B, x] 15 rfl (by omega) (k0 + 1) (by omega)
  rw [← hB] at g1 hx ⊢
  have hp0 : 0 ≤ p := by
    simp only [List.mem_cons, List.not_mem_nil, or_false] at hp
    omega
  obtain ⟨P1, hP1⟩ : ∃ P1, (if B < p then B else p) = P1 := ⟨_, rfl⟩
  obtain ⟨NI, hN2⟩ : ∃ NI, (if 1024 < P1 then 1024 else P1) = NI := ⟨_, rfl⟩
  have hPB : 0 ≤ P1 ∧ P1 ≤ B := by rw [← hP1]; split <;> omega
  have hNB : 0 ≤ NI ∧ NI ≤ B ∧ NI ≤ 1024 := by rw [← hN2]; split <;> omega
  obtain ⟨N, hN⟩ : ∃ N : Nat, NI = ((N : Nat) : Int) := ⟨NI.toNat, by omega⟩
  obtain ⟨J, hJ⟩ : ∃ J, J = (N + 31) / 32 := ⟨_, rfl⟩
  have hloop := mint_loop Lv hL tv ht k0 (k0 + 1) (k0 + 1 + 1) N x B p P1 NI (by omega) hP1 hN2 hN (by omega)
  rw [← hJ] at hloop
  have hlt := magT_lt tv (k0 + 1 + 1) N J (by omega)
  obtain ⟨M, hM⟩ : ∃ M, M = magT tv (k0 + 1 + 1) N J := ⟨_, rfl⟩
  rw [← hM] at hloop hlt
  have hMb : M < 2 ^ bits := Nat.lt_of_lt_of_le hlt (Nat.pow_le_pow_right (by omega) (by omega))
  have hMp : M < pw 32 := by
    obtain ⟨K, hK, e⟩ := pw32_bits
    rw [e]; exact Nat.lt_of_lt_of_le hMb (Nat.pow_le_pow_right (by omega) (by omega))
  obtain ⟨y, hy, g3⟩ := ht.next1 (k0 + 1 + 1 + 2 * J) 3 (by omega) (by omega)
  have hsg := rsign_any false M hMp
  have hsz := vsgn_zero false M
  obtain ⟨s, hs⟩ : ∃ s, s = sgn (vz false M) := ⟨_, rfl⟩
  rw [← hs] at hsg hsz
  have main := given_of (k := k0) (rest := [.int .i64 B]) hL tmInt_ok (by kernel_rfl)
    (fun v k' => ∃ z : Int, v = .agg (ivZ z) ∧ z.natAbs < 2 ^ bits ∧ k0 ≤ k' ∧ k' ≤ k0 + 67) (by
      refine tree_ite ?_
      refine ev_fits (B + 1) (by simp [BTm.den, Tm.i, Tm.s, Tm.den, env, vInt, vBool, vStr, exI]) (rng_i64 _ (by omega)) ?_
      refine ev_turn [.int .i64 (x), .int .i64 (((k0 + 1 : Nat) : Int))] rfl rfl (fun β _ => Given.turns (fun b => #[.pointer (some ⟨b, 0, none⟩), .int .i64 (B + 1)]) (g1) (fun β => by simp [BTm.den, Tm.i, Tm.s, Tm.den, env, vInt, vBool, vStr, exI, SW.den, SV.den, Cell.den, densP, Piece.den, denV, hL]) (fun β => by simp [BTm.den, Tm.i, Tm.s, Tm.den, env, vInt, vBool, vStr, exI, SW.den, SV.den, Cell.den, densP, Piece.den, denV, hL]) (fun β => by simp [BTm.den, Tm.i, Tm.s, Tm.den, env, vInt, vBool, vStr, exI, SW.den, SV.den, Cell.den, densP, Piece.den, denV, hL]) (fun β => by simp [BTm.den, Tm.i, Tm.s, Tm.den, env, vInt, vBool, vStr, exI, SW.den, SV.den, Cell.den, densP, Piece.den, denV, hL]) β) ?_
      refine ev_turn [.int .i64 (p), .int .i64 (((k0 + 1 + 1 : Nat) : Int))] rfl rfl (fun β hβ => Given.turns2 (fun b g => #[.pointer (some ⟨b, 0, none⟩), .slice (some ⟨g, 0, none⟩) 15 15]) [.int .i64 0, .int .i64 1, .int .i64 5, .int .i64 20, .int .i64 31, .int .i64 32, .int .i64 33, .int .i64 64, .int .i64 65, .int .i64 100, .int .i64 200, .int .i64 400, .int .i64 B, .int .i64 B, .int .i64 x] (by decide) (fun b g => g2 b g 15 3) (fun β => by simp [BTm.den, Tm.i, Tm.s, Tm.den, env, vInt, vBool, vStr, exI, SW.den, SV.den, Cell.den, densP, Piece.den, denV, hL]) (fun β => by simp [BTm.den, Tm.i, Tm.s, Tm.den, env, vInt, vBool, vStr, exI, SW.den, SV.den, Cell.den, densP, Piece.den, denV, hL]) (fun β => by simp [BTm.den, Tm.i, Tm.s, Tm.den, env, vInt, vBool, vStr, exI, SW.den, SV.den, Cell.den, densP, Piece.den, denV, hL]) (fun β => by simp [BTm.den, Tm.i, Tm.s, Tm.den, env, vInt, vBool, vStr, exI, SW.den, SV.den, Cell.den, densP, Piece.den, denV, hL]) (fun β => by simp [BTm.den, Tm.i, Tm.s, Tm.den, env, vInt, vBool, vStr, exI, SW.den, SV.den, Cell.den, densP, Piece.den, denV, hL]) β hβ) ?_
      refine ev_loop [.int .i64 (J : Nat), Lv, .int .i64 (k0 + 1 + 1 + 2 * J : Nat), .bool false, .agg (mgk 32 M)] rfl rfl hloop ?_
      refine ev_turn [.int .i64 (y), .int .i64 (((k0 + 1 + 1 + 2 * J + 1 : Nat) : Int))] rfl rfl (fun β _ => Given.turns (fun b => #[.pointer (some ⟨b, 0, none⟩), .int .i64 (3)]) (g3) (fun β => by simp [BTm.den, Tm.i, Tm.s, Tm.den, env, vInt, vBool, vStr, exI, SW.den, SV.den, Cell.den, densP, Piece.den, denV, hL]) (fun β => by simp [BTm.den, Tm.i, Tm.s, Tm.den, env, vInt, vBool, vStr, exI, SW.den, SV.den, Cell.den, densP, Piece.den, denV, hL]) (fun β => by simp [BTm.den, Tm.i, Tm.s, Tm.den, env, vInt, vBool, vStr, exI, SW.den, SV.den, Cell.den, densP, Piece.den, denV, hL]) (fun β => by simp [BTm.den, Tm.i, Tm.s, Tm.den, env, vInt, vBool, vStr, exI, SW.den, SV.den, Cell.den, densP, Piece.den, denV, hL]) β) ?_
      refine ev_nil ⟨fun h => tree_leaf ?_, fun h => tree_leaf (ev_nil ?_)⟩
      · refine ev_call [.int .i64 s] rfl rfl (pure_gives (hsg)) (fun β => by simp [BTm.den, Tm.i, Tm.s, Tm.den, env, vInt, vBool, vStr, exI, SW.den, SV.den, Cell.den, densP, Piece.den, denV, rowCells_mgk, iv_list, rv_list, ivZ, rvZ, mgl_agg]) (fun β => by simp [BTm.den, Tm.i, Tm.s, Tm.den, env, vInt, vBool, vStr, exI, SW.den, SV.den, Cell.den, densP, Piece.den, denV, rowCells_mgk, iv_list, rv_list, ivZ, rvZ, mgl_agg]) ?_
        refine ev_nil ⟨.agg (ivZ (vz (!(s == 0)) M)), k0 + 1 + 1 + 2 * J + 1, ⟨_, rfl, by rw [vz_abs]; exact hMb, by omega, by omega⟩, fun β => ?_, _, rfl, fun β => by simp [BTm.den, Tm.i, Tm.s, Tm.den, env, vInt, vBool, vStr, exI, SW.den, SV.den, Cell.den, densP, Piece.den, denV, denT, hL]⟩
        have e : ivZ (vz (!(s == 0)) M) = iv (!(s == 0)) M := by
          unfold ivZ
          rw [vz_abs, vz_lt]
          by_cases h0 : M = 0
          · rw [show (s == 0) = true by simpa using hsz.2 h0]; rfl
          · rw [isz_false h0]; simp
        rw [e]
        simp [BTm.den, Tm.i, Tm.s, Tm.den, env, vInt, vBool, vStr, exI, SW.den, SV.den, Cell.den, densP, Piece.den, denV, denT, rowCells_mgk, iv_list]
      · refine ⟨.agg (ivZ (vz false M)), k0 + 1 + 1 + 2 * J + 1, ⟨_, rfl, by rw [vz_abs]; exact hMb, by omega, by omega⟩, fun β => ?_, _, rfl, fun β => by simp [BTm.den, Tm.i, Tm.s, Tm.den, env, vInt, vBool, vStr, exI, SW.den, SV.den, Cell.den, densP, Piece.den, denV, denT, hL]⟩
        have e : ivZ (vz false M) = iv false M := by
          unfold ivZ
          rw [vz_abs, vz_lt]; rfl
        rw [e]
        simp [BTm.den, Tm.i, Tm.s, Tm.den, env, vInt, vBool, vStr, exI, SW.den, SV.den, Cell.den, densP, Piece.den, denV, denT, rowCells_mgk, iv_list])
  obtain ⟨v, k', ⟨z, rfl, h1, h2, h3⟩, hg⟩ := main
  refine ⟨z, k', h1, h2, h3, fun b => ?_⟩
  have := hg b
  simpa [ptrW, intW, BTm.den, Tm.i, Tm.s, Tm.den, env, vInt, vBool, vStr, exI, SW.den, SV.den, Cell.den, densP, Piece.den, denV, denT, denT] using this
/-- make.Ratio gives a valid ratio of numbers of at most 200 bits. -/
theorem mratio_given [Outer] (Lv : Value) (hL : fix Lv = Lv) (tv : Nat → Int) (ht : Tape Outer.r Lv tv) (k0 : Nat) (hk : k0 + 136 ≤ 1152921504606846976) :
    ∃ (a c x y : Int) (k' : Nat), Qf 200 a c x y ∧ k0 ≤ k' ∧ k' ≤ k0 + 136 ∧ ∀ b, Given Try.prog 72 #[.pointer (some ⟨b, 0, none⟩)] b Outer.r Lv k0 k' (.agg (rvZ a c)) := by
  obtain ⟨x, hx, g1⟩ := ht.next1 k0 6 (by omega) (by omega)
  have main := given_of (k := k0) (rest := []) hL tmRatio_ok (by kernel_rfl)
    (fun v k' => ∃ a c x y : Int, v = .agg (rvZ a c) ∧ Qf 200 a c x y ∧ k0 ≤ k' ∧ k' ≤ k0 + 136) (by
      refine tree_ite ?_
      refine ev_turn [.int .i64 (x), .int .i64 (((k0 + 1 : Nat) : Int))] rfl rfl (fun β _ => Given.turns (fun b => #[.pointer (some ⟨b, 0, none⟩), .int .i64 (6)]) (g1) (fun β => by simp [BTm.den, Tm.i, Tm.s, Tm.den, env, vInt, vBool, vStr, exI, SW.den, SV.den, Cell.den, densP, Piece.den, denV, hL]) (fun β => by simp [BTm.den, Tm.i, Tm.s, Tm.den, env, vInt, vBool, vStr, exI, SW.den, SV.den, Cell.den, densP, Piece.den, denV, hL]) (fun β => by simp [BTm.den, Tm.i, Tm.s, Tm.den, env, vInt, vBool, vStr, exI, SW.den, SV.den, Cell.den, densP, Piece.den, denV, hL]) (fun β => by simp [BTm.den, Tm.i, Tm.s, Tm.den, env, vInt, vBool, vStr, exI, SW.den, SV.den, Cell.den, densP, Piece.den, denV, hL]) β) ?_
      refine ev_nil ⟨fun h => tree_ite ?_, fun h => tree_leaf ?_⟩
      · obtain ⟨z1, k1, hz1, hk1, hk1', i1⟩ := mint_given Lv hL tv ht 200 (by omega) (k0 + 1) (by omega)
        obtain ⟨z2, k2, hz2, hk2, hk2', i2⟩ := mint_given Lv hL tv ht 200 (by omega) k1 (by omega)
        have hp : ∀ {n : Nat}, n < 2 ^ 200 → n < pw 32 := fun {n} h => short480 (Nat.le_trans (bl_le h) (by omega))
        have hab := rabs_any (decide (z1 < 0)) z1.natAbs (hp hz1)
        obtain ⟨u, hu⟩ : ∃ u, u = vz false z1.natAbs := ⟨_, rfl⟩
        have hua : u.natAbs = z1.natAbs := by rw [hu, vz_abs]
        have hu0 : 0 ≤ u := by rw [hu]; unfold vz; simp
        rw [← hu] at hab
        have hsg := rsign_any (decide (u < 0)) u.natAbs (by rw [hua]; exact hp hz1)
        have hsz := vsgn_zero (decide (u < 0)) u.natAbs
        obtain ⟨s, hs⟩ : ∃ s, s = sgn (vz (decide (u < 0)) u.natAbs) := ⟨_, rfl⟩
        rw [← hs] at hsg hsz
        refine ev_turn [.bool (decide (z1 < 0)), .agg (mgk 32 (z1 : Int).natAbs), .int .i64 (((k1 : Nat) : Int))] rfl rfl (fun β _ => Given.turns (fun b => #[.pointer (some ⟨b, 0, none⟩), .int .i64 200]) (i1) (fun β => by simp [BTm.den, Tm.i, Tm.s, Tm.den, env, vInt, vBool, vStr, exI, SW.den, SV.den, Cell.den, densP, Piece.den, denV, hL]) (fun β => by simp [BTm.den, Tm.i, Tm.s, Tm.den, env, vInt, vBool, vStr, exI, SW.den, SV.den, Cell.den, densP, Piece.den, denV, hL]) (fun β => by simp [BTm.den, Tm.i, Tm.s, Tm.den, env, vInt, vBool, vStr, exI, SW.den, SV.den, Cell.den, densP, Piece.den, denV, hL]) (fun β => by simp [BTm.den, Tm.i, Tm.s, Tm.den, env, vInt, vBool, vStr, exI, SW.den, SV.den, Cell.den, densP, Piece.den, denV, hL, rowCells_mgk, iv_list, ivZ]) β) ?_
        refine ev_call [.bool (decide (u < 0)), .agg (mgk 32 (u : Int).natAbs)] rfl rfl (pure_gives (hab)) (fun β => by simp [BTm.den, Tm.i, Tm.s, Tm.den, env, vInt, vBool, vStr, exI, SW.den, SV.den, Cell.den, densP, Piece.den, denV, rowCells_mgk, iv_list, rv_list, ivZ, rvZ, mgl_agg]) (fun β => by simp [BTm.den, Tm.i, Tm.s, Tm.den, env, vInt, vBool, vStr, exI, SW.den, SV.den, Cell.den, densP, Piece.den, denV, rowCells_mgk, iv_list, rv_list, ivZ, rvZ, mgl_agg]) ?_
        refine ev_call [.int .i64 s] rfl rfl (pure_gives (hsg)) (fun β => by simp [BTm.den, Tm.i, Tm.s, Tm.den, env, vInt, vBool, vStr, exI, SW.den, SV.den, Cell.den, densP, Piece.den, denV, rowCells_mgk, iv_list, rv_list, ivZ, rvZ, mgl_agg]) (fun β => by simp [BTm.den, Tm.i, Tm.s, Tm.den, env, vInt, vBool, vStr, exI, SW.den, SV.den, Cell.den, densP, Piece.den, denV, rowCells_mgk, iv_list, rv_list, ivZ, rvZ, mgl_agg]) ?_
        refine ev_nil ⟨fun h => tree_leaf ?_, fun h => tree_leaf ?_⟩
        · have o1 := rfromInt_any 1 (by omega)
          obtain ⟨a, c, he, hq⟩ := q_make z2 1 200 (by omega) hz2 (by decide) (by omega)
          have hm := (make_Z z2 1 (hp hz2) one_lt).2
          rw [he] at hm
          refine ev_call [.bool (decide (1 < 0)), .agg (mgk 32 (1 : Int).natAbs)] rfl rfl (pure_gives o1) (fun β => by simp [BTm.den, Tm.i, Tm.s, Tm.den, env, vInt, vBool, vStr, exI, SW.den, SV.den, Cell.den, densP, Piece.den, denV, denT]) (fun β => by simp [BTm.den, Tm.i, Tm.s, Tm.den, env, vInt, vBool, vStr, exI, SW.den, SV.den, Cell.den, densP, Piece.den, denV, denT, rowCells_mgk, iv_list, ivZ]) ?_
          refine ev_turn [.bool (decide (z2 < 0)), .agg (mgk 32 (z2 : Int).natAbs), .int .i64 (((k2 : Nat) : Int))] rfl rfl (fun β _ => Given.turns (fun b => #[.pointer (some ⟨b, 0, none⟩), .int .i64 200]) (i2) (fun β => by simp [BTm.den, Tm.i, Tm.s, Tm.den, env, vInt, vBool, vStr, exI, SW.den, SV.den, Cell.den, densP, Piece.den, denV, hL]) (fun β => by simp [BTm.den, Tm.i, Tm.s, Tm.den, env, vInt, vBool, vStr, exI, SW.den, SV.den, Cell.den, densP, Piece.den, denV, hL]) (fun β => by simp [BTm.den, Tm.i, Tm.s, Tm.den, env, vInt, vBool, vStr, exI, SW.den, SV.den, Cell.den, densP, Piece.den, denV, hL]) (fun β => by simp [BTm.den, Tm.i, Tm.s, Tm.den, env, vInt, vBool, vStr, exI, SW.den, SV.den, Cell.den, densP, Piece.den, denV, hL, rowCells_mgk, iv_list, ivZ]) β) ?_
          refine ev_call [.bool (decide (a < 0)), .agg (mgk 32 (a : Int).natAbs), .bool (decide (c < 0)), .agg (mgk 32 (c : Int).natAbs), .int .i64 0] rfl rfl (pure_gives (hm)) (fun β => by simp [BTm.den, Tm.i, Tm.s, Tm.den, env, vInt, vBool, vStr, exI, SW.den, SV.den, Cell.den, densP, Piece.den, denV, rowCells_mgk, iv_list, rv_list, ivZ, rvZ, mgl_agg]) (fun β => by simp [BTm.den, Tm.i, Tm.s, Tm.den, env, vInt, vBool, vStr, exI, SW.den, SV.den, Cell.den, densP, Piece.den, denV, rowCells_mgk, iv_list, rv_list, ivZ, rvZ, mgl_agg]) ?_
          refine ev_nil ⟨.agg (rvZ a c), k2, ⟨a, c, _, _, rfl, hq, by omega, by omega⟩, fun β => by simp [BTm.den, Tm.i, Tm.s, Tm.den, env, vInt, vBool, vStr, exI, SW.den, SV.den, Cell.den, densP, Piece.den, denV, rowCells_mgk, iv_list, rv_list, ivZ, rvZ, mgl_agg], _, rfl, fun β => by simp [BTm.den, Tm.i, Tm.s, Tm.den, env, vInt, vBool, vStr, exI, SW.den, SV.den, Cell.den, densP, Piece.den, denV, denT, hL]⟩
        · have h : s ≠ 0 := by simpa [BTm.den, Tm.i, Tm.s, Tm.den, env, vInt, vBool, vStr, exI] using h
          have hu1 : u ≠ 0 := fun e => h (hsz.2 (by rw [e]; rfl))
          obtain ⟨a, c, he, hq⟩ := q_make z2 u 200 hu1 hz2 (by rw [hua]; exact hz1) (by omega)
          have hm := (make_Z z2 u (hp hz2) (by rw [hua]; exact hp hz1)).2
          rw [he] at hm
          refine ev_turn [.bool (decide (z2 < 0)), .agg (mgk 32 (z2 : Int).natAbs), .int .i64 (((k2 : Nat) : Int))] rfl rfl (fun β _ => Given.turns (fun b => #[.pointer (some ⟨b, 0, none⟩), .int .i64 200]) (i2) (fun β => by simp [BTm.den, Tm.i, Tm.s, Tm.den, env, vInt, vBool, vStr, exI, SW.den, SV.den, Cell.den, densP, Piece.den, denV, hL]) (fun β => by simp [BTm.den, Tm.i, Tm.s, Tm.den, env, vInt, vBool, vStr, exI, SW.den, SV.den, Cell.den, densP, Piece.den, denV, hL]) (fun β => by simp [BTm.den, Tm.i, Tm.s, Tm.den, env, vInt, vBool, vStr, exI, SW.den, SV.den, Cell.den, densP, Piece.den, denV, hL]) (fun β => by simp [BTm.den, Tm.i, Tm.s, Tm.den, env, vInt, vBool, vStr, exI, SW.den, SV.den, Cell.den, densP, Piece.den, denV, hL, rowCells_mgk, iv_list, ivZ]) β) ?_
          refine ev_call [.bool (decide (a < 0)), .agg (mgk 32 (a : Int).natAbs), .bool (decide (c < 0)), .agg (mgk 32 (c : Int).natAbs), .int .i64 0] rfl rfl (pure_gives (hm)) (fun β => by simp [BTm.den, Tm.i, Tm.s, Tm.den, env, vInt, vBool, vStr, exI, SW.den, SV.den, Cell.den, densP, Piece.den, denV, rowCells_mgk, iv_list, rv_list, ivZ, rvZ, mgl_agg]) (fun β => by simp [BTm.den, Tm.i, Tm.s, Tm.den, env, vInt, vBool, vStr, exI, SW.den, SV.den, Cell.den, densP, Piece.den, denV, rowCells_mgk, iv_list, rv_list, ivZ, rvZ, mgl_agg]) ?_
          refine ev_nil ⟨.agg (rvZ a c), k2, ⟨a, c, _, _, rfl, hq, by omega, by omega⟩, fun β => by simp [BTm.den, Tm.i, Tm.s, Tm.den, env, vInt, vBool, vStr, exI, SW.den, SV.den, Cell.den, densP, Piece.den, denV, rowCells_mgk, iv_list, rv_list, ivZ, rvZ, mgl_agg], _, rfl, fun β => by simp [BTm.den, Tm.i, Tm.s, Tm.den, env, vInt, vBool, vStr, exI, SW.den, SV.den, Cell.den, densP, Piece.den, denV, denT, hL]⟩
      · obtain ⟨z1, hz1, g2⟩ := ht.next1 (k0 + 1) 601 (by omega) (by omega)
        obtain ⟨p1, hp1, f1⟩ := ht.pick1 [1, 1, 1, 1000, 1000003] 5 rfl (by omega) (k0 + 1 + 1) (by omega)
        obtain ⟨d1, hd1, f2⟩ := ht.pick1 [1, 1, 2, 3, 4, 7, 10, 12, 100, 365, 366, 1000, 1000000] 13 rfl (by omega) (k0 + 1 + 1 + 1) (by omega)
        have hx1 : -400001200 ≤ (-200 + z1) * p1 ∧ (-200 + z1) * p1 ≤ 400001200 := by
          simp only [List.mem_cons, List.not_mem_nil, or_false] at hp1
          rcases hp1 with h | h | h | h | h <;> rw [h] <;> omega
        have hy1 : 1 ≤ d1 ∧ d1 ≤ 1000000 := by
          simp only [List.mem_cons, List.not_mem_nil, or_false] at hd1
          omega
        obtain ⟨a1, b1, o1, q1⟩ := of_made ((-200 + z1) * p1) d1 40 (by omega) (by omega) (by omega) (by omega) (by omega) (by omega)
        refine ev_turn [.int .i64 (z1), .int .i64 (((k0 + 1 + 1 : Nat) : Int))] rfl rfl (fun β _ => Given.turns (fun b => #[.pointer (some ⟨b, 0, none⟩), .int .i64 (601)]) (g2) (fun β => by simp [BTm.den, Tm.i, Tm.s, Tm.den, env, vInt, vBool, vStr, exI, SW.den, SV.den, Cell.den, densP, Piece.den, denV, hL]) (fun β => by simp [BTm.den, Tm.i, Tm.s, Tm.den, env, vInt, vBool, vStr, exI, SW.den, SV.den, Cell.den, densP, Piece.den, denV, hL]) (fun β => by simp [BTm.den, Tm.i, Tm.s, Tm.den, env, vInt, vBool, vStr, exI, SW.den, SV.den, Cell.den, densP, Piece.den, denV, hL]) (fun β => by simp [BTm.den, Tm.i, Tm.s, Tm.den, env, vInt, vBool, vStr, exI, SW.den, SV.den, Cell.den, densP, Piece.den, denV, hL]) β) ?_
        refine ev_fits (-200 + z1) (by simp [BTm.den, Tm.i, Tm.s, Tm.den, env, vInt, vBool, vStr, exI]) (rng_i64 _ (by omega)) ?_
        refine ev_turn [.int .i64 (p1), .int .i64 (((k0 + 1 + 1 + 1 : Nat) : Int))] rfl rfl (fun β hβ => Given.turns2 (fun b g => #[.pointer (some ⟨b, 0, none⟩), .slice (some ⟨g, 0, none⟩) 5 5]) [.int .i64 1, .int .i64 1, .int .i64 1, .int .i64 1000, .int .i64 1000003] (by decide) (fun b g => f1 b g 5 3) (fun β => by simp [BTm.den, Tm.i, Tm.s, Tm.den, env, vInt, vBool, vStr, exI, SW.den, SV.den, Cell.den, densP, Piece.den, denV, hL]) (fun β => by simp [BTm.den, Tm.i, Tm.s, Tm.den, env, vInt, vBool, vStr, exI, SW.den, SV.den, Cell.den, densP, Piece.den, denV, hL]) (fun β => by simp [BTm.den, Tm.i, Tm.s, Tm.den, env, vInt, vBool, vStr, exI, SW.den, SV.den, Cell.den, densP, Piece.den, denV, hL]) (fun β => by simp [BTm.den, Tm.i, Tm.s, Tm.den, env, vInt, vBool, vStr, exI, SW.den, SV.den, Cell.den, densP, Piece.den, denV, hL]) (fun β => by simp [BTm.den, Tm.i, Tm.s, Tm.den, env, vInt, vBool, vStr, exI, SW.den, SV.den, Cell.den, densP, Piece.den, denV, hL]) β hβ) ?_
        refine ev_fits ((-200 + z1) * p1) (by simp [BTm.den, Tm.i, Tm.s, Tm.den, env, vInt, vBool, vStr, exI]) (rng_i64 _ (by omega)) ?_
        refine ev_turn [.int .i64 (d1), .int .i64 (((k0 + 1 + 1 + 1 + 1 : Nat) : Int))] rfl rfl (fun β hβ => Given.turns2 (fun b g => #[.pointer (some ⟨b, 0, none⟩), .slice (some ⟨g, 0, none⟩) 13 13]) [.int .i64 1, .int .i64 1, .int .i64 2, .int .i64 3, .int .i64 4, .int .i64 7, .int .i64 10, .int .i64 12, .int .i64 100, .int .i64 365, .int .i64 366, .int .i64 1000, .int .i64 1000000] (by decide) (fun b g => f2 b g 13 3) (fun β => by simp [BTm.den, Tm.i, Tm.s, Tm.den, env, vInt, vBool, vStr, exI, SW.den, SV.den, Cell.den, densP, Piece.den, denV, hL]) (fun β => by simp [BTm.den, Tm.i, Tm.s, Tm.den, env, vInt, vBool, vStr, exI, SW.den, SV.den, Cell.den, densP, Piece.den, denV, hL]) (fun β => by simp [BTm.den, Tm.i, Tm.s, Tm.den, env, vInt, vBool, vStr, exI, SW.den, SV.den, Cell.den, densP, Piece.den, denV, hL]) (fun β => by simp [BTm.den, Tm.i, Tm.s, Tm.den, env, vInt, vBool, vStr, exI, SW.den, SV.den, Cell.den, densP, Piece.den, denV, hL]) (fun β => by simp [BTm.den, Tm.i, Tm.s, Tm.den, env, vInt, vBool, vStr, exI, SW.den, SV.den, Cell.den, densP, Piece.den, denV, hL]) β hβ) ?_
        refine ev_call [.bool (decide (a1 < 0)), .agg (mgk 32 (a1 : Int).natAbs), .bool (decide (b1 < 0)), .agg (mgk 32 (b1 : Int).natAbs)] rfl rfl (pure_gives (o1)) (fun β => by simp [BTm.den, Tm.i, Tm.s, Tm.den, env, vInt, vBool, vStr, exI, SW.den, SV.den, Cell.den, densP, Piece.den, denV, rowCells_mgk, iv_list, rv_list, ivZ, rvZ, mgl_agg]) (fun β => by simp [BTm.den, Tm.i, Tm.s, Tm.den, env, vInt, vBool, vStr, exI, SW.den, SV.den, Cell.den, densP, Piece.den, denV, rowCells_mgk, iv_list, rv_list, ivZ, rvZ, mgl_agg]) ?_
        refine ev_nil ⟨.agg (rvZ a1 b1), k0 + 1 + 1 + 1 + 1, ⟨a1, b1, _, _, rfl, q1.up (by omega), by omega, by omega⟩, fun β => by simp [BTm.den, Tm.i, Tm.s, Tm.den, env, vInt, vBool, vStr, exI, SW.den, SV.den, Cell.den, densP, Piece.den, denV, rowCells_mgk, iv_list, rv_list, ivZ, rvZ, mgl_agg], _, rfl, fun β => by simp [BTm.den, Tm.i, Tm.s, Tm.den, env, vInt, vBool, vStr, exI, SW.den, SV.den, Cell.den, densP, Piece.den, denV, denT, hL]⟩)
  obtain ⟨v, k', ⟨a, c, x, y, rfl, h1, h2, h3⟩, hg⟩ := main
  refine ⟨a, c, x, y, k', h1, h2, h3, fun b => ?_⟩
  have := hg b
  simpa [ptrW, BTm.den, Tm.i, Tm.s, Tm.den, env, vInt, vBool, vStr, exI, SW.den, SV.den, Cell.den, densP, Piece.den, denV, denT, denT] using this
end Go.Proofs.Ytfdlgeomaballaa
end
section
/- RatioFloors: true for every tape. -/
namespace Go.Proofs.Ytfdlgeomaballaa
open Go.RowKit Go.Proofs.Ytfdlgeomaballaa.Sx
set_option linter.unusedSimpArgs false
set_option linter.unusedVariables false

theorem Qf.own {n : Nat} {a b x y : Int} (h : Qf n a b x y) : Qf n a b a b := ⟨h.pos, h.co, by have := h.pos; omega, rfl, h.la, h.lb⟩
theorem qf_one : Qf 1 1 1 1 1 := ⟨by omega, by decide, by omega, rfl, by decide, by decide⟩
set_option maxHeartbeats 4000000 in
theorem rfloors_any [Outer] (Lv : Value) (hL : fix Lv = Lv) (hs : Slc Outer.r Lv) (w : World) (hro : ∀ x ∈ Outer.r, w.heap[x.1]? = some x.2) :
    Calls Try.prog 11 #[Lv] w fun e w' => e = .returned (.bool true) ∧ Below w.heap.size w w' := by
  obtain ⟨tv, ht⟩ := slc_tape hs
  obtain ⟨a, c, x, y, k, hq, hk, hk', g1⟩ := mratio_given Lv hL tv ht 0 (by omega)
  have hq' := hq.own
  have hc := hq.pos
  have gf := (floor_rat (decide (a < 0)) (decide (c < 0)) a.natAbs c.natAbs (hq.lta (by omega)) (hq.ltb (by omega))).1
  unfold floorR at gf
  rw [hq.vld (by omega), if_pos (show true = true from rfl), vz_self, vz_self] at gf
  have h1 : a / c * c ≤ a := Int.ediv_mul_le a (by omega)
  have h2 : a < (a / c + 1) * c := Int.lt_ediv_add_one_mul_self a hc
  have h3 : (a / c).natAbs ≤ a.natAbs := Int.natAbs_ediv_le_natAbs a c
  obtain ⟨q, hqq⟩ : ∃ q, q = a / c := ⟨_, rfl⟩
  rw [← hqq] at gf h1 h2 h3
  have hq2 : q.natAbs < 2 ^ 200 := Nat.lt_of_le_of_lt h3 hq.la
  obtain ⟨l1, l2, hle, hl⟩ := q_make q 1 200 (by omega) hq2 (by decide) (by omega)
  have gm := (make_Z q 1 (short480 (Nat.le_trans (bl_le hq2) (by omega))) one_lt).1
  rw [hle] at gm
  have go := rfromInt_any 1 (by omega)
  have gw := (whole_rat 1 (by omega)).1
  obtain ⟨u1, u2, ⟨ga, -⟩, hu⟩ := q_add hl qf_one 202 (by omega) (by omega)
  have c1 := q_cmp hl hq' (by omega) hc (by omega) (by omega)
  have c2 := q_cmp hq' hu hc (by omega) (by omega) (by omega)
  have e1 : cmpZ (q * c) (a * 1) ≤ 0 := by
    unfold cmpZ; split <;> (try split) <;> omega
  have e2 : cmpZ (a * (1 * 1)) ((q * 1 + 1 * 1) * c) = -1 := cmpZ_lt (by
    have : (q * 1 + 1 * 1) * c = (q + 1) * c := by rw [Int.mul_one, Int.mul_one]
    omega)
  rw [e2] at c2
  obtain ⟨v, hv⟩ : ∃ v, v = cmpZ (q * c) (a * 1) := ⟨_, rfl⟩
  rw [← hv] at c1 e1
  have kk := known_rat
  have main : tRFloors.den Try.prog (fun ρ' ret => ∀ β, ret.val.den (env ρ') β = .bool true) [Lv] := by
    refine tree_ite ?_
    refine ev_turn [.bool (decide (a < 0)), .agg (mgk 32 (a : Int).natAbs), .bool (decide (c < 0)), .agg (mgk 32 (c : Int).natAbs), .int .i64 (((k : Nat) : Int))] rfl rfl (fun β _ => Given.turns (fun b => #[.pointer (some ⟨b, 0, none⟩)]) (g1) (fun β => by simp [BTm.den, Tm.i, Tm.s, Tm.den, env, vInt, vBool, vStr, exI, SW.den, SV.den, Cell.den, densP, Piece.den, denV, hL]) (fun β => by simp [BTm.den, Tm.i, Tm.s, Tm.den, env, vInt, vBool, vStr, exI, SW.den, SV.den, Cell.den, densP, Piece.den, denV, hL]) (fun β => by simp [BTm.den, Tm.i, Tm.s, Tm.den, env, vInt, vBool, vStr, exI, SW.den, SV.den, Cell.den, densP, Piece.den, denV, hL]) (fun β => by simp [BTm.den, Tm.i, Tm.s, Tm.den, env, vInt, vBool, vStr, exI, SW.den, SV.den, Cell.den, densP, Piece.den, denV, hL, rowCells_mgk, rv_list, rvZ]) β) ?_
    refine ev_call [.bool (decide (q < 0)), .agg (mgk 32 (q : Int).natAbs), .int .i64 0] rfl rfl (pure_gives (gf)) (fun β => by simp [BTm.den, Tm.i, Tm.s, Tm.den, env, vInt, vBool, vStr, exI, SW.den, SV.den, Cell.den, densP, Piece.den, denV, rowCells_mgk, iv_list, rv_list, ivZ, rvZ, mgl_agg]) (fun β => by simp [BTm.den, Tm.i, Tm.s, Tm.den, env, vInt, vBool, vStr, exI, SW.den, SV.den, Cell.den, densP, Piece.den, denV, rowCells_mgk, iv_list, rv_list, ivZ, rvZ, mgl_agg]) ?_
    refine ev_call [.bool (decide (1 < 0)), .agg (mgk 32 (1 : Int).natAbs)] rfl rfl (pure_gives go) (fun β => by simp [BTm.den, Tm.i, Tm.s, Tm.den, env, vInt, vBool, vStr, exI, SW.den, SV.den, Cell.den, densP, Piece.den, denV, denT]) (fun β => by simp [BTm.den, Tm.i, Tm.s, Tm.den, env, vInt, vBool, vStr, exI, SW.den, SV.den, Cell.den, densP, Piece.den, denV, denT, rowCells_mgk, iv_list, ivZ]) ?_
    refine ev_call [.bool (decide (l1 < 0)), .agg (mgk 32 (l1 : Int).natAbs), .bool (decide (l2 < 0)), .agg (mgk 32 (l2 : Int).natAbs), .int .i64 0] rfl rfl (pure_gives (gm)) (fun β => by simp [BTm.den, Tm.i, Tm.s, Tm.den, env, vInt, vBool, vStr, exI, SW.den, SV.den, Cell.den, densP, Piece.den, denV, rowCells_mgk, iv_list, rv_list, ivZ, rvZ, mgl_agg]) (fun β => by simp [BTm.den, Tm.i, Tm.s, Tm.den, env, vInt, vBool, vStr, exI, SW.den, SV.den, Cell.den, densP, Piece.den, denV, rowCells_mgk, iv_list, rv_list, ivZ, rvZ, mgl_agg]) ?_
    refine ev_call [.bool (decide (1 < 0)), .agg (mgk 32 (1 : Int).natAbs), .bool (decide (1 < 0)), .agg (mgk 32 (1 : Int).natAbs)] rfl rfl (pure_gives gw) (fun β => by simp [BTm.den, Tm.i, Tm.s, Tm.den, env, vInt, vBool, vStr, exI, SW.den, SV.den, Cell.den, densP, Piece.den, denV, denT]) (fun β => by simp [BTm.den, Tm.i, Tm.s, Tm.den, env, vInt, vBool, vStr, exI, SW.den, SV.den, Cell.den, densP, Piece.den, denV, denT, rowCells_mgk, rv_list, rvZ]) ?_
    refine ev_call [.bool (decide (u1 < 0)), .agg (mgk 32 (u1 : Int).natAbs), .bool (decide (u2 < 0)), .agg (mgk 32 (u2 : Int).natAbs), .int .i64 0] rfl rfl (pure_gives (ga)) (fun β => by simp [BTm.den, Tm.i, Tm.s, Tm.den, env, vInt, vBool, vStr, exI, SW.den, SV.den, Cell.den, densP, Piece.den, denV, rowCells_mgk, iv_list, rv_list, ivZ, rvZ, mgl_agg]) (fun β => by simp [BTm.den, Tm.i, Tm.s, Tm.den, env, vInt, vBool, vStr, exI, SW.den, SV.den, Cell.den, densP, Piece.den, denV, rowCells_mgk, iv_list, rv_list, ivZ, rvZ, mgl_agg]) ?_
    refine ev_call [.int .i64 v, .int .i64 0] rfl rfl (pure_gives (c1)) (fun β => by simp [BTm.den, Tm.i, Tm.s, Tm.den, env, vInt, vBool, vStr, exI, SW.den, SV.den, Cell.den, densP, Piece.den, denV, rowCells_mgk, iv_list, rv_list, ivZ, rvZ, mgl_agg]) (fun β => by simp [BTm.den, Tm.i, Tm.s, Tm.den, env, vInt, vBool, vStr, exI, SW.den, SV.den, Cell.den, densP, Piece.den, denV, rowCells_mgk, iv_list, rv_list, ivZ, rvZ, mgl_agg]) ?_
    refine ev_call [.int .i64 (-1), .int .i64 0] rfl rfl (pure_gives (c2)) (fun β => by simp [BTm.den, Tm.i, Tm.s, Tm.den, env, vInt, vBool, vStr, exI, SW.den, SV.den, Cell.den, densP, Piece.den, denV, rowCells_mgk, iv_list, rv_list, ivZ, rvZ, mgl_agg]) (fun β => by simp [BTm.den, Tm.i, Tm.s, Tm.den, env, vInt, vBool, vStr, exI, SW.den, SV.den, Cell.den, densP, Piece.den, denV, rowCells_mgk, iv_list, rv_list, ivZ, rvZ, mgl_agg]) ?_
    refine ev_call [.bool true] rfl rfl (pure_gives (kk)) (fun β => by simp [BTm.den, Tm.i, Tm.s, Tm.den, env, vInt, vBool, vStr, exI, SW.den, SV.den, Cell.den, densP, Piece.den, denV, rowCells_mgk, iv_list, rv_list, ivZ, rvZ, mgl_agg]) (fun β => by simp [BTm.den, Tm.i, Tm.s, Tm.den, env, vInt, vBool, vStr, exI, SW.den, SV.den, Cell.den, densP, Piece.den, denV, rowCells_mgk, iv_list, rv_list, ivZ, rvZ, mgl_agg]) ?_
    refine ev_nil (way_true (by simp [BTm.den, Tm.i, Tm.s, Tm.den, env, vInt, vBool, vStr, exI]) (tree_ite ?_))
    refine ev_nil (way_true (by simp [BTm.den, Tm.i, Tm.s, Tm.den, env, vInt, vBool, vStr, exI]) (tree_ite ?_))
    refine ev_nil (way_true (by simp [BTm.den, Tm.i, Tm.s, Tm.den, env, vInt, vBool, vStr, exI]) (tree_ite ?_))
    refine ev_nil (way_true (by simp [BTm.den, Tm.i, Tm.s, Tm.den, env, vInt, vBool, vStr, exI]) (tree_ite ?_))
    refine ev_nil (way_false (by simp [BTm.den, Tm.i, Tm.s, Tm.den, env, vInt, vBool, vStr, exI]; omega) (tree_leaf ?_))
    refine ev_nil fun β => ?_
    simp [BTm.den, Tm.i, Tm.s, Tm.den, env, vInt, vBool, vStr, exI, SW.den, SV.den, Cell.den, densP, Piece.den, denV, rowCells_mgk, iv_list, rv_list, ivZ, rvZ, mgl_agg]
  have h := reads_of plain [Lv] tRFloors_ok (by kernel_rfl) _ main w hro
  simpa [anyW, BTm.den, Tm.i, Tm.s, Tm.den, env, vInt, vBool, vStr, exI, SW.den, SV.den, Cell.den, densP, Piece.den, denV, denT, denT, hL] using h
end Go.Proofs.Ytfdlgeomaballaa
end
