/- The walk of known, the examples that every statement asks. -/
import Derived.Test.YtfdlgeomaballaaWg
namespace Go.Proofs.Ytfdlgeomaballaa
open Go.RowKit

set_option maxRecDepth 100000 in
set_option maxHeartbeats 1000000 in
theorem parse_007 : Gives Try.prog 34 #[.string ⟨#[48, 48, 55]⟩] (.tuple #[.agg (ivZ 0), .int .i64 12]) := by
  intro w
  have hS := St.start w
  have hx : ((ByteArray.mk #[48, 48, 55]).extract 0 1).toList = [48] := by kernel_rfl
  have hx2 : (([48] : List UInt8) == [45]) = false := by decide
  go_enter Try.func34, Try.ntmps34
  go_wp2_with (first | (refine L_alloc_agg hS rfl rfl ?_; refine ⟨_, zero25, ?_⟩; clear hS; intro _ _ hS) | go_in | (refine L_build rfl rfl ?_; refine ⟨_, built25, ?_⟩) | (refine L_store (t := 25) hS rfl rfl ?_; refine ⟨_, _, _, _, _, (.head), run_store_row hS _ _ _ rfl _ rfl _ _ rfl _ (.head) (size25_iv _ _) (iv_sizes _ _ _ _) (oneCells_iv _ _), ?_⟩; clear hS; intro _ hS))
  (try simp only [Exit.inBlock, Exit.then]); refine bodyPost_ret (res_cell_tmp rfl _ _ _ (run_loadRow hS _ _ _ _ (.inl (.head _)) _ Try.underlying25 rfl (size25_iv _ _)) rfl _ rfl) rfl ⟨?_, hS.below⟩
  rw [← ivZ_zero]; rfl

set_option maxHeartbeats 1000000 in
theorem format_zero (s : Bool) : Gives Try.prog 36 #[.agg (iv s 0)] (.string ⟨#[48]⟩) := by
  intro w
  have hS := St.start w
  have hz := isz_true (rfl : (0 : Nat) = 0)
  go_enter Try.func36, Try.ntmps36
  go_wp2_with (first | (refine L_box_agg hS rfl rfl ?_; refine ⟨_, rfl, ?_⟩; clear hS; intro _ _ hS) | (refine L_load (t := 23) rfl rfl ?_; refine ⟨_, run_load_mid hS _ _ rfl _ _ rfl _ _ (.inl (.head _)) _ Try.underlying23 rfl (mgk 32 _) (size23_mg _) (fun k _ => iv_mag _ _ k), ?_⟩) | (go_at_call 88; (with_reducible refine Gives.use (isZero _ (pw_pos _)) hS ?_); clear hS; intro _ hS))
  go_ret
  exact ⟨rfl, hS.below⟩

theorem small_abs (z : Int) (h : z.natAbs < 4294967296) : z.natAbs < pw 32 := Nat.lt_of_lt_of_le (by rw [pw_one]; exact h) (pw_le (show 1 ≤ 32 by omega))
theorem divMod_small (x y : Int) (hx : x.natAbs < 4294967296) (hy : y.natAbs < 4294967296) (h0 : 0 < y.natAbs) :
    Gives Try.prog 19 #[.agg (ivZ x), .agg (ivZ y)] (.tuple #[.agg (ivZ (x / y)), .agg (ivZ (x % y)), .int .i64 0]) := by
  have := divMod_of (decide (x < 0)) (decide (y < 0)) x.natAbs y.natAbs (small_abs x hx) (small_abs y hy) h0 (divide_one _ _ (small_abs x hx) h0 hy)
  rwa [vz_self, vz_self] at this
theorem gcd_small (x y : Int) (hx : x.natAbs < 4294967296) (hy : y.natAbs < 4294967296) :
    Gives Try.prog 21 #[.agg (ivZ x), .agg (ivZ y)] (.agg (ivZ ((Nat.gcd x.natAbs y.natAbs : Nat) : Int))) :=
  gcd_of 4294967296 _ _ _ _ (small_abs x hx) (small_abs y hy) hy (fun a b ha _ h0 hb => divide_one a b ha h0 hb)
theorem toInt_small (x : Int) (hx : x.natAbs < 4294967296) : Gives Try.prog 25 #[.agg (ivZ x)] (.tuple #[.int .i64 x, .bool true]) := by
  have := toInt_any (decide (x < 0)) x.natAbs (small_abs x hx)
  unfold toI at this
  rwa [vz_self, if_pos (by omega)] at this

set_option maxRecDepth 100000 in
set_option maxHeartbeats 2000000 in
theorem known_true : Gives Try.prog 27 #[] (.bool true) := by
  intro w
  have hS := St.start w
  have F7 := fromInt_any (-7) (by omega)
  have F3 := fromInt_any 3 (by omega)
  have F12 := fromInt_any (-12) (by omega)
  have F18 := fromInt_any 18 (by omega)
  have F6 := fromInt_any 6 (by omega)
  have F0 := fromInt_any 0 (by omega)
  have GD : Gives Try.prog 19 #[.agg (ivZ (-7)), .agg (ivZ 3)] (.tuple #[.agg (ivZ (-3)), .agg (ivZ 2), .int .i64 0]) := divMod_small (-7) 3 (by decide) (by decide) (by decide)
  have GG : Gives Try.prog 21 #[.agg (ivZ (-12)), .agg (ivZ 18)] (.agg (ivZ 6)) := gcd_small (-12) 18 (by decide) (by decide)
  have T3 := toInt_small (-3) (by decide)
  have T2 := toInt_small 2 (by decide)
  have GN : Gives Try.prog 28 #[.agg (ivZ 0)] (.agg (ivZ 0)) := neg_any false 0 (pw_pos _)
  have GF : Gives Try.prog 36 #[.agg (ivZ 0)] (.string ⟨#[48]⟩) := format_zero false
  have GP := parse_007
  go_enter Try.func27, Try.ntmps27
  go_wp2_with (first | (refine L_alloc_agg hS rfl rfl ?_; refine ⟨_, zero25, ?_⟩; clear hS; intro _ _ hS) | (refine L_load (t := 25) rfl rfl ?_; refine ⟨_, run_load_row hS _ _ rfl _ rfl _ _ (.inl (.head _)) _ Try.underlying25 rfl (size25_Z _), ?_⟩) | (refine L_load (t := 25) rfl rfl ?_; refine ⟨_, run_load_row hS _ _ rfl _ rfl _ _ (.inl (.tail _ (.head _))) _ Try.underlying25 rfl (size25_Z _), ?_⟩) | (refine L_store (t := 25) hS rfl rfl ?_; refine ⟨_, _, _, _, _, (.head), run_store_row hS _ _ _ rfl _ rfl _ _ rfl _ (.head) (size25_Z _) (ivz_sizes _ _ _) (oneCells_Z _), ?_⟩; clear hS; intro _ hS) | (refine L_store (t := 25) hS rfl rfl ?_; refine ⟨_, _, _, _, _, (.tail .head), run_store_row hS _ _ _ rfl _ rfl _ _ rfl _ (.tail .head) (size25_Z _) (ivz_sizes _ _ _) (oneCells_Z _), ?_⟩; clear hS; intro _ hS) | (go_at_call 93; (with_reducible refine Gives.use (F7) hS ?_); clear hS; intro _ hS) | (go_at_call 93; (with_reducible refine Gives.use (F3) hS ?_); clear hS; intro _ hS) | (go_at_call 93; (with_reducible refine Gives.use (F12) hS ?_); clear hS; intro _ hS) | (go_at_call 93; (with_reducible refine Gives.use (F18) hS ?_); clear hS; intro _ hS) | (go_at_call 93; (with_reducible refine Gives.use (F6) hS ?_); clear hS; intro _ hS) | (go_at_call 93; (with_reducible refine Gives.use (F0) hS ?_); clear hS; intro _ hS) | (go_at_call 19; (with_reducible refine Gives.use (GD) hS ?_); clear hS; intro _ hS) | (go_at_call 21; (with_reducible refine Gives.use (GG) hS ?_); clear hS; intro _ hS) | (go_at_call 25; (with_reducible refine Gives.use (T3) hS ?_); clear hS; intro _ hS) | (go_at_call 25; (with_reducible refine Gives.use (T2) hS ?_); clear hS; intro _ hS) | (go_at_call 28; (with_reducible refine Gives.use (GN) hS ?_); clear hS; intro _ hS) | (go_at_call 36; (with_reducible refine Gives.use (GF) hS ?_); clear hS; intro _ hS) | (go_at_call 34; (with_reducible refine Gives.use (GP) hS ?_); clear hS; intro _ hS) | (refine L_op (op := .eql) (t := 25) rfl rfl ?_; refine ⟨_, run_eql_Z' _ _ _ _ rfl _ _ rfl rfl (small_abs 6 (by decide)) (small_abs 6 (by decide)) _ (eqZ_true rfl), ?_⟩))
  go_ret
  exact ⟨rfl, hS.below⟩
end Go.Proofs.Ytfdlgeomaballaa
