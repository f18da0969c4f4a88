/- Merged: Wh, Wi, Ti, Gd, Re, Xk, Qd, Kn, Kr, Qe, Qf, Rf, Rh, Qg, Qh, Qi, Nd, Ql, Xg, Xl, Tr, Ua, SxQ, Xn. -/
import Derived.Test.YtlccefdjhiedcaaBtf
import Derived.Shelf.Small.Bits
import Derived.Test.YtlccefdjhiedcaaProg
import Derived.Lib.ItoaNum
import Derived.Great.BuildSlice
import Derived.Laws.Cover1
import Derived.Test.YtlccefdjhiedcaaBta
import Derived.Test.YtlccefdjhiedcaaBte
section
namespace Go.Proofs.Ytlccefdjhiedcaa
open Go.RowKit

set_option maxRecDepth 100000 in
set_option maxHeartbeats 1000000 in
theorem parse_007 : Gives Try.prog 6 #[.string ⟨#[48, 48, 55]⟩] (.tuple #[.agg (ivZ 0), .int .i64 12]) := by
  intro w
  have hS := St.start w
  have hx : ((ByteArray.mk #[48, 48, 55]).extract 0 1).toList = [48] := by kernel_rfl
  have hx2 : (([48] : List UInt8) == [45]) = false := by decide
  go_enter Try.func6, Try.ntmps6
  go_wp2_with (first | (refine L_alloc_agg hS rfl rfl ?_; refine ⟨_, zero25, ?_⟩; clear hS; intro _ _ hS) | go_in | (refine L_build rfl rfl ?_; refine ⟨_, built25, ?_⟩) | (refine L_store (t := 25) hS rfl rfl ?_; refine ⟨_, _, _, _, _, (.head), run_store_row hS _ _ _ rfl _ rfl _ _ rfl _ (.head) (size25_iv _ _) (iv_sizes _ _ _ _) (oneCells_iv _ _), ?_⟩; clear hS; intro _ hS))
  (try simp only [Exit.inBlock, Exit.then]); refine bodyPost_ret (res_cell_tmp rfl _ _ _ (run_loadRow hS _ _ _ _ (.inl (.head _)) _ Try.underlying25 rfl (size25_iv _ _)) rfl _ rfl) rfl ⟨?_, hS.below⟩
  rw [← ivZ_zero]; rfl

set_option maxHeartbeats 1000000 in
theorem format_zero (s : Bool) : Gives Try.prog 8 #[.agg (iv s 0)] (.string ⟨#[48]⟩) := by
  intro w
  have hS := St.start w
  have hz := isz_true (rfl : (0 : Nat) = 0)
  go_enter Try.func8, Try.ntmps8
  go_wp2_with (first | (refine L_box_agg hS rfl rfl ?_; refine ⟨_, rfl, ?_⟩; clear hS; intro _ _ hS) | (refine L_load (t := 23) rfl rfl ?_; refine ⟨_, run_load_mid hS _ _ rfl _ _ rfl _ _ (.inl (.head _)) _ Try.underlying23 rfl (mgk 32 _) (size23_mg _) (fun k _ => iv_mag _ _ k), ?_⟩) | (go_at_call 30; (with_reducible refine Gives.use (isZero _ (pw_pos _)) hS ?_); clear hS; intro _ hS))
  go_ret
  exact ⟨rfl, hS.below⟩

theorem small_abs (z : Int) (h : z.natAbs < 4294967296) : z.natAbs < pw 32 := Nat.lt_of_lt_of_le (by rw [pw_one]; exact h) (pw_le (show 1 ≤ 32 by omega))
theorem divMod_small (x y : Int) (hx : x.natAbs < 4294967296) (hy : y.natAbs < 4294967296) (h0 : 0 < y.natAbs) :
    Gives Try.prog 32 #[.agg (ivZ x), .agg (ivZ y)] (.tuple #[.agg (ivZ (x / y)), .agg (ivZ (x % y)), .int .i64 0]) := by
  have := divMod_of (decide (x < 0)) (decide (y < 0)) x.natAbs y.natAbs (small_abs x hx) (small_abs y hy) h0 (divide_one _ _ (small_abs x hx) h0 hy)
  rwa [vz_self, vz_self] at this
theorem gcd_small (x y : Int) (hx : x.natAbs < 4294967296) (hy : y.natAbs < 4294967296) :
    Gives Try.prog 35 #[.agg (ivZ x), .agg (ivZ y)] (.agg (ivZ ((Nat.gcd x.natAbs y.natAbs : Nat) : Int))) :=
  gcd_of 4294967296 _ _ _ _ (small_abs x hx) (small_abs y hy) hy (fun a b ha _ h0 hb => divide_one a b ha h0 hb)
theorem toInt_small (x : Int) (hx : x.natAbs < 4294967296) : Gives Try.prog 34 #[.agg (ivZ x)] (.tuple #[.int .i64 x, .bool true]) := by
  have := toInt_any (decide (x < 0)) x.natAbs (small_abs x hx)
  unfold toI at this
  rwa [vz_self, if_pos (by omega)] at this

set_option maxRecDepth 100000 in
set_option maxHeartbeats 2000000 in
theorem known_true : Gives Try.prog 9 #[] (.bool true) := by
  intro w
  have hS := St.start w
  have F7 := fromInt_any (-7) (by omega)
  have F3 := fromInt_any 3 (by omega)
  have F12 := fromInt_any (-12) (by omega)
  have F18 := fromInt_any 18 (by omega)
  have F6 := fromInt_any 6 (by omega)
  have F0 := fromInt_any 0 (by omega)
  have GD : Gives Try.prog 32 #[.agg (ivZ (-7)), .agg (ivZ 3)] (.tuple #[.agg (ivZ (-3)), .agg (ivZ 2), .int .i64 0]) := divMod_small (-7) 3 (by decide) (by decide) (by decide)
  have GG : Gives Try.prog 35 #[.agg (ivZ (-12)), .agg (ivZ 18)] (.agg (ivZ 6)) := gcd_small (-12) 18 (by decide) (by decide)
  have T3 := toInt_small (-3) (by decide)
  have T2 := toInt_small 2 (by decide)
  have GN : Gives Try.prog 36 #[.agg (ivZ 0)] (.agg (ivZ 0)) := neg_any false 0 (pw_pos _)
  have GF : Gives Try.prog 8 #[.agg (ivZ 0)] (.string ⟨#[48]⟩) := format_zero false
  have GP := parse_007
  go_enter Try.func9, Try.ntmps9
  go_wp2_with (first | (refine L_alloc_agg hS rfl rfl ?_; refine ⟨_, zero25, ?_⟩; clear hS; intro _ _ hS) | (refine L_load (t := 25) rfl rfl ?_; refine ⟨_, run_load_row hS _ _ rfl _ rfl _ _ (.inl (.head _)) _ Try.underlying25 rfl (size25_Z _), ?_⟩) | (refine L_load (t := 25) rfl rfl ?_; refine ⟨_, run_load_row hS _ _ rfl _ rfl _ _ (.inl (.tail _ (.head _))) _ Try.underlying25 rfl (size25_Z _), ?_⟩) | (refine L_store (t := 25) hS rfl rfl ?_; refine ⟨_, _, _, _, _, (.head), run_store_row hS _ _ _ rfl _ rfl _ _ rfl _ (.head) (size25_Z _) (ivz_sizes _ _ _) (oneCells_Z _), ?_⟩; clear hS; intro _ hS) | (refine L_store (t := 25) hS rfl rfl ?_; refine ⟨_, _, _, _, _, (.tail .head), run_store_row hS _ _ _ rfl _ rfl _ _ rfl _ (.tail .head) (size25_Z _) (ivz_sizes _ _ _) (oneCells_Z _), ?_⟩; clear hS; intro _ hS) | (go_at_call 33; (with_reducible refine Gives.use (F7) hS ?_); clear hS; intro _ hS) | (go_at_call 33; (with_reducible refine Gives.use (F3) hS ?_); clear hS; intro _ hS) | (go_at_call 33; (with_reducible refine Gives.use (F12) hS ?_); clear hS; intro _ hS) | (go_at_call 33; (with_reducible refine Gives.use (F18) hS ?_); clear hS; intro _ hS) | (go_at_call 33; (with_reducible refine Gives.use (F6) hS ?_); clear hS; intro _ hS) | (go_at_call 33; (with_reducible refine Gives.use (F0) hS ?_); clear hS; intro _ hS) | (go_at_call 32; (with_reducible refine Gives.use (GD) hS ?_); clear hS; intro _ hS) | (go_at_call 35; (with_reducible refine Gives.use (GG) hS ?_); clear hS; intro _ hS) | (go_at_call 34; (with_reducible refine Gives.use (T3) hS ?_); clear hS; intro _ hS) | (go_at_call 34; (with_reducible refine Gives.use (T2) hS ?_); clear hS; intro _ hS) | (go_at_call 36; (with_reducible refine Gives.use (GN) hS ?_); clear hS; intro _ hS) | (go_at_call 8; (with_reducible refine Gives.use (GF) hS ?_); clear hS; intro _ hS) | (go_at_call 6; (with_reducible refine Gives.use (GP) hS ?_); clear hS; intro _ hS) | (refine L_op (op := .eql) (t := 25) rfl rfl ?_; refine ⟨_, run_eql_Z' _ _ _ _ rfl _ _ rfl rfl (small_abs 6 (by decide)) (small_abs 6 (by decide)) _ (eqZ_true rfl), ?_⟩))
  go_ret
  exact ⟨rfl, hS.below⟩
end Go.Proofs.Ytlccefdjhiedcaa
end
section
namespace Go.Proofs.Ytlccefdjhiedcaa
open Go.RowKit

def bl (n : Nat) : Nat := if n = 0 then 0 else n.log2 + 1
theorem bl_zero : bl 0 = 0 := rfl
theorem bl_lt (n : Nat) : n < 2 ^ bl n := by
  unfold bl; split
  · rename_i h; subst h; decide
  · exact Nat.lt_log2_self
theorem bl_pos {n : Nat} (h : n ≠ 0) : 0 < bl n := by unfold bl; rw [if_neg h]; omega
theorem bl_ge {n : Nat} (h : n ≠ 0) : 2 ^ (bl n - 1) ≤ n := by unfold bl; rw [if_neg h]; exact Nat.log2_self_le h
theorem bl_le {n k : Nat} (h : n < 2 ^ k) : bl n ≤ k := by
  by_cases h0 : n = 0
  · subst h0; exact Nat.zero_le _
  · have h1 := bl_ge h0
    have h2 := bl_pos h0
    have := (Nat.pow_lt_pow_iff_right (a := 2) (by omega)).1 (Nat.lt_of_le_of_lt h1 h)
    omega
theorem bl_gt {n k : Nat} (h : 2 ^ k ≤ n) : k < bl n := (Nat.pow_lt_pow_iff_right (a := 2) (by omega)).1 (Nat.lt_of_le_of_lt h (bl_lt n))
theorem bl_is {n k : Nat} (h1 : 2 ^ k ≤ n) (h2 : n < 2 ^ (k + 1)) : bl n = k + 1 := by have := bl_gt h1; have := bl_le h2; omega
theorem pw_bits (k : Nat) : pw k = 2 ^ (32 * k) := by unfold pw; rw [Nat.pow_mul]
theorem pw32_bits : ∃ K, K = 1024 ∧ pw 32 = 2 ^ K := ⟨32 * 32, rfl, pw_bits 32⟩
theorem bl_shift {n k : Nat} (h : n / 2 ^ k ≠ 0) : bl n = k + bl (n / 2 ^ k) := by
  have h1 := bl_ge h
  have h2 := bl_lt (n / 2 ^ k)
  have h3 := bl_pos h
  have e1 : 2 ^ (k + (bl (n / 2 ^ k) - 1)) ≤ n := by
    rw [Nat.pow_add]
    exact Nat.le_trans (Nat.mul_le_mul_left _ h1) (by rw [Nat.mul_comm]; exact Nat.div_mul_le_self _ _)
  have e2 : n < 2 ^ (k + (bl (n / 2 ^ k) - 1) + 1) := by
    have : k + (bl (n / 2 ^ k) - 1) + 1 = bl (n / 2 ^ k) + k := by omega
    rw [this, Nat.pow_add]
    exact (Nat.div_lt_iff_lt_mul (Nat.pow_pos (by omega))).1 h2
  have := bl_is e1 e2
  omega
theorem bl_limb {n j : Nat} (h : n < pw (j + 1)) (h0 : limb n j ≠ 0) : bl n = j * 32 + bl (limb n j) := by
  have e : limb n j = n / 2 ^ (32 * j) := by
    unfold limb
    rw [pw_bits]
    refine Nat.mod_eq_of_lt ((Nat.div_lt_iff_lt_mul (Nat.pow_pos (by omega))).2 ?_)
    rw [pw_succ, pw_bits, Nat.mul_comm] at h
    exact h
  rw [e] at h0 ⊢
  rw [bl_shift h0]; omega
theorem bl_top {n : Nat} (h : n < pw 32) : bl n ≤ 1024 := by
  obtain ⟨K, hK, e⟩ := pw32_bits
  rw [e] at h
  have := bl_le h
  omega
end Go.Proofs.Ytlccefdjhiedcaa
end
section
namespace Go.Proofs.Ytlccefdjhiedcaa
open Go.RowKit
set_option linter.unusedVariables false

section
variable {c : Option Nat} {w0 w w' : World} {r l l' : List (Nat × Obj)} {P : Program} {ops : Array Oper} {rest : List Oper} {o : Oper} {a : Act} {Q : Exit → Act → World → Prop}
end

theorem iv_put (s : Bool) {m k v : Nat} (hk : k < 32) (hm : m < pw k) (hv : v < 4294967296) : (iv s m).setIfInBounds (1 + k) (.int .u32 ((v : Nat) : Int)) = iv s (m + v * pw k) := by
  rw [← put_low v hm]
  apply Array.ext_getElem?
  intro i
  rw [Array.getElem?_setIfInBounds]
  split
  · rename_i h; subst h
    rw [if_pos (by rw [iv_size]; omega), iv_limb hk, limb_put _ _ _ _ hv, if_pos rfl]
  · rename_i h
    rcases Nat.eq_zero_or_pos i with rfl | hi
    · rw [iv_neg, iv_neg]
    · obtain ⟨j, rfl⟩ : ∃ j, i = 1 + j := ⟨i - 1, by omega⟩
      rcases Nat.lt_or_ge j 32 with hj | hj
      · rw [iv_limb hj, iv_limb hj, limb_put _ _ _ _ hv, if_neg (by omega)]
      · rw [Array.getElem?_eq_none (by rw [iv_size]; omega), Array.getElem?_eq_none (by rw [iv_size]; omega)]

theorem iv_neg_put (s s' : Bool) (m : Nat) : (iv s m).setIfInBounds 0 (.bool s') = iv s' m := by
  apply Array.ext_getElem?
  intro i
  rw [Array.getElem?_setIfInBounds]
  split
  · rename_i h; subst h
    rw [if_pos (by rw [iv_size]; omega), iv_neg]
  · rename_i h
    obtain ⟨j, rfl⟩ : ∃ j, i = 1 + j := ⟨i - 1, by omega⟩
    rw [iv_mag, iv_mag]
theorem size4 : (Try.prog.info? 4).map (·.size) = some 1 := by kernel_rfl
end Go.Proofs.Ytlccefdjhiedcaa
end
section
namespace Go.Proofs.Ytlccefdjhiedcaa
open Go.RowKit
variable {P : Program} {ops : Array Oper} {rest : List Oper} {a : Act} {w : World} {Q : Exit → Act → World → Prop} {d : Option Tmp} {op : Op} {ty : TypeId} {pos : String} {after : Array Edge} {g : Option (Nat × Bool)}
theorem L_slot (n : Nat) (h : wpList P ops Q (⟨some n, op, ty, pos, after, g⟩ :: rest) a w) : wpList P ops Q (⟨some n, op, ty, pos, after, g⟩ :: rest) a w := h
theorem L_alloc? {t : TypeId} (h : wpList P ops Q (⟨d, .alloc t, ty, pos, after, g⟩ :: rest) a w) : wpList P ops Q (⟨d, .alloc t, ty, pos, after, g⟩ :: rest) a w := h
theorem L_box? {t : TypeId} {x : Operand} (h : wpList P ops Q (⟨d, .box t x, ty, pos, after, g⟩ :: rest) a w) : wpList P ops Q (⟨d, .box t x, ty, pos, after, g⟩ :: rest) a w := h
theorem L_store? {t : TypeId} {y x : Operand} (h : wpList P ops Q (⟨d, .store t y x, ty, pos, after, g⟩ :: rest) a w) : wpList P ops Q (⟨d, .store t y x, ty, pos, after, g⟩ :: rest) a w := h
theorem L_storeAt (n : Nat) {t : TypeId} {x : Operand} (h : wpList P ops Q (⟨d, .store t (.tmp n) x, ty, pos, after, g⟩ :: rest) a w) : wpList P ops Q (⟨d, .store t (.tmp n) x, ty, pos, after, g⟩ :: rest) a w := h
variable {ws fl : List Nat} {cls : Nat → World → Prop} {k p : Nat}
end Go.Proofs.Ytlccefdjhiedcaa
end
section
namespace Go.Proofs.Ytlccefdjhiedcaa
open Go.RowKit
set_option linter.unusedVariables false

set_option maxHeartbeats 800000 in
theorem rfromInt_core (s : Bool) (z : Int) (k lo hi : Nat) (v0 : Int) (hv0 : IntKind.u64.wrap z = v0) (hz : decide (z < 0) = s) (hneg : s = true → IntKind.u64.wrap (-v0) = ((k : Nat) : Int)) (hpos : s = false → v0 = ((k : Nat) : Int)) (hk : k < 18446744073709551616)
    (hlo : IntKind.u32.wrap ((k : Nat) : Int) = ((lo : Nat) : Int)) (hhi : ((k : Nat) : Int) / 4294967296 = ((hi : Nat) : Int)) (rlo : lo < 4294967296) (rhi : hi < 4294967296) (HP1 : Hid ((iv s 0).setIfInBounds 1 (.int .u32 ((lo : Nat) : Int)) = iv s lo)) (HP2 : Hid ((iv s lo).setIfInBounds 2 (.int .u32 ((hi : Nat) : Int)) = iv s k)) : Gives Try.prog 27 #[.int .i64 z] (.agg (iv s k)) := by
  intro w
  have hS := St.start w
  cases s
  · have hn : ¬ z < 0 := of_decide_eq_false hz
    have hv := hpos rfl
    clear hneg hpos
    go_enter Try.func27, Try.ntmps27
    go_wp2_with (first | ((with_reducible refine L_alloc? ?_); (refine L_alloc_agg hS rfl rfl ?_; refine ⟨_, zero25, ?_⟩; clear hS; intro _ _ hS)) | ((with_reducible refine L_storeAt 13 ?_); refine L_store (t := 4) hS rfl rfl ?_; refine ⟨_, _, iv false 0, _, _, .head, run_store_cell hS _ _ _ rfl _ _ rfl _ rfl _ _ _ .head size4 rfl rfl ?_ ?_, ?_⟩; (focus (rw [iv_size]; omega)); (focus (exact iv_neg_put _ _ _)); clear hS; intro _ hS) | ((with_reducible refine L_storeAt 20 ?_); refine L_store (t := 22) hS rfl rfl ?_; refine ⟨_, _, iv false lo, _, _, .head, run_store_cell hS _ _ _ rfl _ _ rfl _ rfl _ _ _ .head size22 rfl rfl ?_ ?_, ?_⟩; (focus (rw [iv_size]; omega)); (focus (exact HP1.out)); clear hS; intro _ hS) | ((with_reducible refine L_storeAt 22 ?_); refine L_store (t := 22) hS rfl rfl ?_; refine ⟨_, _, iv false k, _, _, .head, run_store_cell hS _ _ _ rfl _ _ rfl _ rfl _ _ _ .head size22 rfl rfl ?_ ?_, ?_⟩; (focus (rw [iv_size]; omega)); (focus (exact HP2.out)); clear hS; intro _ hS) | ((with_reducible refine L_slot 23 ?_); (refine L_load (t := 25) (o := ⟨some 23, _, _, _, _, _⟩) rfl rfl ?_; refine ⟨_, run_load_row hS _ _ rfl _ rfl _ _ (.inl (.head _)) _ Try.underlying25 rfl (size25_iv _ _), ?_⟩)) | ((with_reducible refine L_storeAt 2 ?_); (refine L_store (t := 25) hS rfl rfl ?_; refine ⟨_, _, _, _, _, (.tail .head), run_store_row hS _ _ _ rfl _ rfl _ _ rfl _ (.tail .head) (size25_iv _ _) (iv_sizes _ _ _ _) (oneCells_iv _ _), ?_⟩; clear hS; intro _ hS)))
    (try simp only [Exit.inBlock, Exit.then]); refine bodyPost_ret (res_cell rfl hS _ _ _ _ (.inl (.tail _ (.head _))) rfl _ Try.underlying25 rfl (size25_iv _ _)) rfl ⟨?_, hS.below⟩
    rfl
  · have hn : z < 0 := of_decide_eq_true hz
    have hv := hneg rfl
    clear hneg hpos
    go_enter Try.func27, Try.ntmps27
    go_wp2_with (first | ((with_reducible refine L_alloc? ?_); (refine L_alloc_agg hS rfl rfl ?_; refine ⟨_, zero25, ?_⟩; clear hS; intro _ _ hS)) | ((with_reducible refine L_storeAt 13 ?_); refine L_store (t := 4) hS rfl rfl ?_; refine ⟨_, _, iv true 0, _, _, .head, run_store_cell hS _ _ _ rfl _ _ rfl _ rfl _ _ _ .head size4 rfl rfl ?_ ?_, ?_⟩; (focus (rw [iv_size]; omega)); (focus (exact iv_neg_put _ _ _)); clear hS; intro _ hS) | ((with_reducible refine L_storeAt 20 ?_); refine L_store (t := 22) hS rfl rfl ?_; refine ⟨_, _, iv true lo, _, _, .head, run_store_cell hS _ _ _ rfl _ _ rfl _ rfl _ _ _ .head size22 rfl rfl ?_ ?_, ?_⟩; (focus (rw [iv_size]; omega)); (focus (exact HP1.out)); clear hS; intro _ hS) | ((with_reducible refine L_storeAt 22 ?_); refine L_store (t := 22) hS rfl rfl ?_; refine ⟨_, _, iv true k, _, _, .head, run_store_cell hS _ _ _ rfl _ _ rfl _ rfl _ _ _ .head size22 rfl rfl ?_ ?_, ?_⟩; (focus (rw [iv_size]; omega)); (focus (exact HP2.out)); clear hS; intro _ hS) | ((with_reducible refine L_slot 23 ?_); (refine L_load (t := 25) (o := ⟨some 23, _, _, _, _, _⟩) rfl rfl ?_; refine ⟨_, run_load_row hS _ _ rfl _ rfl _ _ (.inl (.head _)) _ Try.underlying25 rfl (size25_iv _ _), ?_⟩)) | ((with_reducible refine L_storeAt 2 ?_); (refine L_store (t := 25) hS rfl rfl ?_; refine ⟨_, _, _, _, _, (.tail .head), run_store_row hS _ _ _ rfl _ rfl _ _ rfl _ (.tail .head) (size25_iv _ _) (iv_sizes _ _ _ _) (oneCells_iv _ _), ?_⟩; clear hS; intro _ hS)))
    (try simp only [Exit.inBlock, Exit.then]); refine bodyPost_ret (res_cell rfl hS _ _ _ _ (.inl (.tail _ (.head _))) rfl _ Try.underlying25 rfl (size25_iv _ _)) rfl ⟨?_, hS.below⟩
    rfl
theorem rfromInt_any (z : Int) (h : -9223372036854775808 ≤ z ∧ z ≤ 9223372036854775807) : Gives Try.prog 27 #[.int .i64 z] (.agg (ivZ z)) := by
  have e : ivZ z = iv (decide (z < 0)) z.natAbs := rfl
  rw [e]
  have hk : z.natAbs < 18446744073709551616 := by omega
  refine rfromInt_core _ z z.natAbs (z.natAbs % 4294967296) (z.natAbs / 4294967296) (IntKind.u64.wrap z) rfl rfl (fun hs => ?_) (fun hs => ?_) hk ?_ ?_ (by omega) (by omega) ?_ ?_
  · have : z < 0 := of_decide_eq_true hs
    rw [IntKind.wrap_u64, IntKind.wrap_u64]; omega
  · have : ¬ z < 0 := of_decide_eq_false hs
    rw [IntKind.wrap_u64]; omega
  · rw [IntKind.wrap_u32]; omega
  · omega
  · have := iv_put (decide (z < 0)) (m := 0) (k := 0) (v := z.natAbs % 4294967296) (by omega) (pw_pos 0) (by omega)
    rw [pw_zero, Nat.zero_add, Nat.mul_one] at this
    exact this
  · have := iv_put (decide (z < 0)) (m := z.natAbs % 4294967296) (k := 1) (v := z.natAbs / 4294967296) (by omega) (by rw [pw_one]; omega) (by omega)
    rw [pw_one, show z.natAbs % 4294967296 + z.natAbs / 4294967296 * 4294967296 = z.natAbs by omega] at this
    exact this
end Go.Proofs.Ytlccefdjhiedcaa
end
section
namespace Go.Proofs.Ytlccefdjhiedcaa
open Go.RowKit Go.Proofs.Ytlccefdjhiedcaa.Sx
set_option linter.unusedSimpArgs false
set_option linter.unusedVariables false
set_option maxHeartbeats 2000000 in
theorem pd_loop0 (s D : ByteArray) (hD : D = s.extract 1 s.size) (hl : D.size ≤ 309) (j : Nat) (bad : Bool) (h1 : j ≤ D.size) (h2 : ∀ i, i < j → digB D i) (h3 : bad = true → j < D.size ∧ ¬ digB D j) (h4 : bad = false → j = D.size) (e : Int) (h5 : bad = true → e = 12) (h6 : bad = false → e = 0) :
    Ev.holds Try.prog (env [.string s, .int .i64 (j : Nat), .int .i64 e, .bool false, .agg (mgk 32 0), .bool bad]) (.loop 7 0 xtS7_0 xtH7_0 (.exit 0) (.some (5, .ret)) 5) := by
  refine loop_holds plain (m := 5) (x := .exit 0) (alt := .some (5, .ret)) [.string s] [.int .i64 (j : Nat), .int .i64 e, .bool false, .agg (mgk 32 0), .bool bad] tdParse0_ok tdParse0_fine
    (fun vs => ∃ i : Nat, i ≤ j ∧ vs = [.int .i64 (i : Nat), .int .i64 0, .bool false, .agg (mgk 32 0), .bool bad])
    (fun vs => 400 - (vInt (vs.getD 0 undef)).toNat) tdParse0_diff ?_ ?_
  · refine ⟨_, rfl, ⟨0, by omega, rfl⟩, ?_⟩
    simp [tdParse0_d, BTm.den, Tm.i, Tm.s, Tm.den, env, vInt, vBool, vStr, exI, SW.den, SV.den, Cell.den, densP, Piece.den, denV, denT, rowCells_mgk, mgl_zero, -List.reduceReplicate]
  · rintro vs hlv ⟨i, hi, rfl⟩
    clear hlv
    have hb := byteI_N D i
    have hend : i < D.size → ¬ digB D i → bad = true ∧ i = j := fun h5 h6 => by
      have h7 : i = j := by
        rcases Nat.lt_or_ge i j with h | h
        · exact absurd (h2 i h) h6
        · omega
      subst h7
      cases hbad : bad with
      | true => exact ⟨rfl, rfl⟩
      | false => exact absurd (h4 hbad) (by omega)
    refine tree_ite (ev_nil ⟨fun hlt => tree_ite ?_, fun hlt => tree_leaf (ev_nil ?_)⟩)
    · have hlt : i < D.size := by simpa [BTm.den, Tm.i, Tm.s, Tm.den, env, vInt, vBool, vStr, exI, ← hD] using hlt
      refine ev_need (by simp [BTm.den, Tm.i, Tm.s, Tm.den, env, vInt, vBool, vStr, exI]) ?_
      refine ev_need (by simp [BTm.den, Tm.i, Tm.s, Tm.den, env, vInt, vBool, vStr, exI, ← hD, hlt]) ?_
      refine ev_nil ⟨fun h => tree_leaf (ev_nil ?_), fun h => tree_ite ?_⟩
      · have h : ((byteN D i : Nat) : Int) < 48 := by simpa [BTm.den, Tm.i, Tm.s, Tm.den, env, vInt, vBool, vStr, exI, ← hD, hb] using h
        obtain ⟨hbad, rfl⟩ := hend hlt (fun hd => by have := hd.1; omega)
        subst hbad
        have := h5 rfl
        subst this
        refine ⟨rfl, ?_⟩
        simp [BTm.den, Tm.i, Tm.s, Tm.den, env, vInt, vBool, vStr, exI, SW.den, SV.den, Cell.den, densP, Piece.den, denV, denT, rowCells_mgk, mgl_zero, -List.reduceReplicate]
      · have h : ¬ ((byteN D i : Nat) : Int) < 48 := by simpa [BTm.den, Tm.i, Tm.s, Tm.den, env, vInt, vBool, vStr, exI, ← hD, hb] using h
        refine ev_need (by simp [BTm.den, Tm.i, Tm.s, Tm.den, env, vInt, vBool, vStr, exI]) ?_
        refine ev_need (by simp [BTm.den, Tm.i, Tm.s, Tm.den, env, vInt, vBool, vStr, exI, ← hD, hlt]) ?_
        refine ev_nil ⟨fun h' => tree_leaf (ev_nil ?_), fun h' => tree_leaf ?_⟩
        · have h' : 57 < ((byteN D i : Nat) : Int) := by simpa [BTm.den, Tm.i, Tm.s, Tm.den, env, vInt, vBool, vStr, exI, ← hD, hb] using h'
          obtain ⟨hbad, rfl⟩ := hend hlt (fun hd => by have := hd.2; omega)
          subst hbad
          have := h5 rfl
          subst this
          refine ⟨rfl, ?_⟩
          simp [BTm.den, Tm.i, Tm.s, Tm.den, env, vInt, vBool, vStr, exI, SW.den, SV.den, Cell.den, densP, Piece.den, denV, denT, rowCells_mgk, mgl_zero, -List.reduceReplicate]
        · have h' : ¬ 57 < ((byteN D i : Nat) : Int) := by simpa [BTm.den, Tm.i, Tm.s, Tm.den, env, vInt, vBool, vStr, exI, ← hD, hb] using h'
          have hij : i + 1 ≤ j := by
            rcases Nat.lt_or_ge i j with h8 | h8
            · omega
            · have h9 : i = j := by omega
              subst h9
              cases hbad : bad with
              | true => exact absurd ⟨by omega, by omega⟩ (h3 hbad).2
              | false => have := h4 hbad; omega
          refine ev_fits ((i + 1 : Nat) : Int) (by simp [BTm.den, Tm.i, Tm.s, Tm.den, env, vInt, vBool, vStr, exI]) (rng_i64 _ (by omega)) ?_
          refine ev_nil ⟨[.int .i64 (i + 1 : Nat), .int .i64 0, .bool false, .agg (mgk 32 0), .bool bad], rfl, ⟨i + 1, hij, rfl⟩, by simp [vInt]; omega, ?_⟩
          simp [BTm.den, Tm.i, Tm.s, Tm.den, env, vInt, vBool, vStr, exI, SW.den, SV.den, Cell.den, densP, Piece.den, denV, denT, rowCells_mgk]
    · have hlt : ¬ i < D.size := by simpa [BTm.den, Tm.i, Tm.s, Tm.den, env, vInt, vBool, vStr, exI, ← hD] using hlt
      obtain rfl : i = j := by omega
      have hbad : bad = false := by
        cases hb : bad with
        | true => have := (h3 hb).1; omega
        | false => rfl
      subst hbad
      have := h6 rfl
      subst this
      refine ⟨rfl, ?_⟩
      simp [BTm.den, Tm.i, Tm.s, Tm.den, env, vInt, vBool, vStr, exI, SW.den, SV.den, Cell.den, densP, Piece.den, denV, denT, rowCells_mgk]
set_option maxHeartbeats 4000000 in
theorem pd_loop1 (s D : ByteArray) (hD : D = s.extract 1 s.size) (k : Nat) (hl : D.size ≤ 309) (hdig : ∀ i, i < D.size → digB D i) (j : Nat) (big : Bool) (h1 : j ≤ D.size) (h2 : dval D j < pw 32) (h3 : big = true → j < D.size ∧ pw 32 ≤ dval D (j + 1)) (h4 : big = false → j = D.size) (e : Int) (h5 : big = true → e = 10) (h6 : big = false → e = 0) :
    Ev.holds Try.prog (env [.string s, .int .i64 (k : Nat), .int .i64 0, .bool false, .agg (mgk 32 0), .bool false, .int .i64 (j : Nat), .int .i64 e, .bool false, .agg (mgk 32 (dval D j)), .bool false, .agg (mgk 32 0), .bool big]) (.loop 7 1 xtS7_1 xtH7_1 (.exit 2) (.some (12, .ret)) 7) := by
  refine loop_holds plain (m := 7) (x := .exit 2) (alt := .some (12, .ret)) [.string s, .int .i64 (k : Nat), .int .i64 0, .bool false, .agg (mgk 32 0), .bool false] [.int .i64 (j : Nat), .int .i64 e, .bool false, .agg (mgk 32 (dval D j)), .bool false, .agg (mgk 32 0), .bool big] tdParse1_ok tdParse1_fine
    (fun vs => ∃ i : Nat, i ≤ j ∧ vs = [.int .i64 (i : Nat), .int .i64 0, .bool false, .agg (mgk 32 (dval D i)), .bool false, .agg (mgk 32 0), .bool big])
    (fun vs => 400 - (vInt (vs.getD 0 undef)).toNat) tdParse1_diff ?_ ?_
  · refine ⟨_, rfl, ⟨0, Nat.zero_le _, rfl⟩, ?_⟩
    simp [tdParse1_d, BTm.den, Tm.i, Tm.s, Tm.den, env, vInt, vBool, vStr, exI, SW.den, SV.den, Cell.den, densP, Piece.den, denV, denT, rowCells_mgk, dval, mgl_zero, -List.reduceReplicate]
  · rintro vs hlv ⟨i, hi, rfl⟩
    clear hlv
    have hb := byteI_N D i
    have hvi : dval D i < pw 32 := Nat.lt_of_le_of_lt (dval_le D hi) h2
    refine tree_ite (ev_nil ⟨fun hlt => tree_ite ?_, fun hlt => tree_leaf (ev_nil ?_)⟩)
    · have hlt : i < D.size := by simpa [BTm.den, Tm.i, Tm.s, Tm.den, env, vInt, vBool, vStr, exI, ← hD] using hlt
      have hd := hdig i hlt
      have hd1 := hd.1
      have hd2 := hd.2
      have hbig : i = j → big = true := fun hij => by
        cases hbig : big with
        | true => rfl
        | false => have := h4 hbig; omega
      have hstep : 10 * dval D i + (byteN D i - 48) = dval D (i + 1) := rfl
      obtain ⟨d, hdd⟩ : ∃ d, d = byteN D i - 48 := ⟨_, rfl⟩
      have hd9 : d ≤ 9 := by omega
      rw [← hdd] at hstep
      have hw : IntKind.u8.wrap (((byteN D i : Nat) : Int) - 48) = ((d : Nat) : Int) := by
        rw [show ((byteN D i : Nat) : Int) - 48 = ((d : Nat) : Int) by omega]
        exact cnv_u8 _ (by omega)
      have dpw : d < pw 32 := Nat.lt_of_le_of_lt hd9 (by decide +kernel)
      have g1 := rfromInt_any 10 (by omega)
      rw [show ivZ 10 = iv false 10 from rfl] at g1
      have g2 := rmul_any false false (dval D i) 10 hvi (by decide +kernel)
      have g3 := rfromInt_any ((d : Nat) : Int) (by omega)
      rw [show ((d : Nat) : Int) = vz false d from rfl, ivZ_vz, show (false && !isz d) = false from rfl, show vz false d = ((d : Nat) : Int) from rfl] at g3
      have mulv : ∃ (a : Nat) (e17 : Int), a < pw 32 ∧ resZ (vz false (dval D i) * vz false 10) = .tuple #[.agg (iv false a), .int .i64 e17] ∧ ((e17 = 0 ∧ a = 10 * dval D i) ∨ (e17 = 10 ∧ pw 32 ≤ 10 * dval D i)) := by
        have ez : vz false (dval D i) * vz false 10 = vz false (10 * dval D i) := by simp [vz]; omega
        rw [ez]
        by_cases hf : 10 * dval D i < pw 32
        · refine ⟨10 * dval D i, 0, hf, ?_, .inl ⟨rfl, rfl⟩⟩
          rw [resZ_fits (by rw [vz_abs]; exact hf), ivZ_vz]; rfl
        · refine ⟨0, 10, pw_pos 32, ?_, .inr ⟨rfl, by omega⟩⟩
          rw [resZ_not (by rw [vz_abs]; exact hf)]; rfl
      obtain ⟨a, e17, ha, em, hcase⟩ := mulv
      rw [em] at g2
      have g4 := radd_any false false a d ha dpw
      have addv : ∃ (x : Nat) (e22 : Int), resZ (vz false a + vz false d) = .tuple #[.agg (iv false x), .int .i64 e22] ∧ ((e22 = 0 ∧ x = a + d ∧ x < pw 32) ∨ (e22 = 10 ∧ pw 32 ≤ a + d)) := by
        have ez : vz false a + vz false d = vz false (a + d) := by simp [vz]
        rw [ez]
        by_cases hf : a + d < pw 32
        · refine ⟨a + d, 0, ?_, .inl ⟨rfl, rfl, hf⟩⟩
          rw [resZ_fits (by rw [vz_abs]; exact hf), ivZ_vz]; rfl
        · refine ⟨0, 10, ?_, .inr ⟨rfl, by omega⟩⟩
          rw [resZ_not (by rw [vz_abs]; exact hf)]; rfl
      obtain ⟨x, e22, ea, hcase2⟩ := addv
      rw [ea] at g4
      obtain ⟨X, hX⟩ : ∃ X, X = dval D (i + 1) := ⟨_, rfl⟩
      refine ev_call [.bool false, .agg (mgk 32 10)] rfl rfl (pure_gives g1) (fun β => by simp [BTm.den, Tm.i, Tm.s, Tm.den, env, vInt, vBool, vStr, exI, SW.den, SV.den, Cell.den, densP, Piece.den, denV, denT]) (fun β => by simp [BTm.den, Tm.i, Tm.s, Tm.den, env, vInt, vBool, vStr, exI, SW.den, SV.den, Cell.den, densP, Piece.den, denV, denT, rowCells_mgk, iv_list]) ?_
      refine ev_call [.bool false, .agg (mgk 32 a), .int .i64 e17] rfl rfl (pure_gives g2) (fun β => by simp [BTm.den, Tm.i, Tm.s, Tm.den, env, vInt, vBool, vStr, exI, SW.den, SV.den, Cell.den, densP, Piece.den, denV, denT, rowCells_mgk, iv_list]) (fun β => by simp [BTm.den, Tm.i, Tm.s, Tm.den, env, vInt, vBool, vStr, exI, SW.den, SV.den, Cell.den, densP, Piece.den, denV, denT, rowCells_mgk, iv_list]) ?_
      refine ev_need (by simp [BTm.den, Tm.i, Tm.s, Tm.den, env, vInt, vBool, vStr, exI]) ?_
      refine ev_need (by simp [BTm.den, Tm.i, Tm.s, Tm.den, env, vInt, vBool, vStr, exI, ← hD, hlt]) ?_
      refine ev_fits ((d : Nat) : Int) (by simp [BTm.den, Tm.i, Tm.s, Tm.den, env, vInt, vBool, vStr, exI, ← hD, hb, hw, ariI]) (rng_i64 _ (by omega)) ?_
      refine ev_call [.bool false, .agg (mgk 32 d)] rfl rfl (pure_gives g3) (fun β => by simp [BTm.den, Tm.i, Tm.s, Tm.den, env, vInt, vBool, vStr, exI, SW.den, SV.den, Cell.den, densP, Piece.den, denV, denT, ← hD, hb, hw, ariI]) (fun β => by simp [BTm.den, Tm.i, Tm.s, Tm.den, env, vInt, vBool, vStr, exI, SW.den, SV.den, Cell.den, densP, Piece.den, denV, denT, rowCells_mgk, iv_list]) ?_
      refine ev_call [.bool false, .agg (mgk 32 x), .int .i64 e22] rfl rfl (pure_gives g4) (fun β => by simp [BTm.den, Tm.i, Tm.s, Tm.den, env, vInt, vBool, vStr, exI, SW.den, SV.den, Cell.den, densP, Piece.den, denV, denT, rowCells_mgk, iv_list]) (fun β => by simp [BTm.den, Tm.i, Tm.s, Tm.den, env, vInt, vBool, vStr, exI, SW.den, SV.den, Cell.den, densP, Piece.den, denV, denT, rowCells_mgk, iv_list]) ?_
      have bad : (e17 = 10 ∨ e22 = 10) → pw 32 ≤ dval D (i + 1) := fun h => by
        rcases hcase with ⟨c1, c2⟩ | ⟨c1, c2⟩
        · rcases hcase2 with ⟨c3, c4, c5⟩ | ⟨c3, c4⟩
          · rcases h with h | h <;> omega
          · rw [← hstep]; omega
        · rw [← hstep]; omega
      refine ev_nil ⟨fun h0 => tree_ite (ev_nil ⟨fun h00 => tree_leaf ?_, fun h00 => tree_leaf (ev_nil ?_)⟩), fun h0 => tree_leaf (ev_nil ?_)⟩
      · have h0 : e17 = 0 := by simpa [BTm.den, Tm.i, Tm.s, Tm.den, env, vInt, vBool, vStr, exI] using h0
        have h00 : e22 = 0 := by simpa [BTm.den, Tm.i, Tm.s, Tm.den, env, vInt, vBool, vStr, exI] using h00
        have hx : x = dval D (i + 1) ∧ dval D (i + 1) < pw 32 := by
          rcases hcase with ⟨c1, c2⟩ | ⟨c1, c2⟩
          · rcases hcase2 with ⟨c3, c4, c5⟩ | ⟨c3, c4⟩
            · rw [← hstep]; omega
            · omega
          · omega
        have hij : i + 1 ≤ j := by
          rcases Nat.lt_or_ge i j with h8 | h8
          · omega
          · have h9 : i = j := by omega
            have := (h3 (hbig h9)).2
            subst h9; omega
        refine ev_fits ((i + 1 : Nat) : Int) (by simp [BTm.den, Tm.i, Tm.s, Tm.den, env, vInt, vBool, vStr, exI]) (rng_i64 _ (by omega)) ?_
        refine ev_nil ⟨[.int .i64 (i + 1 : Nat), .int .i64 0, .bool false, .agg (mgk 32 (dval D (i + 1))), .bool false, .agg (mgk 32 0), .bool big], rfl, ⟨i + 1, hij, rfl⟩, by simp [vInt]; omega, ?_⟩
        rw [← hx.1]
        simp [BTm.den, Tm.i, Tm.s, Tm.den, env, vInt, vBool, vStr, exI, SW.den, SV.den, Cell.den, densP, Piece.den, denV, denT, rowCells_mgk]
      · have h00 : ¬ e22 = 0 := by simpa [BTm.den, Tm.i, Tm.s, Tm.den, env, vInt, vBool, vStr, exI] using h00
        have hge := bad (.inr (by rcases hcase2 with ⟨c3, _⟩ | ⟨c3, _⟩ <;> omega))
        obtain ⟨hij, hbg⟩ : i = j ∧ big = true := by
          have hij : i = j := by
            rcases Nat.lt_or_ge i j with h8 | h8
            · have := dval_le D (show i + 1 ≤ j by omega); omega
            · omega
          exact ⟨hij, hbig hij⟩
        subst hij
        subst hbg
        have := h5 rfl
        subst this
        refine ⟨rfl, ?_⟩
        simp [BTm.den, Tm.i, Tm.s, Tm.den, env, vInt, vBool, vStr, exI, SW.den, SV.den, Cell.den, densP, Piece.den, denV, denT, rowCells_mgk, mgl_zero, -List.reduceReplicate]
      · have h0 : ¬ e17 = 0 := by simpa [BTm.den, Tm.i, Tm.s, Tm.den, env, vInt, vBool, vStr, exI] using h0
        have hge := bad (.inl (by rcases hcase with ⟨c3, _⟩ | ⟨c3, _⟩ <;> omega))
        obtain ⟨hij, hbg⟩ : i = j ∧ big = true := by
          have hij : i = j := by
            rcases Nat.lt_or_ge i j with h8 | h8
            · have := dval_le D (show i + 1 ≤ j by omega); omega
            · omega
          exact ⟨hij, hbig hij⟩
        subst hij
        subst hbg
        have := h5 rfl
        subst this
        refine ⟨rfl, ?_⟩
        simp [BTm.den, Tm.i, Tm.s, Tm.den, env, vInt, vBool, vStr, exI, SW.den, SV.den, Cell.den, densP, Piece.den, denV, denT, rowCells_mgk, mgl_zero, -List.reduceReplicate]
    · have hlt : ¬ i < D.size := by simpa [BTm.den, Tm.i, Tm.s, Tm.den, env, vInt, vBool, vStr, exI, ← hD] using hlt
      have hij : i = j := by omega
      subst hij
      have hbg : big = false := by
        cases hbig : big with
        | true => have := (h3 hbig).1; omega
        | false => rfl
      subst hbg
      have := h6 rfl
      subst this
      refine ⟨rfl, ?_⟩
      simp [BTm.den, Tm.i, Tm.s, Tm.den, env, vInt, vBool, vStr, exI, SW.den, SV.den, Cell.den, densP, Piece.den, denV, denT, rowCells_mgk]
set_option maxHeartbeats 2000000 in
theorem pd_loop0b (s D : ByteArray) (hD : D = s) (hl : D.size ≤ 309) (j : Nat) (bad : Bool) (h1 : j ≤ D.size) (h2 : ∀ i, i < j → digB D i) (h3 : bad = true → j < D.size ∧ ¬ digB D j) (h4 : bad = false → j = D.size) (e : Int) (h5 : bad = true → e = 12) (h6 : bad = false → e = 0) :
    Ev.holds Try.prog (env [.string s, .int .i64 (j : Nat), .int .i64 e, .bool false, .agg (mgk 32 0), .bool bad]) (.loop 7 0 xtS7_0b xtH7_0b (.exit 0) (.some (5, .ret)) 5) := by
  refine loop_holds plain (m := 5) (x := .exit 0) (alt := .some (5, .ret)) [.string s] [.int .i64 (j : Nat), .int .i64 e, .bool false, .agg (mgk 32 0), .bool bad] tdParse0b_ok tdParse0b_fine
    (fun vs => ∃ i : Nat, i ≤ j ∧ vs = [.int .i64 (i : Nat), .int .i64 0, .bool false, .agg (mgk 32 0), .bool bad])
    (fun vs => 400 - (vInt (vs.getD 0 undef)).toNat) tdParse0b_diff ?_ ?_
  · refine ⟨_, rfl, ⟨0, by omega, rfl⟩, ?_⟩
    simp [tdParse0b_d, BTm.den, Tm.i, Tm.s, Tm.den, env, vInt, vBool, vStr, exI, SW.den, SV.den, Cell.den, densP, Piece.den, denV, denT, rowCells_mgk, mgl_zero, -List.reduceReplicate]
  · rintro vs hlv ⟨i, hi, rfl⟩
    clear hlv
    have hb := byteI_N D i
    have hend : i < D.size → ¬ digB D i → bad = true ∧ i = j := fun h5 h6 => by
      have h7 : i = j := by
        rcases Nat.lt_or_ge i j with h | h
        · exact absurd (h2 i h) h6
        · omega
      subst h7
      cases hbad : bad with
      | true => exact ⟨rfl, rfl⟩
      | false => exact absurd (h4 hbad) (by omega)
    refine tree_ite (ev_nil ⟨fun hlt => tree_ite ?_, fun hlt => tree_leaf (ev_nil ?_)⟩)
    · have hlt : i < D.size := by simpa [BTm.den, Tm.i, Tm.s, Tm.den, env, vInt, vBool, vStr, exI, ← hD] using hlt
      refine ev_need (by simp [BTm.den, Tm.i, Tm.s, Tm.den, env, vInt, vBool, vStr, exI]) ?_
      refine ev_need (by simp [BTm.den, Tm.i, Tm.s, Tm.den, env, vInt, vBool, vStr, exI, ← hD, hlt]) ?_
      refine ev_nil ⟨fun h => tree_leaf (ev_nil ?_), fun h => tree_ite ?_⟩
      · have h : ((byteN D i : Nat) : Int) < 48 := by simpa [BTm.den, Tm.i, Tm.s, Tm.den, env, vInt, vBool, vStr, exI, ← hD, hb] using h
        obtain ⟨hbad, rfl⟩ := hend hlt (fun hd => by have := hd.1; omega)
        subst hbad
        have := h5 rfl
        subst this
        refine ⟨rfl, ?_⟩
        simp [BTm.den, Tm.i, Tm.s, Tm.den, env, vInt, vBool, vStr, exI, SW.den, SV.den, Cell.den, densP, Piece.den, denV, denT, rowCells_mgk, mgl_zero, -List.reduceReplicate]
      · have h : ¬ ((byteN D i : Nat) : Int) < 48 := by simpa [BTm.den, Tm.i, Tm.s, Tm.den, env, vInt, vBool, vStr, exI, ← hD, hb] using h
        refine ev_need (by simp [BTm.den, Tm.i, Tm.s, Tm.den, env, vInt, vBool, vStr, exI]) ?_
        refine ev_need (by simp [BTm.den, Tm.i, Tm.s, Tm.den, env, vInt, vBool, vStr, exI, ← hD, hlt]) ?_
        refine ev_nil ⟨fun h' => tree_leaf (ev_nil ?_), fun h' => tree_leaf ?_⟩
        · have h' : 57 < ((byteN D i : Nat) : Int) := by simpa [BTm.den, Tm.i, Tm.s, Tm.den, env, vInt, vBool, vStr, exI, ← hD, hb] using h'
          obtain ⟨hbad, rfl⟩ := hend hlt (fun hd => by have := hd.2; omega)
          subst hbad
          have := h5 rfl
          subst this
          refine ⟨rfl, ?_⟩
          simp [BTm.den, Tm.i, Tm.s, Tm.den, env, vInt, vBool, vStr, exI, SW.den, SV.den, Cell.den, densP, Piece.den, denV, denT, rowCells_mgk, mgl_zero, -List.reduceReplicate]
        · have h' : ¬ 57 < ((byteN D i : Nat) : Int) := by simpa [BTm.den, Tm.i, Tm.s, Tm.den, env, vInt, vBool, vStr, exI, ← hD, hb] using h'
          have hij : i + 1 ≤ j := by
            rcases Nat.lt_or_ge i j with h8 | h8
            · omega
            · have h9 : i = j := by omega
              subst h9
              cases hbad : bad with
              | true => exact absurd ⟨by omega, by omega⟩ (h3 hbad).2
              | false => have := h4 hbad; omega
          refine ev_fits ((i + 1 : Nat) : Int) (by simp [BTm.den, Tm.i, Tm.s, Tm.den, env, vInt, vBool, vStr, exI]) (rng_i64 _ (by omega)) ?_
          refine ev_nil ⟨[.int .i64 (i + 1 : Nat), .int .i64 0, .bool false, .agg (mgk 32 0), .bool bad], rfl, ⟨i + 1, hij, rfl⟩, by simp [vInt]; omega, ?_⟩
          simp [BTm.den, Tm.i, Tm.s, Tm.den, env, vInt, vBool, vStr, exI, SW.den, SV.den, Cell.den, densP, Piece.den, denV, denT, rowCells_mgk]
    · have hlt : ¬ i < D.size := by simpa [BTm.den, Tm.i, Tm.s, Tm.den, env, vInt, vBool, vStr, exI, ← hD] using hlt
      obtain rfl : i = j := by omega
      have hbad : bad = false := by
        cases hb : bad with
        | true => have := (h3 hb).1; omega
        | false => rfl
      subst hbad
      have := h6 rfl
      subst this
      refine ⟨rfl, ?_⟩
      simp [BTm.den, Tm.i, Tm.s, Tm.den, env, vInt, vBool, vStr, exI, SW.den, SV.den, Cell.den, densP, Piece.den, denV, denT, rowCells_mgk]
set_option maxHeartbeats 4000000 in
theorem pd_loop1b (s D : ByteArray) (hD : D = s) (k : Nat) (hl : D.size ≤ 309) (hdig : ∀ i, i < D.size → digB D i) (j : Nat) (big : Bool) (h1 : j ≤ D.size) (h2 : dval D j < pw 32) (h3 : big = true → j < D.size ∧ pw 32 ≤ dval D (j + 1)) (h4 : big = false → j = D.size) (e : Int) (h5 : big = true → e = 10) (h6 : big = false → e = 0) :
    Ev.holds Try.prog (env [.string s, .int .i64 (k : Nat), .int .i64 0, .bool false, .agg (mgk 32 0), .bool false, .int .i64 (j : Nat), .int .i64 e, .bool false, .agg (mgk 32 (dval D j)), .bool false, .agg (mgk 32 0), .bool big]) (.loop 7 1 xtS7_1b xtH7_1b (.exit 2) (.some (12, .ret)) 7) := by
  refine loop_holds plain (m := 7) (x := .exit 2) (alt := .some (12, .ret)) [.string s, .int .i64 (k : Nat), .int .i64 0, .bool false, .agg (mgk 32 0), .bool false] [.int .i64 (j : Nat), .int .i64 e, .bool false, .agg (mgk 32 (dval D j)), .bool false, .agg (mgk 32 0), .bool big] tdParse1b_ok tdParse1b_fine
    (fun vs => ∃ i : Nat, i ≤ j ∧ vs = [.int .i64 (i : Nat), .int .i64 0, .bool false, .agg (mgk 32 (dval D i)), .bool false, .agg (mgk 32 0), .bool big])
    (fun vs => 400 - (vInt (vs.getD 0 undef)).toNat) tdParse1b_diff ?_ ?_
  · refine ⟨_, rfl, ⟨0, Nat.zero_le _, rfl⟩, ?_⟩
    simp [tdParse1b_d, BTm.den, Tm.i, Tm.s, Tm.den, env, vInt, vBool, vStr, exI, SW.den, SV.den, Cell.den, densP, Piece.den, denV, denT, rowCells_mgk, dval, mgl_zero, -List.reduceReplicate]
  · rintro vs hlv ⟨i, hi, rfl⟩
    clear hlv
    have hb := byteI_N D i
    have hvi : dval D i < pw 32 := Nat.lt_of_le_of_lt (dval_le D hi) h2
    refine tree_ite (ev_nil ⟨fun hlt => tree_ite ?_, fun hlt => tree_leaf (ev_nil ?_)⟩)
    · have hlt : i < D.size := by simpa [BTm.den, Tm.i, Tm.s, Tm.den, env, vInt, vBool, vStr, exI, ← hD] using hlt
      have hd := hdig i hlt
      have hd1 := hd.1
      have hd2 := hd.2
      have hbig : i = j → big = true := fun hij => by
        cases hbig : big with
        | true => rfl
        | false => have := h4 hbig; omega
      have hstep : 10 * dval D i + (byteN D i - 48) = dval D (i + 1) := rfl
      obtain ⟨d, hdd⟩ : ∃ d, d = byteN D i - 48 := ⟨_, rfl⟩
      have hd9 : d ≤ 9 := by omega
      rw [← hdd] at hstep
      have hw : IntKind.u8.wrap (((byteN D i : Nat) : Int) - 48) = ((d : Nat) : Int) := by
        rw [show ((byteN D i : Nat) : Int) - 48 = ((d : Nat) : Int) by omega]
        exact cnv_u8 _ (by omega)
      have dpw : d < pw 32 := Nat.lt_of_le_of_lt hd9 (by decide +kernel)
      have g1 := rfromInt_any 10 (by omega)
      rw [show ivZ 10 = iv false 10 from rfl] at g1
      have g2 := rmul_any false false (dval D i) 10 hvi (by decide +kernel)
      have g3 := rfromInt_any ((d : Nat) : Int) (by omega)
      rw [show ((d : Nat) : Int) = vz false d from rfl, ivZ_vz, show (false && !isz d) = false from rfl, show vz false d = ((d : Nat) : Int) from rfl] at g3
      have mulv : ∃ (a : Nat) (e17 : Int), a < pw 32 ∧ resZ (vz false (dval D i) * vz false 10) = .tuple #[.agg (iv false a), .int .i64 e17] ∧ ((e17 = 0 ∧ a = 10 * dval D i) ∨ (e17 = 10 ∧ pw 32 ≤ 10 * dval D i)) := by
        have ez : vz false (dval D i) * vz false 10 = vz false (10 * dval D i) := by simp [vz]; omega
        rw [ez]
        by_cases hf : 10 * dval D i < pw 32
        · refine ⟨10 * dval D i, 0, hf, ?_, .inl ⟨rfl, rfl⟩⟩
          rw [resZ_fits (by rw [vz_abs]; exact hf), ivZ_vz]; rfl
        · refine ⟨0, 10, pw_pos 32, ?_, .inr ⟨rfl, by omega⟩⟩
          rw [resZ_not (by rw [vz_abs]; exact hf)]; rfl
      obtain ⟨a, e17, ha, em, hcase⟩ := mulv
      rw [em] at g2
      have g4 := radd_any false false a d ha dpw
      have addv : ∃ (x : Nat) (e22 : Int), resZ (vz false a + vz false d) = .tuple #[.agg (iv false x), .int .i64 e22] ∧ ((e22 = 0 ∧ x = a + d ∧ x < pw 32) ∨ (e22 = 10 ∧ pw 32 ≤ a + d)) := by
        have ez : vz false a + vz false d = vz false (a + d) := by simp [vz]
        rw [ez]
        by_cases hf : a + d < pw 32
        · refine ⟨a + d, 0, ?_, .inl ⟨rfl, rfl, hf⟩⟩
          rw [resZ_fits (by rw [vz_abs]; exact hf), ivZ_vz]; rfl
        · refine ⟨0, 10, ?_, .inr ⟨rfl, by omega⟩⟩
          rw [resZ_not (by rw [vz_abs]; exact hf)]; rfl
      obtain ⟨x, e22, ea, hcase2⟩ := addv
      rw [ea] at g4
      obtain ⟨X, hX⟩ : ∃ X, X = dval D (i + 1) := ⟨_, rfl⟩
      refine ev_call [.bool false, .agg (mgk 32 10)] rfl rfl (pure_gives g1) (fun β => by simp [BTm.den, Tm.i, Tm.s, Tm.den, env, vInt, vBool, vStr, exI, SW.den, SV.den, Cell.den, densP, Piece.den, denV, denT]) (fun β => by simp [BTm.den, Tm.i, Tm.s, Tm.den, env, vInt, vBool, vStr, exI, SW.den, SV.den, Cell.den, densP, Piece.den, denV, denT, rowCells_mgk, iv_list]) ?_
      refine ev_call [.bool false, .agg (mgk 32 a), .int .i64 e17] rfl rfl (pure_gives g2) (fun β => by simp [BTm.den, Tm.i, Tm.s, Tm.den, env, vInt, vBool, vStr, exI, SW.den, SV.den, Cell.den, densP, Piece.den, denV, denT, rowCells_mgk, iv_list]) (fun β => by simp [BTm.den, Tm.i, Tm.s, Tm.den, env, vInt, vBool, vStr, exI, SW.den, SV.den, Cell.den, densP, Piece.den, denV, denT, rowCells_mgk, iv_list]) ?_
      refine ev_need (by simp [BTm.den, Tm.i, Tm.s, Tm.den, env, vInt, vBool, vStr, exI]) ?_
      refine ev_need (by simp [BTm.den, Tm.i, Tm.s, Tm.den, env, vInt, vBool, vStr, exI, ← hD, hlt]) ?_
      refine ev_fits ((d : Nat) : Int) (by simp [BTm.den, Tm.i, Tm.s, Tm.den, env, vInt, vBool, vStr, exI, ← hD, hb, hw, ariI]) (rng_i64 _ (by omega)) ?_
      refine ev_call [.bool false, .agg (mgk 32 d)] rfl rfl (pure_gives g3) (fun β => by simp [BTm.den, Tm.i, Tm.s, Tm.den, env, vInt, vBool, vStr, exI, SW.den, SV.den, Cell.den, densP, Piece.den, denV, denT, ← hD, hb, hw, ariI]) (fun β => by simp [BTm.den, Tm.i, Tm.s, Tm.den, env, vInt, vBool, vStr, exI, SW.den, SV.den, Cell.den, densP, Piece.den, denV, denT, rowCells_mgk, iv_list]) ?_
      refine ev_call [.bool false, .agg (mgk 32 x), .int .i64 e22] rfl rfl (pure_gives g4) (fun β => by simp [BTm.den, Tm.i, Tm.s, Tm.den, env, vInt, vBool, vStr, exI, SW.den, SV.den, Cell.den, densP, Piece.den, denV, denT, rowCells_mgk, iv_list]) (fun β => by simp [BTm.den, Tm.i, Tm.s, Tm.den, env, vInt, vBool, vStr, exI, SW.den, SV.den, Cell.den, densP, Piece.den, denV, denT, rowCells_mgk, iv_list]) ?_
      have bad : (e17 = 10 ∨ e22 = 10) → pw 32 ≤ dval D (i + 1) := fun h => by
        rcases hcase with ⟨c1, c2⟩ | ⟨c1, c2⟩
        · rcases hcase2 with ⟨c3, c4, c5⟩ | ⟨c3, c4⟩
          · rcases h with h | h <;> omega
          · rw [← hstep]; omega
        · rw [← hstep]; omega
      refine ev_nil ⟨fun h0 => tree_ite (ev_nil ⟨fun h00 => tree_leaf ?_, fun h00 => tree_leaf (ev_nil ?_)⟩), fun h0 => tree_leaf (ev_nil ?_)⟩
      · have h0 : e17 = 0 := by simpa [BTm.den, Tm.i, Tm.s, Tm.den, env, vInt, vBool, vStr, exI] using h0
        have h00 : e22 = 0 := by simpa [BTm.den, Tm.i, Tm.s, Tm.den, env, vInt, vBool, vStr, exI] using h00
        have hx : x = dval D (i + 1) ∧ dval D (i + 1) < pw 32 := by
          rcases hcase with ⟨c1, c2⟩ | ⟨c1, c2⟩
          · rcases hcase2 with ⟨c3, c4, c5⟩ | ⟨c3, c4⟩
            · rw [← hstep]; omega
            · omega
          · omega
        have hij : i + 1 ≤ j := by
          rcases Nat.lt_or_ge i j with h8 | h8
          · omega
          · have h9 : i = j := by omega
            have := (h3 (hbig h9)).2
            subst h9; omega
        refine ev_fits ((i + 1 : Nat) : Int) (by simp [BTm.den, Tm.i, Tm.s, Tm.den, env, vInt, vBool, vStr, exI]) (rng_i64 _ (by omega)) ?_
        refine ev_nil ⟨[.int .i64 (i + 1 : Nat), .int .i64 0, .bool false, .agg (mgk 32 (dval D (i + 1))), .bool false, .agg (mgk 32 0), .bool big], rfl, ⟨i + 1, hij, rfl⟩, by simp [vInt]; omega, ?_⟩
        rw [← hx.1]
        simp [BTm.den, Tm.i, Tm.s, Tm.den, env, vInt, vBool, vStr, exI, SW.den, SV.den, Cell.den, densP, Piece.den, denV, denT, rowCells_mgk]
      · have h00 : ¬ e22 = 0 := by simpa [BTm.den, Tm.i, Tm.s, Tm.den, env, vInt, vBool, vStr, exI] using h00
        have hge := bad (.inr (by rcases hcase2 with ⟨c3, _⟩ | ⟨c3, _⟩ <;> omega))
        obtain ⟨hij, hbg⟩ : i = j ∧ big = true := by
          have hij : i = j := by
            rcases Nat.lt_or_ge i j with h8 | h8
            · have := dval_le D (show i + 1 ≤ j by omega); omega
            · omega
          exact ⟨hij, hbig hij⟩
        subst hij
        subst hbg
        have := h5 rfl
        subst this
        refine ⟨rfl, ?_⟩
        simp [BTm.den, Tm.i, Tm.s, Tm.den, env, vInt, vBool, vStr, exI, SW.den, SV.den, Cell.den, densP, Piece.den, denV, denT, rowCells_mgk, mgl_zero, -List.reduceReplicate]
      · have h0 : ¬ e17 = 0 := by simpa [BTm.den, Tm.i, Tm.s, Tm.den, env, vInt, vBool, vStr, exI] using h0
        have hge := bad (.inl (by rcases hcase with ⟨c3, _⟩ | ⟨c3, _⟩ <;> omega))
        obtain ⟨hij, hbg⟩ : i = j ∧ big = true := by
          have hij : i = j := by
            rcases Nat.lt_or_ge i j with h8 | h8
            · have := dval_le D (show i + 1 ≤ j by omega); omega
            · omega
          exact ⟨hij, hbig hij⟩
        subst hij
        subst hbg
        have := h5 rfl
        subst this
        refine ⟨rfl, ?_⟩
        simp [BTm.den, Tm.i, Tm.s, Tm.den, env, vInt, vBool, vStr, exI, SW.den, SV.den, Cell.den, densP, Piece.den, denV, denT, rowCells_mgk, mgl_zero, -List.reduceReplicate]
    · have hlt : ¬ i < D.size := by simpa [BTm.den, Tm.i, Tm.s, Tm.den, env, vInt, vBool, vStr, exI, ← hD] using hlt
      have hij : i = j := by omega
      subst hij
      have hbg : big = false := by
        cases hbig : big with
        | true => have := (h3 hbig).1; omega
        | false => rfl
      subst hbg
      have := h6 rfl
      subst this
      refine ⟨rfl, ?_⟩
      simp [BTm.den, Tm.i, Tm.s, Tm.den, env, vInt, vBool, vStr, exI, SW.den, SV.den, Cell.den, densP, Piece.den, denV, denT, rowCells_mgk]
set_option maxHeartbeats 2000000 in
theorem pd_loop0c (s D : ByteArray) (hD : D = s) (hl : D.size ≤ 309) (j : Nat) (bad : Bool) (h1 : j ≤ D.size) (h2 : ∀ i, i < j → digB D i) (h3 : bad = true → j < D.size ∧ ¬ digB D j) (h4 : bad = false → j = D.size) (e : Int) (h5 : bad = true → e = 12) (h6 : bad = false → e = 0) :
    Ev.holds Try.prog (env [.string s, .int .i64 (j : Nat), .int .i64 e, .bool false, .agg (mgk 32 0), .bool bad]) (.loop 7 0 xtS7_0c xtH7_0c (.exit 0) (.some (5, .ret)) 5) := by
  refine loop_holds plain (m := 5) (x := .exit 0) (alt := .some (5, .ret)) [.string s] [.int .i64 (j : Nat), .int .i64 e, .bool false, .agg (mgk 32 0), .bool bad] tdParse0c_ok tdParse0c_fine
    (fun vs => ∃ i : Nat, i ≤ j ∧ vs = [.int .i64 (i : Nat), .int .i64 0, .bool false, .agg (mgk 32 0), .bool bad])
    (fun vs => 400 - (vInt (vs.getD 0 undef)).toNat) tdParse0c_diff ?_ ?_
  · refine ⟨_, rfl, ⟨0, by omega, rfl⟩, ?_⟩
    simp [tdParse0c_d, BTm.den, Tm.i, Tm.s, Tm.den, env, vInt, vBool, vStr, exI, SW.den, SV.den, Cell.den, densP, Piece.den, denV, denT, rowCells_mgk, mgl_zero, -List.reduceReplicate]
  · rintro vs hlv ⟨i, hi, rfl⟩
    clear hlv
    have hb := byteI_N D i
    have hend : i < D.size → ¬ digB D i → bad = true ∧ i = j := fun h5 h6 => by
      have h7 : i = j := by
        rcases Nat.lt_or_ge i j with h | h
        · exact absurd (h2 i h) h6
        · omega
      subst h7
      cases hbad : bad with
      | true => exact ⟨rfl, rfl⟩
      | false => exact absurd (h4 hbad) (by omega)
    refine tree_ite (ev_nil ⟨fun hlt => tree_ite ?_, fun hlt => tree_leaf (ev_nil ?_)⟩)
    · have hlt : i < D.size := by simpa [BTm.den, Tm.i, Tm.s, Tm.den, env, vInt, vBool, vStr, exI, ← hD] using hlt
      refine ev_need (by simp [BTm.den, Tm.i, Tm.s, Tm.den, env, vInt, vBool, vStr, exI]) ?_
      refine ev_need (by simp [BTm.den, Tm.i, Tm.s, Tm.den, env, vInt, vBool, vStr, exI, ← hD, hlt]) ?_
      refine ev_nil ⟨fun h => tree_leaf (ev_nil ?_), fun h => tree_ite ?_⟩
      · have h : ((byteN D i : Nat) : Int) < 48 := by simpa [BTm.den, Tm.i, Tm.s, Tm.den, env, vInt, vBool, vStr, exI, ← hD, hb] using h
        obtain ⟨hbad, rfl⟩ := hend hlt (fun hd => by have := hd.1; omega)
        subst hbad
        have := h5 rfl
        subst this
        refine ⟨rfl, ?_⟩
        simp [BTm.den, Tm.i, Tm.s, Tm.den, env, vInt, vBool, vStr, exI, SW.den, SV.den, Cell.den, densP, Piece.den, denV, denT, rowCells_mgk, mgl_zero, -List.reduceReplicate]
      · have h : ¬ ((byteN D i : Nat) : Int) < 48 := by simpa [BTm.den, Tm.i, Tm.s, Tm.den, env, vInt, vBool, vStr, exI, ← hD, hb] using h
        refine ev_need (by simp [BTm.den, Tm.i, Tm.s, Tm.den, env, vInt, vBool, vStr, exI]) ?_
        refine ev_need (by simp [BTm.den, Tm.i, Tm.s, Tm.den, env, vInt, vBool, vStr, exI, ← hD, hlt]) ?_
        refine ev_nil ⟨fun h' => tree_leaf (ev_nil ?_), fun h' => tree_leaf ?_⟩
        · have h' : 57 < ((byteN D i : Nat) : Int) := by simpa [BTm.den, Tm.i, Tm.s, Tm.den, env, vInt, vBool, vStr, exI, ← hD, hb] using h'
          obtain ⟨hbad, rfl⟩ := hend hlt (fun hd => by have := hd.2; omega)
          subst hbad
          have := h5 rfl
          subst this
          refine ⟨rfl, ?_⟩
          simp [BTm.den, Tm.i, Tm.s, Tm.den, env, vInt, vBool, vStr, exI, SW.den, SV.den, Cell.den, densP, Piece.den, denV, denT, rowCells_mgk, mgl_zero, -List.reduceReplicate]
        · have h' : ¬ 57 < ((byteN D i : Nat) : Int) := by simpa [BTm.den, Tm.i, Tm.s, Tm.den, env, vInt, vBool, vStr, exI, ← hD, hb] using h'
          have hij : i + 1 ≤ j := by
            rcases Nat.lt_or_ge i j with h8 | h8
            · omega
            · have h9 : i = j := by omega
              subst h9
              cases hbad : bad with
              | true => exact absurd ⟨by omega, by omega⟩ (h3 hbad).2
              | false => have := h4 hbad; omega
          refine ev_fits ((i + 1 : Nat) : Int) (by simp [BTm.den, Tm.i, Tm.s, Tm.den, env, vInt, vBool, vStr, exI]) (rng_i64 _ (by omega)) ?_
          refine ev_nil ⟨[.int .i64 (i + 1 : Nat), .int .i64 0, .bool false, .agg (mgk 32 0), .bool bad], rfl, ⟨i + 1, hij, rfl⟩, by simp [vInt]; omega, ?_⟩
          simp [BTm.den, Tm.i, Tm.s, Tm.den, env, vInt, vBool, vStr, exI, SW.den, SV.den, Cell.den, densP, Piece.den, denV, denT, rowCells_mgk]
    · have hlt : ¬ i < D.size := by simpa [BTm.den, Tm.i, Tm.s, Tm.den, env, vInt, vBool, vStr, exI, ← hD] using hlt
      obtain rfl : i = j := by omega
      have hbad : bad = false := by
        cases hb : bad with
        | true => have := (h3 hb).1; omega
        | false => rfl
      subst hbad
      have := h6 rfl
      subst this
      refine ⟨rfl, ?_⟩
      simp [BTm.den, Tm.i, Tm.s, Tm.den, env, vInt, vBool, vStr, exI, SW.den, SV.den, Cell.den, densP, Piece.den, denV, denT, rowCells_mgk]
set_option maxHeartbeats 4000000 in
theorem pd_loop1c (s D : ByteArray) (hD : D = s) (k : Nat) (hl : D.size ≤ 309) (hdig : ∀ i, i < D.size → digB D i) (j : Nat) (big : Bool) (h1 : j ≤ D.size) (h2 : dval D j < pw 32) (h3 : big = true → j < D.size ∧ pw 32 ≤ dval D (j + 1)) (h4 : big = false → j = D.size) (e : Int) (h5 : big = true → e = 10) (h6 : big = false → e = 0) :
    Ev.holds Try.prog (env [.string s, .int .i64 (k : Nat), .int .i64 0, .bool false, .agg (mgk 32 0), .bool false, .int .i64 (j : Nat), .int .i64 e, .bool false, .agg (mgk 32 (dval D j)), .bool false, .agg (mgk 32 0), .bool big]) (.loop 7 1 xtS7_1c xtH7_1c (.exit 2) (.some (12, .ret)) 7) := by
  refine loop_holds plain (m := 7) (x := .exit 2) (alt := .some (12, .ret)) [.string s, .int .i64 (k : Nat), .int .i64 0, .bool false, .agg (mgk 32 0), .bool false] [.int .i64 (j : Nat), .int .i64 e, .bool false, .agg (mgk 32 (dval D j)), .bool false, .agg (mgk 32 0), .bool big] tdParse1c_ok tdParse1c_fine
    (fun vs => ∃ i : Nat, i ≤ j ∧ vs = [.int .i64 (i : Nat), .int .i64 0, .bool false, .agg (mgk 32 (dval D i)), .bool false, .agg (mgk 32 0), .bool big])
    (fun vs => 400 - (vInt (vs.getD 0 undef)).toNat) tdParse1c_diff ?_ ?_
  · refine ⟨_, rfl, ⟨0, Nat.zero_le _, rfl⟩, ?_⟩
    simp [tdParse1c_d, BTm.den, Tm.i, Tm.s, Tm.den, env, vInt, vBool, vStr, exI, SW.den, SV.den, Cell.den, densP, Piece.den, denV, denT, rowCells_mgk, dval, mgl_zero, -List.reduceReplicate]
  · rintro vs hlv ⟨i, hi, rfl⟩
    clear hlv
    have hb := byteI_N D i
    have hvi : dval D i < pw 32 := Nat.lt_of_le_of_lt (dval_le D hi) h2
    refine tree_ite (ev_nil ⟨fun hlt => tree_ite ?_, fun hlt => tree_leaf (ev_nil ?_)⟩)
    · have hlt : i < D.size := by simpa [BTm.den, Tm.i, Tm.s, Tm.den, env, vInt, vBool, vStr, exI, ← hD] using hlt
      have hd := hdig i hlt
      have hd1 := hd.1
      have hd2 := hd.2
      have hbig : i = j → big = true := fun hij => by
        cases hbig : big with
        | true => rfl
        | false => have := h4 hbig; omega
      have hstep : 10 * dval D i + (byteN D i - 48) = dval D (i + 1) := rfl
      obtain ⟨d, hdd⟩ : ∃ d, d = byteN D i - 48 := ⟨_, rfl⟩
      have hd9 : d ≤ 9 := by omega
      rw [← hdd] at hstep
      have hw : IntKind.u8.wrap (((byteN D i : Nat) : Int) - 48) = ((d : Nat) : Int) := by
        rw [show ((byteN D i : Nat) : Int) - 48 = ((d : Nat) : Int) by omega]
        exact cnv_u8 _ (by omega)
      have dpw : d < pw 32 := Nat.lt_of_le_of_lt hd9 (by decide +kernel)
      have g1 := rfromInt_any 10 (by omega)
      rw [show ivZ 10 = iv false 10 from rfl] at g1
      have g2 := rmul_any false false (dval D i) 10 hvi (by decide +kernel)
      have g3 := rfromInt_any ((d : Nat) : Int) (by omega)
      rw [show ((d : Nat) : Int) = vz false d from rfl, ivZ_vz, show (false && !isz d) = false from rfl, show vz false d = ((d : Nat) : Int) from rfl] at g3
      have mulv : ∃ (a : Nat) (e17 : Int), a < pw 32 ∧ resZ (vz false (dval D i) * vz false 10) = .tuple #[.agg (iv false a), .int .i64 e17] ∧ ((e17 = 0 ∧ a = 10 * dval D i) ∨ (e17 = 10 ∧ pw 32 ≤ 10 * dval D i)) := by
        have ez : vz false (dval D i) * vz false 10 = vz false (10 * dval D i) := by simp [vz]; omega
        rw [ez]
        by_cases hf : 10 * dval D i < pw 32
        · refine ⟨10 * dval D i, 0, hf, ?_, .inl ⟨rfl, rfl⟩⟩
          rw [resZ_fits (by rw [vz_abs]; exact hf), ivZ_vz]; rfl
        · refine ⟨0, 10, pw_pos 32, ?_, .inr ⟨rfl, by omega⟩⟩
          rw [resZ_not (by rw [vz_abs]; exact hf)]; rfl
      obtain ⟨a, e17, ha, em, hcase⟩ := mulv
      rw [em] at g2
      have g4 := radd_any false false a d ha dpw
      have addv : ∃ (x : Nat) (e22 : Int), resZ (vz false a + vz false d) = .tuple #[.agg (iv false x), .int .i64 e22] ∧ ((e22 = 0 ∧ x = a + d ∧ x < pw 32) ∨ (e22 = 10 ∧ pw 32 ≤ a + d)) := by
        have ez : vz false a + vz false d = vz false (a + d) := by simp [vz]
        rw [ez]
        by_cases hf : a + d < pw 32
        · refine ⟨a + d, 0, ?_, .inl ⟨rfl, rfl, hf⟩⟩
          rw [resZ_fits (by rw [vz_abs]; exact hf), ivZ_vz]; rfl
        · refine ⟨0, 10, ?_, .inr ⟨rfl, by omega⟩⟩
          rw [resZ_not (by rw [vz_abs]; exact hf)]; rfl
      obtain ⟨x, e22, ea, hcase2⟩ := addv
      rw [ea] at g4
      obtain ⟨X, hX⟩ : ∃ X, X = dval D (i + 1) := ⟨_, rfl⟩
      refine ev_call [.bool false, .agg (mgk 32 10)] rfl rfl (pure_gives g1) (fun β => by simp [BTm.den, Tm.i, Tm.s, Tm.den, env, vInt, vBool, vStr, exI, SW.den, SV.den, Cell.den, densP, Piece.den, denV, denT]) (fun β => by simp [BTm.den, Tm.i, Tm.s, Tm.den, env, vInt, vBool, vStr, exI, SW.den, SV.den, Cell.den, densP, Piece.den, denV, denT, rowCells_mgk, iv_list]) ?_
      refine ev_call [.bool false, .agg (mgk 32 a), .int .i64 e17] rfl rfl (pure_gives g2) (fun β => by simp [BTm.den, Tm.i, Tm.s, Tm.den, env, vInt, vBool, vStr, exI, SW.den, SV.den, Cell.den, densP, Piece.den, denV, denT, rowCells_mgk, iv_list]) (fun β => by simp [BTm.den, Tm.i, Tm.s, Tm.den, env, vInt, vBool, vStr, exI, SW.den, SV.den, Cell.den, densP, Piece.den, denV, denT, rowCells_mgk, iv_list]) ?_
      refine ev_need (by simp [BTm.den, Tm.i, Tm.s, Tm.den, env, vInt, vBool, vStr, exI]) ?_
      refine ev_need (by simp [BTm.den, Tm.i, Tm.s, Tm.den, env, vInt, vBool, vStr, exI, ← hD, hlt]) ?_
      refine ev_fits ((d : Nat) : Int) (by simp [BTm.den, Tm.i, Tm.s, Tm.den, env, vInt, vBool, vStr, exI, ← hD, hb, hw, ariI]) (rng_i64 _ (by omega)) ?_
      refine ev_call [.bool false, .agg (mgk 32 d)] rfl rfl (pure_gives g3) (fun β => by simp [BTm.den, Tm.i, Tm.s, Tm.den, env, vInt, vBool, vStr, exI, SW.den, SV.den, Cell.den, densP, Piece.den, denV, denT, ← hD, hb, hw, ariI]) (fun β => by simp [BTm.den, Tm.i, Tm.s, Tm.den, env, vInt, vBool, vStr, exI, SW.den, SV.den, Cell.den, densP, Piece.den, denV, denT, rowCells_mgk, iv_list]) ?_
      refine ev_call [.bool false, .agg (mgk 32 x), .int .i64 e22] rfl rfl (pure_gives g4) (fun β => by simp [BTm.den, Tm.i, Tm.s, Tm.den, env, vInt, vBool, vStr, exI, SW.den, SV.den, Cell.den, densP, Piece.den, denV, denT, rowCells_mgk, iv_list]) (fun β => by simp [BTm.den, Tm.i, Tm.s, Tm.den, env, vInt, vBool, vStr, exI, SW.den, SV.den, Cell.den, densP, Piece.den, denV, denT, rowCells_mgk, iv_list]) ?_
      have bad : (e17 = 10 ∨ e22 = 10) → pw 32 ≤ dval D (i + 1) := fun h => by
        rcases hcase with ⟨c1, c2⟩ | ⟨c1, c2⟩
        · rcases hcase2 with ⟨c3, c4, c5⟩ | ⟨c3, c4⟩
          · rcases h with h | h <;> omega
          · rw [← hstep]; omega
        · rw [← hstep]; omega
      refine ev_nil ⟨fun h0 => tree_ite (ev_nil ⟨fun h00 => tree_leaf ?_, fun h00 => tree_leaf (ev_nil ?_)⟩), fun h0 => tree_leaf (ev_nil ?_)⟩
      · have h0 : e17 = 0 := by simpa [BTm.den, Tm.i, Tm.s, Tm.den, env, vInt, vBool, vStr, exI] using h0
        have h00 : e22 = 0 := by simpa [BTm.den, Tm.i, Tm.s, Tm.den, env, vInt, vBool, vStr, exI] using h00
        have hx : x = dval D (i + 1) ∧ dval D (i + 1) < pw 32 := by
          rcases hcase with ⟨c1, c2⟩ | ⟨c1, c2⟩
          · rcases hcase2 with ⟨c3, c4, c5⟩ | ⟨c3, c4⟩
            · rw [← hstep]; omega
            · omega
          · omega
        have hij : i + 1 ≤ j := by
          rcases Nat.lt_or_ge i j with h8 | h8
          · omega
          · have h9 : i = j := by omega
            have := (h3 (hbig h9)).2
            subst h9; omega
        refine ev_fits ((i + 1 : Nat) : Int) (by simp [BTm.den, Tm.i, Tm.s, Tm.den, env, vInt, vBool, vStr, exI]) (rng_i64 _ (by omega)) ?_
        refine ev_nil ⟨[.int .i64 (i + 1 : Nat), .int .i64 0, .bool false, .agg (mgk 32 (dval D (i + 1))), .bool false, .agg (mgk 32 0), .bool big], rfl, ⟨i + 1, hij, rfl⟩, by simp [vInt]; omega, ?_⟩
        rw [← hx.1]
        simp [BTm.den, Tm.i, Tm.s, Tm.den, env, vInt, vBool, vStr, exI, SW.den, SV.den, Cell.den, densP, Piece.den, denV, denT, rowCells_mgk]
      · have h00 : ¬ e22 = 0 := by simpa [BTm.den, Tm.i, Tm.s, Tm.den, env, vInt, vBool, vStr, exI] using h00
        have hge := bad (.inr (by rcases hcase2 with ⟨c3, _⟩ | ⟨c3, _⟩ <;> omega))
        obtain ⟨hij, hbg⟩ : i = j ∧ big = true := by
          have hij : i = j := by
            rcases Nat.lt_or_ge i j with h8 | h8
            · have := dval_le D (show i + 1 ≤ j by omega); omega
            · omega
          exact ⟨hij, hbig hij⟩
        subst hij
        subst hbg
        have := h5 rfl
        subst this
        refine ⟨rfl, ?_⟩
        simp [BTm.den, Tm.i, Tm.s, Tm.den, env, vInt, vBool, vStr, exI, SW.den, SV.den, Cell.den, densP, Piece.den, denV, denT, rowCells_mgk, mgl_zero, -List.reduceReplicate]
      · have h0 : ¬ e17 = 0 := by simpa [BTm.den, Tm.i, Tm.s, Tm.den, env, vInt, vBool, vStr, exI] using h0
        have hge := bad (.inl (by rcases hcase with ⟨c3, _⟩ | ⟨c3, _⟩ <;> omega))
        obtain ⟨hij, hbg⟩ : i = j ∧ big = true := by
          have hij : i = j := by
            rcases Nat.lt_or_ge i j with h8 | h8
            · have := dval_le D (show i + 1 ≤ j by omega); omega
            · omega
          exact ⟨hij, hbig hij⟩
        subst hij
        subst hbg
        have := h5 rfl
        subst this
        refine ⟨rfl, ?_⟩
        simp [BTm.den, Tm.i, Tm.s, Tm.den, env, vInt, vBool, vStr, exI, SW.den, SV.den, Cell.den, densP, Piece.den, denV, denT, rowCells_mgk, mgl_zero, -List.reduceReplicate]
    · have hlt : ¬ i < D.size := by simpa [BTm.den, Tm.i, Tm.s, Tm.den, env, vInt, vBool, vStr, exI, ← hD] using hlt
      have hij : i = j := by omega
      subst hij
      have hbg : big = false := by
        cases hbig : big with
        | true => have := (h3 hbig).1; omega
        | false => rfl
      subst hbg
      have := h6 rfl
      subst this
      refine ⟨rfl, ?_⟩
      simp [BTm.den, Tm.i, Tm.s, Tm.den, env, vInt, vBool, vStr, exI, SW.den, SV.den, Cell.den, densP, Piece.den, denV, denT, rowCells_mgk]
end Go.Proofs.Ytlccefdjhiedcaa
end
section
namespace Go.Proofs.Ytlccefdjhiedcaa
open Go.RowKit Go.Proofs.Ytlccefdjhiedcaa.Sx
set_option linter.unusedSimpArgs false
set_option linter.unusedVariables false

set_option maxHeartbeats 1000000 in
theorem rdouble_loop (n b : Nat) (hn : n < pw 32) (hb : b ≤ 1) :
    Ev.holds Try.prog (env [.agg (mgk 32 n), .int .u32 (b : Nat), .int .i64 (32 : Nat), .int .u32 (dblC n b 32 : Nat), .agg (mgk 32 (dblR n b 32))]) (.loop 88 0 divS88_0 divH88_0 (.exit 0) .none 3) := by
  refine loop_holds plain (m := 3) (x := .exit 0) (alt := none) [.agg (mgk 32 n), .int .u32 (b : Nat)] [.int .i64 (32 : Nat), .int .u32 (dblC n b 32 : Nat), .agg (mgk 32 (dblR n b 32))] tDouble0_ok tDouble0_fine
    (fun vs => ∃ i : Nat, i ≤ 32 ∧ vs = [.int .i64 (i : Nat), .int .u32 (dblC n b i : Nat), .agg (mgk 32 (dblR n b i))])
    (fun vs => 32 - (vInt (vs.getD 0 undef)).toNat) tDouble0_diff ?_ ?_
  · refine ⟨[.int .i64 (0 : Nat), .int .u32 (dblC n b 0 : Nat), .agg (mgk 32 (dblR n b 0))], rfl, ⟨0, by omega, rfl⟩, ?_⟩
    rw [(dbl_zero n b).1, (dbl_zero n b).2]
    simp [tDouble0_d, BTm.den, Tm.i, Tm.s, Tm.den, env, vInt, vBool, vStr, exI, SW.den, SV.den, Cell.den, densP, Piece.den, denV, denT]
  · rintro vs hl ⟨i, hi, rfl⟩
    clear hl
    refine tree_ite (ev_nil ⟨fun hlt => tree_leaf ?_, fun hlt => tree_leaf (ev_nil ?_)⟩)
    · have hlt : i < 32 := by
        have : (i : Int) < 32 := by simpa [BTm.den, Tm.i, Tm.s, Tm.den, env, vInt, vBool, vStr, exI] using hlt
        omega
      have hx := limb_lt n i
      have hc := dblC_le (n := n) (i := i) hb
      obtain ⟨h1, h2⟩ := dbl_next (n := n) (i := i) hb
      have h0 := dbl_limb n b i
      obtain ⟨c, hcc⟩ : ∃ c, c = dblC n b i := ⟨_, rfl⟩
      obtain ⟨c', hcc'⟩ : ∃ c, c = dblC n b (i + 1) := ⟨_, rfl⟩
      obtain ⟨W, hW⟩ : ∃ c, c = dblR n b i := ⟨_, rfl⟩
      obtain ⟨W', hW'⟩ : ∃ c, c = dblR n b (i + 1) := ⟨_, rfl⟩
      rw [← hcc, ← hW, ← hW'] at h2
      rw [← hcc'] at h1
      rw [← hW] at h0
      rw [← hcc] at hc
      rw [← hcc, ← hW]
      refine ev_need (by simp [BTm.den, Tm.i, Tm.s, Tm.den, env, vInt, vBool, vStr, exI] <;> omega) ?_
      refine ev_need (by simp [BTm.den, Tm.i, Tm.s, Tm.den, env, vInt, vBool, vStr, exI] <;> omega) ?_
      refine ev_elem [.int .u32 (limb n i : Nat)] rfl rfl (l := mgl 32 W) (m := [.int .u32 (limb n i : Nat)]) (k := i) (by simp [BTm.den, Tm.i, Tm.s, Tm.den, env, vInt, vBool, vStr, exI] <;> omega) (fun β => rowCells_mgk 32 W) (fun β => rfl) (by rw [← h0]; exact mgl_elem (by omega)) ?_
      refine ev_need (by simp [BTm.den, Tm.i, Tm.s, Tm.den, env, vInt, vBool, vStr, exI] <;> omega) ?_
      refine ev_need (by simp [BTm.den, Tm.i, Tm.s, Tm.den, env, vInt, vBool, vStr, exI] <;> omega) ?_
      refine ev_elem [.int .u32 (limb n i : Nat)] rfl rfl (l := mgl 32 W) (m := [.int .u32 (limb n i : Nat)]) (k := i) (by simp [BTm.den, Tm.i, Tm.s, Tm.den, env, vInt, vBool, vStr, exI] <;> omega) (fun β => rowCells_mgk 32 W) (fun β => rfl) (by rw [← h0]; exact mgl_elem (by omega)) ?_
      refine ev_need (by simp [BTm.den, Tm.i, Tm.s, Tm.den, env, vInt, vBool, vStr, exI] <;> omega) ?_
      refine ev_need (by simp [BTm.den, Tm.i, Tm.s, Tm.den, env, vInt, vBool, vStr, exI] <;> omega) ?_
      have hor := ari_or32 (s := 1) (2 * limb n i % 4294967296) c (by omega) (by omega) (by omega) (by omega)
      have hsl := shl32_of (limb n i) 1 2 (by omega) rfl
      rw [Nat.mul_comm] at hsl
      rw [← hsl] at hor
      have hsr := shr_of (k := .u32) (limb n i) 31 2147483648 (by decide) rfl
      have hput : mgl 32 W' = (mgl 32 W).take i ++ [.int .u32 ((2 * limb n i % 4294967296 + c : Nat) : Int)] ++ (mgl 32 W).drop (i + 1) := by
        rw [← h2]; exact mgl_put (by omega) rfl (by omega)
      refine ev_put [.agg (mgk 32 W')] rfl rfl (l := mgl 32 W) (l' := mgl 32 W') (m := [.int .u32 ((2 * limb n i % 4294967296 + c : Nat) : Int)]) (k := i) (by simp [BTm.den, Tm.i, Tm.s, Tm.den, env, vInt, vBool, vStr, exI] <;> omega) (fun β => rowCells_mgk 32 _) (fun β => rowCells_mgk 32 _) (fun β => ?_) hput (by rw [mgl_length]; simp; omega) ?_
      · rw [← hor]; simp [BTm.den, Tm.i, Tm.s, Tm.den, env, vInt, vBool, vStr, exI, SW.den, SV.den, Cell.den, densP, Piece.den, denV, denT]
      refine ev_fits (((i + 1 : Nat) : Int)) (by simp [BTm.den, Tm.i, Tm.s, Tm.den, env, vInt, vBool, vStr, exI]) (rng_i64 _ (by omega)) ?_
      refine ev_nil ⟨[.int .i64 (i + 1 : Nat), .int .u32 (c' : Nat), .agg (mgk 32 W')], rfl, ⟨i + 1, by omega, by rw [hcc', hW']⟩, ?_, ?_⟩
      · simp [vInt]; omega
      · rw [h1, ← hsr]; simp [BTm.den, Tm.i, Tm.s, Tm.den, env, vInt, vBool, vStr, exI, SW.den, SV.den, Cell.den, densP, Piece.den, denV, denT]
    · have hlt : i = 32 := by
        have : ¬ (i : Int) < 32 := by simpa [BTm.den, Tm.i, Tm.s, Tm.den, env, vInt, vBool, vStr, exI] using hlt
        omega
      subst hlt
      exact ⟨rfl, by simp [BTm.den, Tm.i, Tm.s, Tm.den, env, vInt, vBool, vStr, exI, SW.den, SV.den, Cell.den, densP, Piece.den, denV, denT]⟩
theorem rdouble (n b : Nat) (hn : n < pw 32) (hb : b ≤ 1) : Gives Try.prog 88 #[.agg (mgk 32 n), .int .u32 ((b : Nat) : Int)] (.tuple #[.agg (mgk 32 ((2 * n + b) % pw 32)), .bool (decide ((2 * n + b) / pw 32 = 1))]) := by
  have h := pure_of plain [.agg (mgk 32 n), .int .u32 (b : Nat)] tDouble_ok (by kernel_rfl) (.tuple #[.agg (mgk 32 ((2 * n + b) % pw 32)), .bool (decide ((2 * n + b) / pw 32 = 1))]) (tree_leaf ?_)
  · refine gives_pure ?_
    simpa [rowB, BTm.den, Tm.i, Tm.s, Tm.den, env, vInt, vBool, vStr, exI, SW.den, SV.den, Cell.den, densP, Piece.den, denV, denT, rowCells_mgk, mgl_agg] using h
  · have hl := rdouble_loop n b hn hb
    obtain ⟨e1, e2⟩ := dbl_end (b := b) hn
    rw [e1, e2] at hl
    refine ev_loop [.int .i64 (32 : Nat), .int .u32 ((2 * n + b) / pw 32 : Nat), .agg (mgk 32 ((2 * n + b) % pw 32))] rfl rfl hl (ev_nil fun β => ?_)
    obtain ⟨V, hV⟩ : ∃ V, V = (2 * n + b) % pw 32 := ⟨_, rfl⟩
    obtain ⟨c, hc⟩ : ∃ V, V = (2 * n + b) / pw 32 := ⟨_, rfl⟩
    rw [← hV, ← hc]
    simp [BTm.den, Tm.i, Tm.s, Tm.den, env, vInt, vBool, vStr, exI, SW.den, SV.den, Cell.den, densP, Piece.den, denV, denT, rowCells_mgk, mgl_agg]
    rw [Bool.eq_iff_iff]; simp; omega
end Go.Proofs.Ytlccefdjhiedcaa
end
section
namespace Go.Proofs.Ytlccefdjhiedcaa

def win (i x r k H : Nat) : Nat := x + (r + H * pw k) * pw i
section
variable {W D n f s h w2 q g t : Nat}
end
end Go.Proofs.Ytlccefdjhiedcaa
end
section
namespace Go.Proofs.Ytlccefdjhiedcaa
open Go.RowKit
set_option linter.unusedVariables false

theorem shr_limb {N p q k : Nat} (hpq : p * q = 4294967296) (hp : 0 < p) : limb (N / p) k = (limb N (k + 1) * 4294967296 + limb N k) / p % 4294967296 := by
  obtain ⟨M, hM⟩ : ∃ M, N / pw k = M := ⟨_, rfl⟩
  have e1 : limb N k = M % 4294967296 := by unfold limb; rw [hM]
  have e2 : limb N (k + 1) = M / 4294967296 % 4294967296 := by unfold limb; rw [pw_succ, ← Nat.div_div_eq_div_mul, hM]
  have e3 : N / p / pw k = M / p := by rw [Nat.div_div_eq_div_mul, Nat.mul_comm, ← Nat.div_div_eq_div_mul, hM]
  unfold limb at e1 ⊢
  rw [e3]
  obtain ⟨V, hV⟩ : ∃ V, N / pw (k + 1) % 4294967296 * 4294967296 + N / pw k % 4294967296 = V := ⟨_, rfl⟩
  rw [hV]
  have hMV : M = V + p * (q * (4294967296 * (M / 4294967296 / 4294967296))) := by
    unfold limb at e2
    rw [e2, e1] at hV
    have : p * (q * (4294967296 * (M / 4294967296 / 4294967296))) = 4294967296 * (4294967296 * (M / 4294967296 / 4294967296)) := by rw [← Nat.mul_assoc, hpq]
    omega
  have h1 : M / p = V / p + 4294967296 * (q * (M / 4294967296 / 4294967296)) := by
    have : M / p = (V + p * (q * (4294967296 * (M / 4294967296 / 4294967296)))) / p := by rw [← hMV]
    rw [this, Nat.add_mul_div_left _ _ hp]
    congr 1
    ac_rfl
  rw [h1, Nat.add_mul_mod_self_left]

end Go.Proofs.Ytlccefdjhiedcaa
end
section
namespace Go.Proofs.Ytlccefdjhiedcaa
open Go.RowKit Go.Proofs.Ytlccefdjhiedcaa.Sx
set_option linter.unusedSimpArgs false
set_option linter.unusedVariables false

theorem two_split (s : Nat) : 2 ^ s = pw (s / 32) * 2 ^ (s % 32) := by
  unfold pw
  rw [show (4294967296 : Nat) = 2 ^ 32 by rfl, ← Nat.pow_mul, ← Nat.pow_add, Nat.div_add_mod]
theorem shr_parts (N s i : Nat) : N / 2 ^ s = N / pw (s / 32) / 2 ^ (s % 32) := by
  rw [two_split s, Nat.div_div_eq_div_mul]
theorem pq32 {r : Nat} (h : r ≤ 32) : 2 ^ r * 2 ^ (32 - r) = 4294967296 := by
  rw [← Nat.pow_add, show r + (32 - r) = 32 by omega]
theorem shrd_limb (N k r i : Nat) (hr : r ≤ 32) : limb (N / pw k / 2 ^ r) i = (limb N (i + k + 1) * 2 ^ (32 - r)) % 4294967296 + limb N (i + k) / 2 ^ r := by
  rw [shr_limb (pq32 hr) (Nat.two_pow_pos r), ← limb_up, ← limb_up, show k + (i + 1) = i + k + 1 by omega, show k + i = i + k by omega]
  have hx := limb_lt N (i + k)
  obtain ⟨x, hxx⟩ : ∃ x, x = limb N (i + k) := ⟨_, rfl⟩
  obtain ⟨y, hyy⟩ : ∃ x, x = limb N (i + k + 1) := ⟨_, rfl⟩
  have hpq := pq32 hr
  have hp := Nat.two_pow_pos r
  have hq := Nat.two_pow_pos (32 - r)
  rw [← hxx, ← hyy]
  rw [← hxx] at hx
  generalize 2 ^ r = p at *
  generalize 2 ^ (32 - r) = q at *
  have h1 : (y * 4294967296 + x) / p = y * q + x / p := by
    rw [← hpq, show y * (p * q) + x = x + y * q * p by rw [Nat.mul_comm p q]; rw [Nat.mul_assoc]; omega, Nat.add_mul_div_right _ _ hp, Nat.add_comm]
  have h2 : x / p < q := by rw [Nat.div_lt_iff_lt_mul hp, Nat.mul_comm, hpq]; exact hx
  rw [h1]
  have h3 : (y * q) % 4294967296 = (y % p) * q := by
    rw [← hpq, Nat.mul_mod_mul_right]
  have h4 : (y % p) * q + q ≤ 4294967296 := by
    have : (y % p + 1) * q ≤ p * q := Nat.mul_le_mul_right _ (Nat.mod_lt _ hp)
    rw [Nat.add_mul, Nat.one_mul, hpq] at this
    exact this
  rw [h3]
  have h5 : (y * q + x / p) % 4294967296 = ((y * q) % 4294967296 + x / p) % 4294967296 := by omega
  rw [h5, h3, Nat.mod_eq_of_lt (by omega)]
theorem shr_or (y x r : Nat) (hx : x < 4294967296) (hr : r ≤ 32) : ariI .or .u32 ((x / 2 ^ r : Nat) : Int) ((y * 2 ^ (32 - r) % 4294967296 : Nat) : Int) = ((y * 2 ^ (32 - r) % 4294967296 + x / 2 ^ r : Nat) : Int) := by
  have hpq := pq32 hr
  have hp := Nat.two_pow_pos r
  have hq := Nat.two_pow_pos (32 - r)
  have h2 : x / 2 ^ r < 2 ^ (32 - r) := by rw [Nat.div_lt_iff_lt_mul hp, Nat.mul_comm, hpq]; exact hx
  have h3 : (y * 2 ^ (32 - r)) % 4294967296 = (y % 2 ^ r) * 2 ^ (32 - r) := by
    rw [← hpq, Nat.mul_mod_mul_right]
  have h4 : (y * 2 ^ (32 - r)) % 4294967296 % 2 ^ (32 - r) = 0 := by rw [h3]; exact Nat.mul_mod_left ..
  have h5 : 2 ^ (32 - r) ≤ 4294967296 := by rw [show (4294967296 : Nat) = 2 ^ 32 by rfl]; exact Nat.pow_le_pow_right (by omega) (by omega)
  have h6 : (y * 2 ^ (32 - r)) % 4294967296 < 4294967296 := Nat.mod_lt _ (by omega)
  have := u32_or_nat (x / 2 ^ r) ((y * 2 ^ (32 - r)) % 4294967296) (by omega) h6
  rw [Nat.or_comm, nat_join (32 - r) _ _ h4 h2] at this
  exact this
theorem tdivN (a b : Nat) : ((a : Nat) : Int).tdiv ((b : Nat) : Int) = ((a / b : Nat) : Int) := rfl
theorem tmodN (a b : Nat) : ((a : Nat) : Int).tmod ((b : Nat) : Int) = ((a % b : Nat) : Int) := rfl
theorem limb_row {N i : Nat} (h : True) : (N % pw (i + 1)) = put (N % pw i) i (limb N i) := by
  rw [put_low _ (Nat.mod_lt _ (pw_pos i)), mod_pw]
theorem put_put (n j v w : Nat) (hv : v < 4294967296) (hw : w < 4294967296) : put (put n j v) j w = put n j w := by
  have h := put_add (put n j v) j w
  have h1 := put_add n j v
  have h2 := put_add n j w
  rw [limb_put _ _ _ _ hv, if_pos rfl] at h
  omega
set_option maxHeartbeats 2000000 in
theorem rshifted_loop (n s : Nat) (hn : n < pw 32) (hs : s ≤ 1024) (A : Nat) (hA : A = n / 2 ^ s) :
    Ev.holds Try.prog (env [.agg (mgk 32 n), .int .i64 (s : Nat), .int .i64 (32 - s / 32 : Nat), .agg (mgk 32 A)]) (.loop 87 0 divS87_0 divH87_0 (.exit 0) .none 2) := by
  have hq : (s : Int).tdiv 32 = ((s / 32 : Nat) : Int) := tdivN s 32
  have hr : (s : Int).tmod 32 = ((s % 32 : Nat) : Int) := tmodN s 32
  have hAk : A = n / pw (s / 32) / 2 ^ (s % 32) := by rw [hA, shr_parts n s 0]
  have hk : s / 32 ≤ 32 := by omega
  have hr2 : s % 32 ≤ 31 := by omega
  obtain ⟨k, hkk⟩ : ∃ k, k = s / 32 := ⟨_, rfl⟩
  obtain ⟨r, hrr⟩ : ∃ k, k = s % 32 := ⟨_, rfl⟩
  rw [← hkk] at hq hAk hk ⊢
  rw [← hrr] at hr hAk hr2
  refine loop_holds plain (m := 2) (x := .exit 0) (alt := none) [.agg (mgk 32 n), .int .i64 (s : Nat)] [.int .i64 (32 - k : Nat), .agg (mgk 32 A)] tShifted0_ok tShifted0_fine
    (fun vs => ∃ i : Nat, i ≤ 32 - k ∧ vs = [.int .i64 (i : Nat), .agg (mgk 32 (A % pw i))])
    (fun vs => 32 - (vInt (vs.getD 0 undef)).toNat) tShifted0_diff ?_ ?_
  · refine ⟨[.int .i64 (0 : Nat), .agg (mgk 32 (A % pw 0))], rfl, ⟨0, by omega, rfl⟩, ?_⟩
    have hz : rowCells (.agg (mgk 32 (A % pw 0))) 32 = List.replicate 32 (.int .u32 0) := by rw [rowCells_mgk, mod_pw_zero, mgl_zero]
    simp [tShifted0_d, BTm.den, Tm.i, Tm.s, Tm.den, env, vInt, vBool, vStr, exI, SW.den, SV.den, Cell.den, densP, Piece.den, denV, denT, hz]
  · rintro vs hl ⟨i, hi, rfl⟩
    clear hl
    have hsum : ((i : Int) + (k : Int)) = ((i + k : Nat) : Int) := by push_cast; rfl
    have hsum1 : ((i : Int) + (k : Int) + 1) = ((i + k + 1 : Nat) : Int) := by push_cast; rfl
    refine tree_ite ?_
    refine ev_fits ((i + k : Nat) : Int) (by simp [BTm.den, Tm.i, Tm.s, Tm.den, env, vInt, vBool, vStr, exI, hq]) (rng_i64 _ (by omega)) ?_
    refine ev_nil ⟨fun hlt => tree_ite ?_, fun hlt => tree_leaf (ev_nil ?_)⟩
    · have hlt : i + k < 32 := by
        have : (i : Int) + (k : Int) < 32 := by simpa [BTm.den, Tm.i, Tm.s, Tm.den, env, vInt, vBool, vStr, exI, hq] using hlt
        omega
      have hx := limb_lt n (i + k)
      have hy := limb_lt n (i + k + 1)
      have hL : limb A i = limb n (i + k + 1) * 2 ^ (32 - r) % 4294967296 + limb n (i + k) / 2 ^ r := by rw [hAk]; exact shrd_limb n k r i (by omega)
      have hor := shr_or (limb n (i + k + 1)) (limb n (i + k)) r hx (by omega)
      have hsl := shl32_of (limb n (i + k + 1)) (32 - r) (2 ^ (32 - r)) (by omega) rfl
      have hsr := shr_of (k := .u32) (limb n (i + k)) r (2 ^ r) (by show r ≤ 32; omega) rfl
      have hlr : limb n (i + k) / 2 ^ r < 4294967296 := Nat.lt_of_le_of_lt (Nat.div_le_self _ _) hx
      have hLl := limb_lt A i
      have hrow := limb_row (N := A) (i := i) trivial
      rw [← hL] at hor
      obtain ⟨L, hLL⟩ : ∃ L, L = limb A i := ⟨_, rfl⟩
      rw [← hLL] at hL hor hLl hrow
      obtain ⟨X, hX⟩ : ∃ L, L = limb n (i + k) / 2 ^ r := ⟨_, rfl⟩
      obtain ⟨Y, hY⟩ : ∃ L, L = limb n (i + k + 1) * 2 ^ (32 - r) % 4294967296 := ⟨_, rfl⟩
      rw [← hX] at hlr hsr hor hL
      rw [← hY] at hsl hor hL
      obtain ⟨W, hW⟩ : ∃ W, W = A % pw i := ⟨_, rfl⟩
      obtain ⟨W', hW'⟩ : ∃ W, W = A % pw (i + 1) := ⟨_, rfl⟩
      rw [← hW, ← hW'] at hrow
      rw [← hW]
      refine ev_fits ((i + k : Nat) : Int) (by simp [BTm.den, Tm.i, Tm.s, Tm.den, env, vInt, vBool, vStr, exI, hq]) (rng_i64 _ (by omega)) ?_
      refine ev_need (by simp [BTm.den, Tm.i, Tm.s, Tm.den, env, vInt, vBool, vStr, exI, hq] <;> omega) ?_
      refine ev_need (by simp [BTm.den, Tm.i, Tm.s, Tm.den, env, vInt, vBool, vStr, exI, hq] <;> omega) ?_
      refine ev_elem [.int .u32 (limb n (i + k) : Nat)] rfl rfl (l := mgl 32 n) (m := [.int .u32 (limb n (i + k) : Nat)]) (k := i + k) (by simp [BTm.den, Tm.i, Tm.s, Tm.den, env, vInt, vBool, vStr, exI, hq] <;> omega) (fun β => rowCells_mgk 32 n) (fun β => rfl) (mgl_elem (by omega)) ?_
      refine ev_need (by simp [BTm.den, Tm.i, Tm.s, Tm.den, env, vInt, vBool, vStr, exI, hr]) ?_
      refine ev_need (by simp [BTm.den, Tm.i, Tm.s, Tm.den, env, vInt, vBool, vStr, exI] <;> omega) ?_
      refine ev_need (by simp [BTm.den, Tm.i, Tm.s, Tm.den, env, vInt, vBool, vStr, exI] <;> omega) ?_
      have hput : mgl 32 (put W i X) = (mgl 32 W).take i ++ [.int .u32 (X : Nat)] ++ (mgl 32 W).drop (i + 1) := mgl_put (by omega) rfl hlr
      refine ev_put [.agg (mgk 32 (put W i X))] rfl rfl (l := mgl 32 W) (l' := mgl 32 (put W i X)) (m := [.int .u32 (X : Nat)]) (k := i) (by simp [BTm.den, Tm.i, Tm.s, Tm.den, env, vInt, vBool, vStr, exI] <;> omega) (fun β => rowCells_mgk 32 _) (fun β => rowCells_mgk 32 _) (fun β => ?_) hput (by rw [mgl_length]; simp; omega) ?_
      · simp [BTm.den, Tm.i, Tm.s, Tm.den, env, vInt, vBool, vStr, exI, SW.den, SV.den, Cell.den, densP, Piece.den, denV, denT, hr, hsr]
      have hfin : X = L → W' = put W i X := fun h => by rw [h]; exact hrow
      refine ev_nil ⟨fun h0 => tree_ite ?_, fun h0 => tree_leaf ?_⟩
      · have h0 : 0 < r := by simpa [BTm.den, Tm.i, Tm.s, Tm.den, env, vInt, vBool, vStr, exI, hr] using h0
        refine ev_fits ((i + k : Nat) : Int) (by simp [BTm.den, Tm.i, Tm.s, Tm.den, env, vInt, vBool, vStr, exI, hq]) (rng_i64 _ (by omega)) ?_
        refine ev_fits ((i + k + 1 : Nat) : Int) (by simp [BTm.den, Tm.i, Tm.s, Tm.den, env, vInt, vBool, vStr, exI, hq]) (rng_i64 _ (by omega)) ?_
        refine ev_nil ⟨fun h1 => tree_leaf ?_, fun h1 => tree_leaf ?_⟩
        · have h1 : i + k + 1 < 32 := by
            have : (i : Int) + (k : Int) + 1 < 32 := by simpa [BTm.den, Tm.i, Tm.s, Tm.den, env, vInt, vBool, vStr, exI, hq] using h1
            omega
          have hX2 : ((mgl 32 (put W i X)).drop i).take 1 = [.int .u32 ((X : Nat) : Int)] := by
            have := mgl_elem (n := put W i X) (show i < 32 by omega)
            rwa [limb_put _ _ _ _ hlr, if_pos rfl] at this
          refine ev_need (by simp [BTm.den, Tm.i, Tm.s, Tm.den, env, vInt, vBool, vStr, exI] <;> omega) ?_
          refine ev_need (by simp [BTm.den, Tm.i, Tm.s, Tm.den, env, vInt, vBool, vStr, exI] <;> omega) ?_
          refine ev_elem [.int .u32 (X : Nat)] rfl rfl (l := mgl 32 (put W i X)) (m := [.int .u32 (X : Nat)]) (k := i) (by simp [BTm.den, Tm.i, Tm.s, Tm.den, env, vInt, vBool, vStr, exI] <;> omega) (fun β => rowCells_mgk 32 _) (fun β => rfl) (hX2) ?_
          refine ev_fits ((i + k : Nat) : Int) (by simp [BTm.den, Tm.i, Tm.s, Tm.den, env, vInt, vBool, vStr, exI, hq]) (rng_i64 _ (by omega)) ?_
          refine ev_fits ((i + k + 1 : Nat) : Int) (by simp [BTm.den, Tm.i, Tm.s, Tm.den, env, vInt, vBool, vStr, exI, hq]) (rng_i64 _ (by omega)) ?_
          refine ev_need (by simp [BTm.den, Tm.i, Tm.s, Tm.den, env, vInt, vBool, vStr, exI, hq] <;> omega) ?_
          refine ev_need (by simp [BTm.den, Tm.i, Tm.s, Tm.den, env, vInt, vBool, vStr, exI, hq] <;> omega) ?_
          refine ev_elem [.int .u32 (limb n (i + k + 1) : Nat)] rfl rfl (l := mgl 32 n) (m := [.int .u32 (limb n (i + k + 1) : Nat)]) (k := i + k + 1) (by simp [BTm.den, Tm.i, Tm.s, Tm.den, env, vInt, vBool, vStr, exI, hq] <;> omega) (fun β => rowCells_mgk 32 n) (fun β => rfl) (mgl_elem (by omega)) ?_
          have hsub : ariI .sub .u64 32 ((r : Nat) : Int) = ((32 - r : Nat) : Int) := by
            simp only [ariI, IntKind.wrap_u64]; omega
          refine ev_need (by simp [BTm.den, Tm.i, Tm.s, Tm.den, env, vInt, vBool, vStr, exI, hr, hsub]) ?_
          refine ev_need (by simp [BTm.den, Tm.i, Tm.s, Tm.den, env, vInt, vBool, vStr, exI] <;> omega) ?_
          refine ev_need (by simp [BTm.den, Tm.i, Tm.s, Tm.den, env, vInt, vBool, vStr, exI] <;> omega) ?_
          have hput2 : mgl 32 W' = (mgl 32 (put W i X)).take i ++ [.int .u32 (L : Nat)] ++ (mgl 32 (put W i X)).drop (i + 1) := by
            rw [hrow, ← put_put W i X L hlr hLl]; exact mgl_put (by omega) rfl hLl
          refine ev_put [.agg (mgk 32 W')] rfl rfl (l := mgl 32 (put W i X)) (l' := mgl 32 W') (m := [.int .u32 (L : Nat)]) (k := i) (by simp [BTm.den, Tm.i, Tm.s, Tm.den, env, vInt, vBool, vStr, exI] <;> omega) (fun β => rowCells_mgk 32 _) (fun β => rowCells_mgk 32 _) (fun β => ?_) hput2 (by rw [mgl_length]; simp; omega) ?_
          · rw [← hor, ← hsl, ← hsub, ← hr]; simp [BTm.den, Tm.i, Tm.s, Tm.den, env, vInt, vBool, vStr, exI, SW.den, SV.den, Cell.den, densP, Piece.den, denV, denT]
          refine ev_fits (((i + 1 : Nat) : Int)) (by simp [BTm.den, Tm.i, Tm.s, Tm.den, env, vInt, vBool, vStr, exI]) (rng_i64 _ (by omega)) ?_
          refine ev_nil ⟨[.int .i64 (i + 1 : Nat), .agg (mgk 32 W')], rfl, ⟨i + 1, by omega, by rw [hW']⟩, ?_, ?_⟩
          · simp [vInt]; omega
          · simp [BTm.den, Tm.i, Tm.s, Tm.den, env, vInt, vBool, vStr, exI, SW.den, SV.den, Cell.den, densP, Piece.den, denV, denT]
        · have h1 : i + k + 1 = 32 := by
            have : ¬ (i : Int) + (k : Int) + 1 < 32 := by simpa [BTm.den, Tm.i, Tm.s, Tm.den, env, vInt, vBool, vStr, exI, hq] using h1
            omega
          have hY0 : Y = 0 := by rw [hY, h1, limb_of_ge hn, Nat.zero_mul, Nat.zero_mod]
          have e := hfin (by omega)
          refine ev_fits (((i + 1 : Nat) : Int)) (by simp [BTm.den, Tm.i, Tm.s, Tm.den, env, vInt, vBool, vStr, exI]) (rng_i64 _ (by omega)) ?_
          rw [← e]
          refine ev_nil ⟨[.int .i64 (i + 1 : Nat), .agg (mgk 32 W')], rfl, ⟨i + 1, by omega, by rw [hW']⟩, ?_, ?_⟩
          · simp [vInt]; omega
          · simp [BTm.den, Tm.i, Tm.s, Tm.den, env, vInt, vBool, vStr, exI, SW.den, SV.den, Cell.den, densP, Piece.den, denV, denT]
      · have h0 : r = 0 := by
          have : ¬ 0 < r := by simpa [BTm.den, Tm.i, Tm.s, Tm.den, env, vInt, vBool, vStr, exI, hr] using h0
          omega
        have hY0 : Y = 0 := by rw [hY, h0, show (2 : Nat) ^ (32 - 0) = 4294967296 by rfl, Nat.mul_mod_left]
        have e := hfin (by omega)
        refine ev_fits (((i + 1 : Nat) : Int)) (by simp [BTm.den, Tm.i, Tm.s, Tm.den, env, vInt, vBool, vStr, exI]) (rng_i64 _ (by omega)) ?_
        rw [← e]
        refine ev_nil ⟨[.int .i64 (i + 1 : Nat), .agg (mgk 32 W')], rfl, ⟨i + 1, by omega, by rw [hW']⟩, ?_, ?_⟩
        · simp [vInt]; omega
        · simp [BTm.den, Tm.i, Tm.s, Tm.den, env, vInt, vBool, vStr, exI, SW.den, SV.den, Cell.den, densP, Piece.den, denV, denT]
    · have hlt : i = 32 - k := by
        have : ¬ (i : Int) + (k : Int) < 32 := by simpa [BTm.den, Tm.i, Tm.s, Tm.den, env, vInt, vBool, vStr, exI, hq] using hlt
        omega
      subst hlt
      refine ⟨rfl, ?_⟩
      have hAs : A % pw (32 - k) = A := by
        refine Nat.mod_eq_of_lt ?_
        rw [hAk]
        refine Nat.lt_of_le_of_lt (Nat.div_le_self _ _) ?_
        rw [Nat.div_lt_iff_lt_mul (pw_pos k), ← pw_add, show 32 - k + k = 32 by omega]; exact hn
      rw [hAs]
      simp [BTm.den, Tm.i, Tm.s, Tm.den, env, vInt, vBool, vStr, exI, SW.den, SV.den, Cell.den, densP, Piece.den, denV, denT]
theorem rshifted (n s : Nat) (hn : n < pw 32) (hs : s ≤ 1024) : Gives Try.prog 87 #[.agg (mgk 32 n), .int .i64 ((s : Nat) : Int)] (.agg (mgk 32 (n / 2 ^ s))) := by
  obtain ⟨A, hA⟩ : ∃ A, A = n / 2 ^ s := ⟨_, rfl⟩
  have hl := rshifted_loop n s hn hs A hA
  rw [← hA]
  have hq : (s : Int).tdiv 32 = ((s / 32 : Nat) : Int) := tdivN s 32
  have hr : (s : Int).tmod 32 = ((s % 32 : Nat) : Int) := tmodN s 32
  have h := pure_of plain [.agg (mgk 32 n), .int .i64 (s : Nat)] tShifted_ok (by kernel_rfl) (.agg (mgk 32 A)) (tree_leaf ?_)
  · refine gives_pure ?_
    simpa [rowB, BTm.den, Tm.i, Tm.s, Tm.den, env, vInt, vBool, vStr, exI, SW.den, SV.den, Cell.den, densP, Piece.den, denV, denT, rowCells_mgk, mgl_agg] using h
  · refine ev_fits ((s / 32 : Nat) : Int) (by simp [BTm.den, Tm.i, Tm.s, Tm.den, env, vInt, vBool, vStr, exI, hq]) (rng_i64 _ (by omega)) ?_
    refine ev_fits ((s % 32 : Nat) : Int) (by simp [BTm.den, Tm.i, Tm.s, Tm.den, env, vInt, vBool, vStr, exI, hr]) (rng_i64 _ (by omega)) ?_
    refine ev_fits ((s % 32 : Nat) : Int) (by simp [BTm.den, Tm.i, Tm.s, Tm.den, env, vInt, vBool, vStr, exI, hr]) (rng_u64 _ (by omega)) ?_
    refine ev_loop [.int .i64 (32 - s / 32 : Nat), .agg (mgk 32 A)] rfl rfl hl (ev_nil fun β => ?_)
    simp [BTm.den, Tm.i, Tm.s, Tm.den, env, vInt, vBool, vStr, exI, SW.den, SV.den, Cell.den, densP, Piece.den, denV, denT, rowCells_mgk, mgl_agg]
end Go.Proofs.Ytlccefdjhiedcaa
end
section
namespace Go.Proofs.Ytlccefdjhiedcaa
open Go.RowKit Go.Proofs.Ytlccefdjhiedcaa.Sx
set_option linter.unusedSimpArgs false
set_option linter.unusedVariables false

theorem diff_limb (x y c : Nat) (hx : x < 4294967296) (hy : y < 4294967296) (hc : c ≤ 1) :
    IntKind.u32.wrap (ariI .sub .u64 (ariI .sub .u64 ((x : Nat) : Int) ((y : Nat) : Int)) ((c : Nat) : Int)) = (((x + 4294967296 - y - c) % 4294967296 : Nat) : Int) ∧
    shfI .shr .u64 (ariI .sub .u64 (ariI .sub .u64 ((x : Nat) : Int) ((y : Nat) : Int)) ((c : Nat) : Int)) 63 = ((brw x y c : Nat) : Int) := by
  have e : ariI .sub .u64 (ariI .sub .u64 ((x : Nat) : Int) ((y : Nat) : Int)) ((c : Nat) : Int) = (((x + 18446744073709551616 - y - c) % 18446744073709551616 : Nat) : Int) := by
    simp only [ariI, IntKind.wrap_u64]; omega
  rw [e]
  constructor
  · rw [wrap_u32]; congr 1; omega
  · have := shr_of (k := .u64) ((x + 18446744073709551616 - y - c) % 18446744073709551616) 63 9223372036854775808 (by decide) rfl
    rw [show ((63 : Nat) : Int) = 63 by rfl] at this
    rw [this]; congr 1
    unfold brw; split <;> omega
set_option maxHeartbeats 1000000 in
theorem rdiff_loop (n m : Nat) :
    Ev.holds Try.prog (env [.agg (mgk 32 n), .agg (mgk 32 m), .int .i64 (32 : Nat), .int .u64 (mbrw n m 32 : Nat), .agg (mgk 32 (mdif n m 32))]) (.loop 60 0 divS60_0 divH60_0 (.exit 0) .none 3) := by
  refine loop_holds plain (m := 3) (x := .exit 0) (alt := none) [.agg (mgk 32 n), .agg (mgk 32 m)] [.int .i64 (32 : Nat), .int .u64 (mbrw n m 32 : Nat), .agg (mgk 32 (mdif n m 32))] tDiff0_ok tDiff0_fine
    (fun vs => ∃ i : Nat, i ≤ 32 ∧ vs = [.int .i64 (i : Nat), .int .u64 (mbrw n m i : Nat), .agg (mgk 32 (mdif n m i))])
    (fun vs => 32 - (vInt (vs.getD 0 undef)).toNat) tDiff0_diff ?_ ?_
  · refine ⟨[.int .i64 (0 : Nat), .int .u64 (mbrw n m 0 : Nat), .agg (mgk 32 (mdif n m 0))], rfl, ⟨0, by omega, rfl⟩, ?_⟩
    have hz : rowCells (.agg (mgk 32 0)) 32 = List.replicate 32 (.int .u32 0) := by rw [rowCells_mgk, mgl_zero]
    rw [mbrw_zero, mdif_zero]
    simp [tDiff0_d, BTm.den, Tm.i, Tm.s, Tm.den, env, vInt, vBool, vStr, exI, SW.den, SV.den, Cell.den, densP, Piece.den, denV, denT, hz]
  · rintro vs hl ⟨i, hi, rfl⟩
    clear hl
    refine tree_ite (ev_nil ⟨fun hlt => tree_leaf ?_, fun hlt => tree_leaf (ev_nil ?_)⟩)
    · have hlt : i < 32 := by
        have : (i : Int) < 32 := by simpa [BTm.den, Tm.i, Tm.s, Tm.den, env, vInt, vBool, vStr, exI] using hlt
        omega
      have hx := limb_lt n i
      have hy := limb_lt m i
      have hc := mbrw_le n m i
      obtain ⟨h1, h2⟩ := diff_limb (limb n i) (limb m i) (mbrw n m i) hx hy hc
      have h3 := mbrw_next n m i
      have h4 := mdif_next n m i
      have h5 := mdif_lt n m i
      rw [← h3] at h2
      obtain ⟨c, hcc⟩ : ∃ c, c = mbrw n m i := ⟨_, rfl⟩
      obtain ⟨c', hcc'⟩ : ∃ c, c = mbrw n m (i + 1) := ⟨_, rfl⟩
      obtain ⟨W, hW⟩ : ∃ c, c = mdif n m i := ⟨_, rfl⟩
      obtain ⟨W', hW'⟩ : ∃ c, c = mdif n m (i + 1) := ⟨_, rfl⟩
      rw [← hcc, ← hW, ← hW'] at h4
      rw [← hcc] at h1 h2 hc
      rw [← hcc'] at h2
      rw [← hW] at h5
      rw [← hcc, ← hW]
      refine ev_need (by simp [BTm.den, Tm.i, Tm.s, Tm.den, env, vInt, vBool, vStr, exI] <;> omega) ?_
      refine ev_need (by simp [BTm.den, Tm.i, Tm.s, Tm.den, env, vInt, vBool, vStr, exI] <;> omega) ?_
      refine ev_elem [.int .u32 (limb n i : Nat)] rfl rfl (l := mgl 32 n) (m := [.int .u32 (limb n i : Nat)]) (k := i) (by simp [BTm.den, Tm.i, Tm.s, Tm.den, env, vInt, vBool, vStr, exI] <;> omega) (fun β => rowCells_mgk 32 n) (fun β => rfl) (mgl_elem (by omega)) ?_
      refine ev_fits ((limb n i : Nat)) (by simp [BTm.den, Tm.i, Tm.s, Tm.den, env, vInt, vBool, vStr, exI]) (rng_u64 _ (by omega)) ?_
      refine ev_need (by simp [BTm.den, Tm.i, Tm.s, Tm.den, env, vInt, vBool, vStr, exI] <;> omega) ?_
      refine ev_need (by simp [BTm.den, Tm.i, Tm.s, Tm.den, env, vInt, vBool, vStr, exI] <;> omega) ?_
      refine ev_elem [.int .u32 (limb m i : Nat)] rfl rfl (l := mgl 32 m) (m := [.int .u32 (limb m i : Nat)]) (k := i) (by simp [BTm.den, Tm.i, Tm.s, Tm.den, env, vInt, vBool, vStr, exI] <;> omega) (fun β => rowCells_mgk 32 m) (fun β => rfl) (mgl_elem (by omega)) ?_
      refine ev_fits ((limb m i : Nat)) (by simp [BTm.den, Tm.i, Tm.s, Tm.den, env, vInt, vBool, vStr, exI]) (rng_u64 _ (by omega)) ?_
      refine ev_need (by simp [BTm.den, Tm.i, Tm.s, Tm.den, env, vInt, vBool, vStr, exI] <;> omega) ?_
      refine ev_need (by simp [BTm.den, Tm.i, Tm.s, Tm.den, env, vInt, vBool, vStr, exI] <;> omega) ?_
      obtain ⟨D, hD⟩ : ∃ D, D = (limb n i + 4294967296 - limb m i - c) % 4294967296 := ⟨_, rfl⟩
      have hDl : D < 4294967296 := by omega
      rw [← hD] at h1 h4
      have hput : mgl 32 W' = (mgl 32 W).take i ++ [.int .u32 (D : Nat)] ++ (mgl 32 W).drop (i + 1) := by
        rw [h4, ← put_low _ h5]; exact mgl_put (by omega) rfl hDl
      refine ev_put [.agg (mgk 32 W')] rfl rfl (l := mgl 32 W) (l' := mgl 32 W') (m := [.int .u32 (D : Nat)]) (k := i) (by simp [BTm.den, Tm.i, Tm.s, Tm.den, env, vInt, vBool, vStr, exI] <;> omega) (fun β => rowCells_mgk 32 _) (fun β => rowCells_mgk 32 _) (fun β => ?_) hput (by rw [mgl_length]; simp; omega) ?_
      · rw [← h1]; simp [BTm.den, Tm.i, Tm.s, Tm.den, env, vInt, vBool, vStr, exI, SW.den, SV.den, Cell.den, densP, Piece.den, denV, denT]
      refine ev_fits (((i + 1 : Nat) : Int)) (by simp [BTm.den, Tm.i, Tm.s, Tm.den, env, vInt, vBool, vStr, exI]) (rng_i64 _ (by omega)) ?_
      refine ev_nil ⟨[.int .i64 (i + 1 : Nat), .int .u64 (c' : Nat), .agg (mgk 32 W')], rfl, ⟨i + 1, by omega, by rw [hcc', hW']⟩, ?_, ?_⟩
      · simp [vInt]; omega
      · rw [← h2]; simp [BTm.den, Tm.i, Tm.s, Tm.den, env, vInt, vBool, vStr, exI, SW.den, SV.den, Cell.den, densP, Piece.den, denV, denT]
    · have hlt : i = 32 := by
        have : ¬ (i : Int) < 32 := by simpa [BTm.den, Tm.i, Tm.s, Tm.den, env, vInt, vBool, vStr, exI] using hlt
        omega
      subst hlt
      exact ⟨rfl, by simp [BTm.den, Tm.i, Tm.s, Tm.den, env, vInt, vBool, vStr, exI, SW.den, SV.den, Cell.den, densP, Piece.den, denV, denT]⟩
theorem mdif_all {n m : Nat} (hn : n < pw 32) (hm : m < pw 32) : mdif n m 32 = (n + pw 32 - m) % pw 32 := by
  unfold mdif; rw [Nat.mod_eq_of_lt hn, Nat.mod_eq_of_lt hm]
theorem rdiff_any (n m : Nat) : Gives Try.prog 60 #[.agg (mgk 32 n), .agg (mgk 32 m)] (.agg (mgk 32 (mdif n m 32))) := by
  have h := pure_of plain [.agg (mgk 32 n), .agg (mgk 32 m)] tDiff_ok (by kernel_rfl) (.agg (mgk 32 (mdif n m 32))) (tree_leaf ?_)
  · refine gives_pure ?_
    simpa [rowB, BTm.den, Tm.i, Tm.s, Tm.den, env, vInt, vBool, vStr, exI, SW.den, SV.den, Cell.den, densP, Piece.den, denV, denT, rowCells_mgk, mgl_agg] using h
  · have hl := rdiff_loop n m
    generalize mdif n m 32 = V at *
    generalize mbrw n m 32 = c at *
    refine ev_loop [.int .i64 (32 : Nat), .int .u64 (c : Nat), .agg (mgk 32 V)] rfl rfl hl (ev_nil fun β => ?_)
    simp [BTm.den, Tm.i, Tm.s, Tm.den, env, vInt, vBool, vStr, exI, SW.den, SV.den, Cell.den, densP, Piece.den, denV, denT, rowCells_mgk, mgl_agg]
theorem two_join (n : Nat) (hn : n < pw 2) : limb n 1 * 4294967296 + limb n 0 = n := by
  have h1 := mod_pw n 1
  have h0 := mod_pw n 0
  rw [mod_pw_zero] at h0
  rw [pw_zero] at h0
  rw [Nat.mod_eq_of_lt hn, h0, pw_one] at h1
  omega
theorem join_limbs (n : Nat) : ariI .or .u64 (shfI .shl .u64 ((limb n 1 : Nat) : Int) 32) ((limb n 0 : Nat) : Int) = ((limb n 1 * 4294967296 + limb n 0 : Nat) : Int) := by
  have h1 := limb_lt n 1
  have h0 := limb_lt n 0
  have := shl64_of (limb n 1) 32 4294967296 (by omega) rfl
  rw [show ((32 : Nat) : Int) = 32 by rfl] at this
  rw [this, Nat.mod_eq_of_lt (by omega)]
  exact ari_or64 (s := 32) _ _ (by omega) (by omega) (by omega) (by omega)
theorem rlow (n : Nat) (hn : n < pw 2) : Gives Try.prog 86 #[.agg (mgk 32 n)] (.int .u64 ((n : Nat) : Int)) := by
  have h := pure_of plain [.agg (mgk 32 n)] tLow_ok (by kernel_rfl) (.int .u64 ((n : Nat) : Int)) (tree_leaf ?_)
  · refine gives_pure ?_
    simpa [rowB, BTm.den, Tm.i, Tm.s, Tm.den, env, vInt, vBool, vStr, exI, SW.den, SV.den, Cell.den, densP, Piece.den, denV, denT, rowCells_mgk, mgl_agg] using h
  · have h1 := limb_lt n 1
    have h0 := limb_lt n 0
    have hj := join_limbs n
    rw [two_join n hn] at hj
    refine ev_elem [.int .u32 (limb n 1 : Nat)] rfl rfl (l := mgl 32 n) (m := [.int .u32 (limb n 1 : Nat)]) (k := 1) (by simp [BTm.den, Tm.i, Tm.s, Tm.den, env, vInt, vBool, vStr, exI] <;> omega) (fun β => rowCells_mgk 32 n) (fun β => rfl) (mgl_elem (by omega)) ?_
    refine ev_fits ((limb n 1 : Nat)) (by simp [BTm.den, Tm.i, Tm.s, Tm.den, env, vInt, vBool, vStr, exI]) (rng_u64 _ (by omega)) ?_
    refine ev_elem [.int .u32 (limb n 0 : Nat)] rfl rfl (l := mgl 32 n) (m := [.int .u32 (limb n 0 : Nat)]) (k := 0) (by simp [BTm.den, Tm.i, Tm.s, Tm.den, env, vInt, vBool, vStr, exI] <;> omega) (fun β => rowCells_mgk 32 n) (fun β => rfl) (mgl_elem (by omega)) ?_
    refine ev_fits ((limb n 0 : Nat)) (by simp [BTm.den, Tm.i, Tm.s, Tm.den, env, vInt, vBool, vStr, exI]) (rng_u64 _ (by omega)) ?_
    refine ev_nil fun β => ?_
    rw [← hj]
    simp [BTm.den, Tm.i, Tm.s, Tm.den, env, vInt, vBool, vStr, exI, SW.den, SV.den, Cell.den, densP, Piece.den, denV, denT]
theorem mgl_two (n : Nat) (hn : n < pw 2) : mgl 32 n = .int .u32 ((limb n 0 : Nat) : Int) :: .int .u32 ((limb n 1 : Nat) : Int) :: List.replicate 30 (.int .u32 0) := by
  apply List.ext_getElem?
  intro i
  by_cases hi : i < 32
  · rw [mgl_get hi]
    rcases Nat.lt_or_ge i 2 with h | h
    · rcases (by omega : i = 0 ∨ i = 1) with rfl | rfl <;> rfl
    · obtain ⟨j, rfl⟩ : ∃ j, i = j + 2 := ⟨i - 2, by omega⟩
      rw [limb_of_ge (Nat.lt_of_lt_of_le hn (pw_le h))]
      rw [List.getElem?_cons_succ, List.getElem?_cons_succ, List.getElem?_replicate, if_pos (by omega)]; rfl
  · rw [List.getElem?_eq_none (by rw [mgl_length]; omega), List.getElem?_eq_none (by simp; omega)]
theorem rsmall (n : Nat) (hn : n < pw 2) : Gives Try.prog 85 #[.int .u64 ((n : Nat) : Int)] (.agg (mgk 32 n)) := by
  have h := pure_of plain [.int .u64 (n : Nat)] tSmall_ok (by kernel_rfl) (.agg (mgk 32 n)) (tree_leaf (ev_nil fun β => ?_))
  · refine gives_pure ?_
    simpa [rowB, BTm.den, Tm.i, Tm.s, Tm.den, env, vInt, vBool, vStr, exI, SW.den, SV.den, Cell.den, densP, Piece.den, denV, denT, rowCells_mgk, mgl_agg] using h
  · rw [← mgl_agg, mgl_two n hn]
    have e0 : limb n 0 = n % 4294967296 := by unfold limb; rw [div_pw_zero]
    have e1 : limb n 1 = n / 4294967296 % 4294967296 := by unfold limb; rw [pw_one]
    have := shr32 n
    rw [e0, e1, ← wrap_u32, ← wrap_u32, ← this]
    simp [BTm.den, Tm.i, Tm.s, Tm.den, env, vInt, vBool, vStr, exI, SW.den, SV.den, Cell.den, densP, Piece.den, denV, denT]
end Go.Proofs.Ytlccefdjhiedcaa
end
section
namespace Go.Proofs.Ytlccefdjhiedcaa
open Go.RowKit
set_option linter.unusedVariables false

set_option maxHeartbeats 400000 in
theorem rneg_any (s : Bool) (n : Nat) (hn : n < pw 32) : Gives Try.prog 11 #[.agg (iv s n)] (.agg (ivZ (-vz s n))) := by
  intro w
  have hS := St.start w
  have HN := Lib.hid hn
  have GC := rcanon (!s) n hn
  clear hn
  rw [← vz_not]
  go_enter Try.func11, Try.ntmps11
  go_wp2_with (first | ((with_reducible refine L_box? ?_); (refine L_box_agg hS rfl rfl ?_; refine ⟨_, rfl, ?_⟩; clear hS; intro _ _ hS)) | ((with_reducible refine L_alloc? ?_); (refine L_alloc_agg hS rfl rfl ?_; refine ⟨_, zero25, ?_⟩; clear hS; intro _ _ hS)) | ((with_reducible refine L_slot 7 ?_); (refine L_load (t := 23) rfl rfl ?_; refine ⟨_, run_load_mid hS _ _ rfl _ _ rfl _ _ (.inl (.tail _ (.head _))) _ Try.underlying23 rfl (mgk 32 _) (size23_mg _) (fun k _ => iv_mag _ _ k), ?_⟩)) | ((with_reducible refine L_slot 4 ?_); (refine L_load (t := 4) rfl rfl ?_; refine ⟨_, run_load_cell hS _ _ rfl _ _ rfl _ _ (.inl (.tail _ (.head _))) _ Try.underlying4 rfl _ (iv_neg _ _), ?_⟩)) | (go_at_call 29; (with_reducible refine Gives.use (GC) hS ?_); clear hS; intro _ hS) | ((with_reducible refine L_store? ?_); (refine L_store (t := 25) hS rfl rfl ?_; refine ⟨_, _, _, _, _, (.head), run_store_row hS _ _ _ rfl _ rfl _ _ rfl _ (.head) (size25_iv _ _) (iv_sizes _ _ _ _) (oneCells_iv _ _), ?_⟩; clear hS; intro _ hS)))
  (try simp only [Exit.inBlock, Exit.then]); refine bodyPost_ret (res_cell rfl hS _ _ _ _ (.inl (.head _)) rfl _ Try.underlying25 rfl (size25_iv _ _)) rfl ⟨?_, hS.below⟩
  rfl

end Go.Proofs.Ytlccefdjhiedcaa
end
section
namespace Go.Proofs.Ytlccefdjhiedcaa
open Go.RowKit
set_option linter.unusedVariables false

theorem bl_half {v : Nat} (h : v ≠ 0) : bl v = bl (v / 2) + 1 := by
  by_cases h2 : v / 2 = 0
  · have : v = 1 := by omega
    subst this
    rw [h2, bl_zero]
    exact bl_is (k := 0) (by omega) (by omega)
  · have := bl_shift (n := v) (k := 1) (by simpa using h2)
    rw [show v / 2 ^ 1 = v / 2 by simp] at this
    omega
set_option maxRecDepth 10000 in
set_option maxHeartbeats 1000000 in
theorem rbits_loop (s : Bool) (n kk j v0 Bn : Nat) (HI : Hid ((iv s n)[1 + j]? = some (.int .u32 ((v0 : Nat) : Int)))) (hvb : v0 < 4294967296) (HB : Hid (Bn = j * 32 + bl v0)) (htop : Bn ≤ 1024) (hj : j ≤ 31) (hk0 : (((kk : Nat) : Int) == 0) = false) (hk1 : ((kk : Nat) : Int) - 1 = ((j : Nat) : Int))
    (GL : Gives Try.prog 57 #[.agg (mgk 32 n)] (.int .i64 ((kk : Nat) : Int))) : Gives Try.prog 68 #[.agg (iv s n)] (.int .i64 ((Bn : Nat) : Int)) := by
  intro w
  have hS := St.start w
  go_enter Try.func68, Try.ntmps68
  go_wp2_with (first | ((with_reducible refine L_slot 1 ?_); (refine L_box_agg (o := ⟨some 1, _, _, _, _, _⟩) hS rfl rfl ?_; refine ⟨_, rfl, ?_⟩; clear hS; intro b1 _ hS)) | ((with_reducible refine L_slot 7 ?_); (refine L_load (t := 23) rfl rfl ?_; refine ⟨_, run_load_mid hS _ _ rfl _ _ rfl _ _ (.inl (.head _)) _ Try.underlying23 rfl (mgk 32 _) (size23_mg _) (fun k _ => iv_mag _ _ k), ?_⟩)) | (go_at_call 57; (with_reducible refine Gives.use (GL) hS ?_); clear hS; intro _ hS) | ((with_reducible refine L_slot 18 ?_); (refine L_load (t := 22) rfl rfl ?_; refine ⟨_, run_load_cell hS _ _ rfl _ _ rfl _ _ (.inl (.head _)) _ Try.underlying22 rfl _ (HI.out), ?_⟩)))
  go_loopw [4, 5] (fun kv vv wr => ∃ k v : Nat, kv = .int .i64 ((k : Nat) : Int) ∧ vv = .int .u32 ((v : Nat) : Int) ∧ v < 4294967296 ∧ k ≤ 1024 ∧ Hid (k + bl v = Bn) ∧ St none w wr [] [(b1, .cells (iv s n) 25)]) (fun _ vv _ => (intOf vv).toNat)
  case atStart => exact ⟨j * 32, v0, congrArg (Value.int .i64) (by omega), rfl, hvb, by omega, HB.out.symm, hS⟩
  case round =>
    clear hS
    obtain ⟨k, v, rfl, rfl, hv, hk, HK, hS⟩ := hrel
    by_cases h0 : v = 0
    · subst h0
      have HE : Hid (k = Bn) := by have := HK.out; rw [bl_zero] at this; exact this
      go_wp2_with (fail)
      go_ret
      exact ⟨by rw [← HE.out]; rfl, hS.below⟩
    · have hp : (0 : Int) < ((v : Nat) : Int) := by omega
      have hp2 : 0 < v := by omega
      have hp3 : decide (0 < v) = true := decide_eq_true hp2
      have hp4 : decide ((0 : Int) < ((v : Nat) : Int)) = true := decide_eq_true hp
      have hh := bl_half h0
      have HN : Hid (k + 1 + bl (v / 2) = Bn) := by have := HK.out; show _ = _; omega
      have hk' : k + 1 ≤ 1024 := by have := HK.out; omega
      clear hh h0
      go_wp2_with (fail)
      go_roundw
      case rel => exact ⟨k + 1, v / 2, congrArg (Value.int .i64) (by omega), congrArg (Value.int .u32) (by omega), by omega, hk', HN, hS⟩
      case measure => simp [intOf]; omega
set_option maxRecDepth 10000 in
set_option maxHeartbeats 1000000 in
theorem rbits_any (s : Bool) (n : Nat) (hn : n < pw 32) : Gives Try.prog 68 #[.agg (iv s n)] (.int .i64 ((bl n : Nat) : Int)) := by
  have GL := rlimbs_any n
  obtain ⟨k, hk⟩ : ∃ k, nl n = k := ⟨_, rfl⟩
  rw [hk] at GL
  have hkb : k ≤ 32 := by rw [← hk]; exact nl_le n
  rcases k with _ | j
  · have h0 : n = 0 := (nl_zero_iff hn).1 hk
    subst h0
    intro w
    have hS := St.start w
    have e : ((bl 0 : Nat) : Int) = 0 := rfl
    rw [e]
    clear hk hn e
    go_enter Try.func68, Try.ntmps68
    go_wp2_with (first | ((with_reducible refine L_box? ?_); (refine L_box_agg hS rfl rfl ?_; refine ⟨_, rfl, ?_⟩; clear hS; intro _ _ hS)) | ((with_reducible refine L_slot 7 ?_); (refine L_load (t := 23) rfl rfl ?_; refine ⟨_, run_load_mid hS _ _ rfl _ _ rfl _ _ (.inl (.head _)) _ Try.underlying23 rfl (mgk 32 _) (size23_mg _) (fun k _ => iv_mag _ _ k), ?_⟩)) | (go_at_call 57; (with_reducible refine Gives.use (GL) hS ?_); clear hS; intro _ hS))
    go_ret
    exact ⟨rfl, hS.below⟩
  · have ht0 : limb n j ≠ 0 := by
      rcases nl_top n with h | h
      · omega
      · rw [hk] at h; exact h
    have hb := bl_limb (n := n) (j := j) (by have := nl_lt hn; rwa [hk] at this) ht0
    exact rbits_loop s n (j + 1) j (limb n j) (bl n) (iv_limb (s := s) (n := n) (k := j) (by omega)) (limb_lt n j) hb (bl_top hn) (by omega) (by simp; omega) (by omega) GL
end Go.Proofs.Ytlccefdjhiedcaa
end
section
namespace Go.Proofs.Ytlccefdjhiedcaa
open Go.RowKit Go.Proofs.Ytlccefdjhiedcaa.Sx
set_option linter.unusedSimpArgs false
set_option linter.unusedVariables false

theorem half_bit (A i : Nat) : A / 2 ^ i = 2 * (A / 2 ^ (i + 1)) + A / 2 ^ i % 2 := by
  rw [Nat.pow_succ, ← Nat.div_div_eq_div_mul]; omega
theorem bit_step {A B i : Nat} (hB : 0 < B) :
    A / 2 ^ i % B = (if B ≤ 2 * (A / 2 ^ (i + 1) % B) + A / 2 ^ i % 2 then 2 * (A / 2 ^ (i + 1) % B) + A / 2 ^ i % 2 - B else 2 * (A / 2 ^ (i + 1) % B) + A / 2 ^ i % 2) ∧
    A / 2 ^ i / B = 2 * (A / 2 ^ (i + 1) / B) + (if B ≤ 2 * (A / 2 ^ (i + 1) % B) + A / 2 ^ i % 2 then 1 else 0) := by
  have h := half_bit A i
  have hb : A / 2 ^ i % 2 < 2 := Nat.mod_lt _ (by omega)
  generalize A / 2 ^ i % 2 = b at *
  generalize A / 2 ^ i = D at *
  generalize A / 2 ^ (i + 1) = C at *
  have h1 := Nat.div_add_mod C B
  have h2 := Nat.mod_lt C hB
  generalize C / B = Q at *
  generalize C % B = R at *
  have e : 2 * (B * Q) = B * (2 * Q) := by rw [Nat.mul_left_comm]
  have e2 : B * (2 * Q + 1) = B * (2 * Q) + B := by rw [Nat.mul_add, Nat.mul_one]
  split
  · rename_i hle
    have hD : D = (2 * R + b - B) + B * (2 * Q + 1) := by omega
    have hlt : 2 * R + b - B < B := by omega
    rw [hD, Nat.add_mul_mod_self_left, Nat.mod_eq_of_lt hlt, Nat.add_mul_div_left _ _ hB, Nat.div_eq_of_lt hlt]
    omega
  · rename_i hle
    have hD : D = (2 * R + b) + B * (2 * Q) := by omega
    have hlt : 2 * R + b < B := by omega
    rw [hD, Nat.add_mul_mod_self_left, Nat.mod_eq_of_lt hlt, Nat.add_mul_div_left _ _ hB, Nat.div_eq_of_lt hlt]
    omega
theorem bit_limb (A i : Nat) : limb A (i / 32) / 2 ^ (i % 32) % 2 = A / 2 ^ i % 2 := by
  have hr : i % 32 < 32 := Nat.mod_lt _ (by omega)
  rw [shr_parts A i 0]
  unfold limb
  generalize A / pw (i / 32) = M
  rw [← pq32 (Nat.le_of_lt hr), Nat.mod_mul_right_div_self, Nat.mod_mod_of_dvd]
  exact ⟨2 ^ (31 - i % 32), by rw [Nat.mul_comm, ← Nat.pow_succ]; congr 1; omega⟩
theorem and_one32 (x : Nat) (hx : x < 4294967296) : ariI .and .u32 ((x : Nat) : Int) 1 = ((x % 2 : Nat) : Int) := by
  have := u32_and_nat x 1 hx (by omega)
  rw [Nat.and_one_is_mod] at this
  exact this
theorem quo_bit (Q i : Nat) (hlt : Q * 2 ^ (i + 1) < pw 32) :
    ariI .or .u32 ((limb (Q * 2 ^ (i + 1)) (i / 32) : Nat) : Int) ((2 ^ (i % 32) : Nat) : Int) = ((limb (Q * 2 ^ (i + 1)) (i / 32) + 2 ^ (i % 32) : Nat) : Int) ∧ limb (Q * 2 ^ (i + 1)) (i / 32) + 2 ^ (i % 32) < 4294967296 ∧ put (Q * 2 ^ (i + 1)) (i / 32) (limb (Q * 2 ^ (i + 1)) (i / 32) + 2 ^ (i % 32)) = (2 * Q + 1) * 2 ^ i := by
  have hr : i % 32 < 32 := Nat.mod_lt _ (by omega)
  have hs : 2 ^ (i + 1) = 2 ^ (i % 32 + 1) * pw (i / 32) := by
    rw [Nat.pow_succ, two_split i, Nat.pow_succ, Nat.mul_comm (pw _)]; ac_rfl
  have hl : limb (Q * 2 ^ (i + 1)) (i / 32) % 2 ^ (i % 32 + 1) = 0 := by
    unfold limb
    rw [hs, ← Nat.mul_assoc, Nat.mul_div_cancel _ (pw_pos _)]
    have := pq32 (show i % 32 + 1 ≤ 32 by omega)
    rw [← this, Nat.mod_mul_right_mod, Nat.mul_mod_left]
  have hp : put (Q * 2 ^ (i + 1)) (i / 32) (limb (Q * 2 ^ (i + 1)) (i / 32) + 2 ^ (i % 32)) = (2 * Q + 1) * 2 ^ i := by
    have h := put_add (Q * 2 ^ (i + 1)) (i / 32) (limb (Q * 2 ^ (i + 1)) (i / 32) + 2 ^ (i % 32))
    rw [Nat.add_mul _ _ (pw _)] at h
    have h2 : 2 ^ (i % 32) * pw (i / 32) = 2 ^ i := by rw [two_split i, Nat.mul_comm]
    have h3 : Q * 2 ^ (i + 1) = 2 * Q * 2 ^ i := by rw [Nat.pow_succ]; ac_rfl
    rw [h2] at h
    have h4 : (2 * Q + 1) * 2 ^ i = 2 * Q * 2 ^ i + 2 ^ i := by rw [Nat.add_mul, Nat.one_mul]
    omega
  have hll := limb_lt (Q * 2 ^ (i + 1)) (i / 32)
  generalize limb (Q * 2 ^ (i + 1)) (i / 32) = x at *
  have hpp := pq32 (show i % 32 + 1 ≤ 32 by omega)
  have hpr : 2 ^ (i % 32 + 1) = 2 * 2 ^ (i % 32) := by rw [Nat.pow_succ, Nat.mul_comm]
  have hpos := Nat.two_pow_pos (i % 32)
  have hb : x + 2 ^ (i % 32 + 1) ≤ 4294967296 := by
    have h1 := Nat.div_add_mod x (2 ^ (i % 32 + 1))
    rw [hl, Nat.add_zero] at h1
    have h2 : x / 2 ^ (i % 32 + 1) < 2 ^ (32 - (i % 32 + 1)) := by
      rw [Nat.div_lt_iff_lt_mul (Nat.two_pow_pos _), Nat.mul_comm, hpp]; exact hll
    have h3 : 2 ^ (i % 32 + 1) * (x / 2 ^ (i % 32 + 1) + 1) ≤ 4294967296 := by
      rw [← hpp]; exact Nat.mul_le_mul_left _ h2
    rw [Nat.mul_add, Nat.mul_one, h1] at h3
    exact h3
  exact ⟨ari_or32 (s := i % 32 + 1) x (2 ^ (i % 32)) hll (by omega) (by omega) hl, by omega, hp⟩
theorem one_shl {r : Nat} (hr : r < 32) : shfI .shl .u32 1 ((r : Nat) : Int) = ((2 ^ r : Nat) : Int) := by
  have := shl32_of 1 r (2 ^ r) (by omega) rfl
  rw [Nat.one_mul, Nat.mod_eq_of_lt] at this
  · exact this
  · rw [show (4294967296 : Nat) = 2 ^ 32 by rfl]; exact Nat.pow_lt_pow_right (by omega) hr
theorem cmpv_neg (a b : Nat) : cmpv a b < 0 ↔ a < b := by unfold cmpv; split <;> (try split) <;> omega

set_option maxHeartbeats 2000000 in
theorem rdivide_loop (A B s0 : Nat) (la lb ba bb : Int) (W0 : Nat) (hA : A < pw 32) (hB : 0 < B) (hBl : B < pw 32) (h0 : W0 = A / 2 ^ s0) (hlt : A / 2 ^ s0 < B) (hs : s0 ≤ 1024) (hst : ba - (bb - 1) - 1 = (s0 : Int) - 1) (Qe Re : Nat) (hQe : Qe = A / B) (hRe : Re = A % B) :
    Ev.holds Try.prog (env [.agg (mgk 32 A), .agg (mgk 32 B), .int .i64 (la : Int), .int .i64 (ba : Int), .int .i64 (bb : Int), .agg (mgk 32 W0), .int .i64 (-1), .agg (mgk 32 Qe), .agg (mgk 32 Re)]) (.loop 66 0 divS66_0 divH66_0 (.exit 0) .none 3) := by
  refine loop_holds plain (m := 3) (x := .exit 0) (alt := none) [.agg (mgk 32 A), .agg (mgk 32 B), .int .i64 (la : Int), .int .i64 (ba : Int), .int .i64 (bb : Int), .agg (mgk 32 W0)] [.int .i64 (-1), .agg (mgk 32 Qe), .agg (mgk 32 Re)] tDivide0_ok tDivide0_fine
    (fun vs => ∃ j : Nat, j ≤ s0 ∧ vs = [.int .i64 ((j : Int) - 1), .agg (mgk 32 (A / 2 ^ j / B * 2 ^ j)), .agg (mgk 32 (A / 2 ^ j % B))])
    (fun vs => (vInt (vs.getD 0 undef) + 1).toNat) tDivide0_diff ?_ ?_
  · refine ⟨[.int .i64 ((s0 : Int) - 1), .agg (mgk 32 (A / 2 ^ s0 / B * 2 ^ s0)), .agg (mgk 32 (A / 2 ^ s0 % B))], rfl, ⟨s0, by omega, rfl⟩, ?_⟩
    rw [Nat.div_eq_of_lt hlt, Nat.mod_eq_of_lt hlt, Nat.zero_mul, ← h0]
    have hz : rowCells (.agg (mgk 32 0)) 32 = List.replicate 32 (.int .u32 0) := by rw [rowCells_mgk, mgl_zero]
    simp [tDivide0_d, BTm.den, Tm.i, Tm.s, Tm.den, env, vInt, vBool, vStr, exI, SW.den, SV.den, Cell.den, densP, Piece.den, denV, denT, hz]
    omega
  · rintro vs hl ⟨j, hj, rfl⟩
    clear hl
    rcases j with _ | i
    · refine tree_ite (ev_nil (way_true (by simp [BTm.den, Tm.i, Tm.s, Tm.den, env, vInt, vBool, vStr, exI]) (tree_leaf (ev_nil ⟨rfl, ?_⟩))))
      have e1 : A / 2 ^ 0 / B * 2 ^ 0 = Qe := by rw [hQe, Nat.pow_zero, Nat.div_one, Nat.mul_one]
      have e2 : A / 2 ^ 0 % B = Re := by rw [hRe, Nat.pow_zero, Nat.div_one]
      rw [e1, e2]
      simp [BTm.den, Tm.i, Tm.s, Tm.den, env, vInt, vBool, vStr, exI, SW.den, SV.den, Cell.den, densP, Piece.den, denV, denT]
    · rw [show (((i + 1 : Nat) : Int) - 1) = ((i : Nat) : Int) by omega]
      have hqb := quo_bit (A / 2 ^ (i + 1) / B) i (Nat.lt_of_le_of_lt (Nat.le_trans (Nat.mul_le_mul_right _ (Nat.div_le_self _ _)) (Nat.div_mul_le_self _ _)) hA)
      obtain ⟨hbs1, hbs2⟩ := bit_step (A := A) (i := i) hB
      have hbit := bit_limb A i
      have hb2 : A / 2 ^ i % 2 < 2 := Nat.mod_lt _ (by omega)
      have hR : A / 2 ^ (i + 1) % B < B := Nat.mod_lt _ hB
      have hq : (i : Int).tdiv 32 = ((i / 32 : Nat) : Int) := tdivN i 32
      have hr : (i : Int).tmod 32 = ((i % 32 : Nat) : Int) := tmodN i 32
      have hil : i < 1024 := by omega
      have hx := limb_lt A (i / 32)
      have hsr := shr_of (k := .u32) (limb A (i / 32)) (i % 32) (2 ^ (i % 32)) (by show i % 32 ≤ 32; omega) rfl
      have hand := and_one32 (limb A (i / 32) / 2 ^ (i % 32)) (Nat.lt_of_le_of_lt (Nat.div_le_self _ _) hx)
      rw [hbit, ← hsr] at hand
      have h1s := one_shl (r := i % 32) (by omega)
      obtain ⟨hq1, hq2, hq3⟩ := hqb
      rw [← h1s] at hq1
      obtain ⟨bit, hbt⟩ : ∃ b, b = A / 2 ^ i % 2 := ⟨_, rfl⟩
      obtain ⟨R, hRR⟩ : ∃ b, b = A / 2 ^ (i + 1) % B := ⟨_, rfl⟩
      obtain ⟨R', hRR'⟩ : ∃ b, b = A / 2 ^ i % B := ⟨_, rfl⟩
      obtain ⟨Q, hQQ⟩ : ∃ b, b = A / 2 ^ (i + 1) / B := ⟨_, rfl⟩
      obtain ⟨Q', hQQ'⟩ : ∃ b, b = A / 2 ^ i / B := ⟨_, rfl⟩
      rw [← hbt, ← hRR, ← hRR'] at hbs1
      rw [← hbt, ← hRR, ← hQQ, ← hQQ'] at hbs2
      rw [← hbt] at hb2 hand
      rw [← hRR] at hR
      rw [← hQQ] at hq1 hq2 hq3
      rw [← hRR, ← hQQ]
      have hS' : (2 * Q) * 2 ^ i = Q * 2 ^ (i + 1) := by rw [Nat.pow_succ]; ac_rfl
      have hnext : Q' * 2 ^ i = if B ≤ 2 * R + bit then (2 * Q + 1) * 2 ^ i else Q * 2 ^ (i + 1) := by
        rw [hbs2]; split
        · rfl
        · rw [Nat.add_zero, hS']
      obtain ⟨S, hSS⟩ : ∃ b, b = Q * 2 ^ (i + 1) := ⟨_, rfl⟩
      obtain ⟨S', hSS'⟩ : ∃ b, b = Q' * 2 ^ i := ⟨_, rfl⟩
      obtain ⟨T, hTT⟩ : ∃ b, b = (2 * Q + 1) * 2 ^ i := ⟨_, rfl⟩
      rw [← hSS] at hq1 hq2 hq3 hnext
      rw [← hTT] at hq3 hnext
      rw [← hSS'] at hnext
      rw [← hSS]
      have hput : mgl 32 T = (mgl 32 S).take (i / 32) ++ [.int .u32 ((limb S (i / 32) + 2 ^ (i % 32) : Nat) : Int)] ++ (mgl 32 S).drop (i / 32 + 1) := by
        rw [← hq3]; exact mgl_put (by omega) rfl hq2
      have hD : (2 * R + bit) / pw 32 ≤ 1 := by
        have : (2 * R + bit) / pw 32 < 2 := by rw [Nat.div_lt_iff_lt_mul (pw_pos 32)]; omega
        omega
      have hdm := Nat.div_add_mod (2 * R + bit) (pw 32)
      have hdl := Nat.mod_lt (2 * R + bit) (pw_pos 32)
      have hdb := rdouble R bit (by omega) (by omega)
      have hmd := mdif_all (n := (2 * R + bit) % pw 32) hdl hBl
      have hdf := rdiff_any ((2 * R + bit) % pw 32) B
      rw [hmd] at hdf
      have hcm := rcompare ((2 * R + bit) % pw 32) B hdl hBl
      have hc0 := cmpv_neg ((2 * R + bit) % pw 32) B
      have hfin1 : (2 * R + bit) / pw 32 = 1 → S' = T ∧ R' = ((2 * R + bit) % pw 32 + pw 32 - B) % pw 32 := by
        intro h
        rw [h, Nat.mul_one] at hdm
        have hle : B ≤ 2 * R + bit := by omega
        rw [if_pos hle] at hnext hbs1
        refine ⟨hnext, ?_⟩
        rw [hbs1, Nat.mod_eq_of_lt (by omega)]; omega
      have hfin2 : (2 * R + bit) / pw 32 ≠ 1 → B ≤ (2 * R + bit) % pw 32 → S' = T ∧ R' = ((2 * R + bit) % pw 32 + pw 32 - B) % pw 32 := by
        intro h h2
        rw [(Nat.le_one_iff_eq_zero_or_eq_one.1 hD).resolve_right h, Nat.mul_zero, Nat.zero_add] at hdm
        have hle : B ≤ 2 * R + bit := by omega
        rw [if_pos hle] at hnext hbs1
        refine ⟨hnext, ?_⟩
        rw [hbs1, show (2 * R + bit) % pw 32 + pw 32 - B = (2 * R + bit - B) + pw 32 by omega, Nat.add_mod_right, Nat.mod_eq_of_lt (by omega)]
      have hfin3 : (2 * R + bit) / pw 32 ≠ 1 → (2 * R + bit) % pw 32 < B → S' = S ∧ R' = (2 * R + bit) % pw 32 := by
        intro h h2
        rw [(Nat.le_one_iff_eq_zero_or_eq_one.1 hD).resolve_right h, Nat.mul_zero, Nat.zero_add] at hdm
        have hle : ¬ B ≤ 2 * R + bit := by omega
        rw [if_neg hle] at hnext hbs1
        exact ⟨hnext, by omega⟩
      obtain ⟨E, hE⟩ : ∃ b, b = (2 * R + bit) % pw 32 := ⟨_, rfl⟩
      obtain ⟨c, hc⟩ : ∃ b, b = decide ((2 * R + bit) / pw 32 = 1) := ⟨_, rfl⟩
      obtain ⟨F, hF⟩ : ∃ b, b = (E + pw 32 - B) % pw 32 := ⟨_, rfl⟩
      rw [← hE, ← hc] at hdb
      rw [← hE, ← hF] at hfin1 hfin2 hdf
      rw [← hE] at hfin3 hcm hc0
      obtain ⟨cv, hcv⟩ : ∃ b, b = cmpv E B := ⟨_, rfl⟩
      rw [← hcv] at hc0 hcm
      have hinv : ∃ j : Nat, j ≤ s0 ∧ [Value.int .i64 ((i : Int) - 1), .agg (mgk 32 S'), .agg (mgk 32 R')] = [.int .i64 ((j : Int) - 1), .agg (mgk 32 (A / 2 ^ j / B * 2 ^ j)), .agg (mgk 32 (A / 2 ^ j % B))] :=
        ⟨i, by omega, by rw [hSS', hRR', hQQ']⟩
      clear hdm hdl hmd hD hbs1 hbs2 hnext
      refine tree_ite (ev_nil (way_false (by simp [BTm.den, Tm.i, Tm.s, Tm.den, env, vInt, vBool, vStr, exI] <;> omega) (tree_ite ?_)))
      refine ev_fits ((i / 32 : Nat) : Int) (by simp [BTm.den, Tm.i, Tm.s, Tm.den, env, vInt, vBool, vStr, exI, hq]) (rng_i64 _ (by omega)) ?_
      refine ev_need (by simp [BTm.den, Tm.i, Tm.s, Tm.den, env, vInt, vBool, vStr, exI, hq] <;> omega) ?_
      refine ev_need (by simp [BTm.den, Tm.i, Tm.s, Tm.den, env, vInt, vBool, vStr, exI, hq] <;> omega) ?_
      refine ev_elem [.int .u32 (limb A (i / 32) : Nat)] rfl rfl (l := mgl 32 A) (m := [.int .u32 (limb A (i / 32) : Nat)]) (k := i / 32) (by simp [BTm.den, Tm.i, Tm.s, Tm.den, env, vInt, vBool, vStr, exI, hq] <;> omega) (fun β => rowCells_mgk 32 A) (fun β => rfl) (mgl_elem (by omega)) ?_
      refine ev_fits ((i % 32 : Nat) : Int) (by simp [BTm.den, Tm.i, Tm.s, Tm.den, env, vInt, vBool, vStr, exI, hr]) (rng_i64 _ (by omega)) ?_
      refine ev_fits ((i % 32 : Nat) : Int) (by simp [BTm.den, Tm.i, Tm.s, Tm.den, env, vInt, vBool, vStr, exI, hr]) (rng_u64 _ (by omega)) ?_
      refine ev_need (by simp [BTm.den, Tm.i, Tm.s, Tm.den, env, vInt, vBool, vStr, exI, hr] <;> omega) ?_
      refine ev_call [.agg (mgk 32 E), .bool c] rfl rfl (pure_gives hdb) (fun β => by rw [← hand, ← hr]; simp [BTm.den, Tm.i, Tm.s, Tm.den, env, vInt, vBool, vStr, exI, SW.den, SV.den, Cell.den, densP, Piece.den, denV, denT, rowCells_mgk, mgl_agg]) (fun β => by simp [BTm.den, Tm.i, Tm.s, Tm.den, env, vInt, vBool, vStr, exI, SW.den, SV.den, Cell.den, densP, Piece.den, denV, denT, rowCells_mgk, mgl_agg]) ?_
      refine ev_nil ⟨fun hc1 => tree_leaf ?_, fun hc1 => tree_ite ?_⟩
      · have hc1 : c = true := by simpa [BTm.den, Tm.i, Tm.s, Tm.den, env, vInt, vBool, vStr, exI] using hc1
        obtain ⟨hf1, hf2⟩ := hfin1 (by rw [hc] at hc1; simpa using hc1)
        refine ev_call [.agg (mgk 32 F)] rfl rfl (pure_gives hdf) (fun β => by simp [BTm.den, Tm.i, Tm.s, Tm.den, env, vInt, vBool, vStr, exI, SW.den, SV.den, Cell.den, densP, Piece.den, denV, denT, rowCells_mgk, mgl_agg]) (fun β => by simp [BTm.den, Tm.i, Tm.s, Tm.den, env, vInt, vBool, vStr, exI, SW.den, SV.den, Cell.den, densP, Piece.den, denV, denT, rowCells_mgk, mgl_agg]) ?_
        refine ev_fits ((i / 32 : Nat) : Int) (by simp [BTm.den, Tm.i, Tm.s, Tm.den, env, vInt, vBool, vStr, exI, hq]) (rng_i64 _ (by omega)) ?_
        refine ev_need (by simp [BTm.den, Tm.i, Tm.s, Tm.den, env, vInt, vBool, vStr, exI, hq] <;> omega) ?_
        refine ev_need (by simp [BTm.den, Tm.i, Tm.s, Tm.den, env, vInt, vBool, vStr, exI, hq] <;> omega) ?_
        refine ev_elem [.int .u32 (limb S (i / 32) : Nat)] rfl rfl (l := mgl 32 S) (m := [.int .u32 (limb S (i / 32) : Nat)]) (k := i / 32) (by simp [BTm.den, Tm.i, Tm.s, Tm.den, env, vInt, vBool, vStr, exI, hq] <;> omega) (fun β => rowCells_mgk 32 S) (fun β => rfl) (mgl_elem (by omega)) ?_
        refine ev_fits ((i % 32 : Nat) : Int) (by simp [BTm.den, Tm.i, Tm.s, Tm.den, env, vInt, vBool, vStr, exI, hr]) (rng_i64 _ (by omega)) ?_
        refine ev_fits ((i % 32 : Nat) : Int) (by simp [BTm.den, Tm.i, Tm.s, Tm.den, env, vInt, vBool, vStr, exI, hr]) (rng_u64 _ (by omega)) ?_
        refine ev_need (by simp [BTm.den, Tm.i, Tm.s, Tm.den, env, vInt, vBool, vStr, exI, hr] <;> omega) ?_
        refine ev_need (by simp [BTm.den, Tm.i, Tm.s, Tm.den, env, vInt, vBool, vStr, exI, hq] <;> omega) ?_
        refine ev_need (by simp [BTm.den, Tm.i, Tm.s, Tm.den, env, vInt, vBool, vStr, exI, hq] <;> omega) ?_
        refine ev_put [.agg (mgk 32 T)] rfl rfl (l := mgl 32 S) (l' := mgl 32 T) (m := [.int .u32 ((limb S (i / 32) + 2 ^ (i % 32) : Nat) : Int)]) (k := i / 32) (by simp [BTm.den, Tm.i, Tm.s, Tm.den, env, vInt, vBool, vStr, exI, hq] <;> omega) (fun β => rowCells_mgk 32 _) (fun β => rowCells_mgk 32 _) (fun β => ?_) hput (by rw [mgl_length]; simp; omega) ?_
        · rw [← hq1, ← hr]; simp [BTm.den, Tm.i, Tm.s, Tm.den, env, vInt, vBool, vStr, exI, SW.den, SV.den, Cell.den, densP, Piece.den, denV, denT]
        refine ev_fits ((i : Int) - 1) (by simp [BTm.den, Tm.i, Tm.s, Tm.den, env, vInt, vBool, vStr, exI]) (rng_i64 _ (by omega)) ?_
        refine ev_nil ⟨[.int .i64 ((i : Int) - 1), .agg (mgk 32 S'), .agg (mgk 32 R')], rfl, hinv, ?_, ?_⟩
        · simp [vInt]
        · rw [hf1, hf2]; simp [BTm.den, Tm.i, Tm.s, Tm.den, env, vInt, vBool, vStr, exI, SW.den, SV.den, Cell.den, densP, Piece.den, denV, denT]
      · have hc1 : c = false := by simpa [BTm.den, Tm.i, Tm.s, Tm.den, env, vInt, vBool, vStr, exI] using hc1
        have hcc : (2 * R + bit) / pw 32 ≠ 1 := by rw [hc] at hc1; simpa using hc1
        refine ev_call [.int .i64 cv] rfl rfl (pure_gives hcm) (fun β => by simp [BTm.den, Tm.i, Tm.s, Tm.den, env, vInt, vBool, vStr, exI, SW.den, SV.den, Cell.den, densP, Piece.den, denV, denT, rowCells_mgk, mgl_agg]) (fun β => by simp [BTm.den, Tm.i, Tm.s, Tm.den, env, vInt, vBool, vStr, exI, SW.den, SV.den, Cell.den, densP, Piece.den, denV, denT, rowCells_mgk, mgl_agg]) ?_
        refine ev_nil ⟨fun hc2 => tree_leaf ?_, fun hc2 => tree_leaf ?_⟩
        · have hc2 : cv < 0 := by simpa [BTm.den, Tm.i, Tm.s, Tm.den, env, vInt, vBool, vStr, exI] using hc2
          obtain ⟨hf1, hf2⟩ := hfin3 hcc (hc0.1 hc2)
          refine ev_fits ((i : Int) - 1) (by simp [BTm.den, Tm.i, Tm.s, Tm.den, env, vInt, vBool, vStr, exI]) (rng_i64 _ (by omega)) ?_
          refine ev_nil ⟨[.int .i64 ((i : Int) - 1), .agg (mgk 32 S'), .agg (mgk 32 R')], rfl, hinv, ?_, ?_⟩
          · simp [vInt]
          · rw [hf1, hf2]; simp [BTm.den, Tm.i, Tm.s, Tm.den, env, vInt, vBool, vStr, exI, SW.den, SV.den, Cell.den, densP, Piece.den, denV, denT]
        · have hc2 : ¬ cv < 0 := by simpa [BTm.den, Tm.i, Tm.s, Tm.den, env, vInt, vBool, vStr, exI] using hc2
          obtain ⟨hf1, hf2⟩ := hfin2 hcc (by have := mt hc0.2 hc2; omega)
          refine ev_call [.agg (mgk 32 F)] rfl rfl (pure_gives hdf) (fun β => by simp [BTm.den, Tm.i, Tm.s, Tm.den, env, vInt, vBool, vStr, exI, SW.den, SV.den, Cell.den, densP, Piece.den, denV, denT, rowCells_mgk, mgl_agg]) (fun β => by simp [BTm.den, Tm.i, Tm.s, Tm.den, env, vInt, vBool, vStr, exI, SW.den, SV.den, Cell.den, densP, Piece.den, denV, denT, rowCells_mgk, mgl_agg]) ?_
          refine ev_fits ((i / 32 : Nat) : Int) (by simp [BTm.den, Tm.i, Tm.s, Tm.den, env, vInt, vBool, vStr, exI, hq]) (rng_i64 _ (by omega)) ?_
          refine ev_need (by simp [BTm.den, Tm.i, Tm.s, Tm.den, env, vInt, vBool, vStr, exI, hq] <;> omega) ?_
          refine ev_need (by simp [BTm.den, Tm.i, Tm.s, Tm.den, env, vInt, vBool, vStr, exI, hq] <;> omega) ?_
          refine ev_elem [.int .u32 (limb S (i / 32) : Nat)] rfl rfl (l := mgl 32 S) (m := [.int .u32 (limb S (i / 32) : Nat)]) (k := i / 32) (by simp [BTm.den, Tm.i, Tm.s, Tm.den, env, vInt, vBool, vStr, exI, hq] <;> omega) (fun β => rowCells_mgk 32 S) (fun β => rfl) (mgl_elem (by omega)) ?_
          refine ev_fits ((i % 32 : Nat) : Int) (by simp [BTm.den, Tm.i, Tm.s, Tm.den, env, vInt, vBool, vStr, exI, hr]) (rng_i64 _ (by omega)) ?_
          refine ev_fits ((i % 32 : Nat) : Int) (by simp [BTm.den, Tm.i, Tm.s, Tm.den, env, vInt, vBool, vStr, exI, hr]) (rng_u64 _ (by omega)) ?_
          refine ev_need (by simp [BTm.den, Tm.i, Tm.s, Tm.den, env, vInt, vBool, vStr, exI, hr] <;> omega) ?_
          refine ev_need (by simp [BTm.den, Tm.i, Tm.s, Tm.den, env, vInt, vBool, vStr, exI, hq] <;> omega) ?_
          refine ev_need (by simp [BTm.den, Tm.i, Tm.s, Tm.den, env, vInt, vBool, vStr, exI, hq] <;> omega) ?_
          refine ev_put [.agg (mgk 32 T)] rfl rfl (l := mgl 32 S) (l' := mgl 32 T) (m := [.int .u32 ((limb S (i / 32) + 2 ^ (i % 32) : Nat) : Int)]) (k := i / 32) (by simp [BTm.den, Tm.i, Tm.s, Tm.den, env, vInt, vBool, vStr, exI, hq] <;> omega) (fun β => rowCells_mgk 32 _) (fun β => rowCells_mgk 32 _) (fun β => ?_) hput (by rw [mgl_length]; simp; omega) ?_
          · rw [← hq1, ← hr]; simp [BTm.den, Tm.i, Tm.s, Tm.den, env, vInt, vBool, vStr, exI, SW.den, SV.den, Cell.den, densP, Piece.den, denV, denT]
          refine ev_fits ((i : Int) - 1) (by simp [BTm.den, Tm.i, Tm.s, Tm.den, env, vInt, vBool, vStr, exI]) (rng_i64 _ (by omega)) ?_
          refine ev_nil ⟨[.int .i64 ((i : Int) - 1), .agg (mgk 32 S'), .agg (mgk 32 R')], rfl, hinv, ?_, ?_⟩
          · simp [vInt]
          · rw [hf1, hf2]; simp [BTm.den, Tm.i, Tm.s, Tm.den, env, vInt, vBool, vStr, exI, SW.den, SV.den, Cell.den, densP, Piece.den, denV, denT]

set_option maxHeartbeats 2000000 in
theorem rdivide_loopb (A B s0 : Nat) (la lb ba bb : Int) (W0 : Nat) (hA : A < pw 32) (hB : 0 < B) (hBl : B < pw 32) (h0 : W0 = A / 2 ^ s0) (hlt : A / 2 ^ s0 < B) (hs : s0 ≤ 1024) (hst : ba - (bb - 1) - 1 = (s0 : Int) - 1) (Qe Re : Nat) (hQe : Qe = A / B) (hRe : Re = A % B) :
    Ev.holds Try.prog (env [.agg (mgk 32 A), .agg (mgk 32 B), .int .i64 (la : Int), .int .i64 (lb : Int), .int .i64 (ba : Int), .int .i64 (bb : Int), .agg (mgk 32 W0), .int .i64 (-1), .agg (mgk 32 Qe), .agg (mgk 32 Re)]) (.loop 66 0 divS66_0b divH66_0b (.exit 0) .none 3) := by
  refine loop_holds plain (m := 3) (x := .exit 0) (alt := none) [.agg (mgk 32 A), .agg (mgk 32 B), .int .i64 (la : Int), .int .i64 (lb : Int), .int .i64 (ba : Int), .int .i64 (bb : Int), .agg (mgk 32 W0)] [.int .i64 (-1), .agg (mgk 32 Qe), .agg (mgk 32 Re)] tDivide0b_ok tDivide0b_fine
    (fun vs => ∃ j : Nat, j ≤ s0 ∧ vs = [.int .i64 ((j : Int) - 1), .agg (mgk 32 (A / 2 ^ j / B * 2 ^ j)), .agg (mgk 32 (A / 2 ^ j % B))])
    (fun vs => (vInt (vs.getD 0 undef) + 1).toNat) tDivide0b_diff ?_ ?_
  · refine ⟨[.int .i64 ((s0 : Int) - 1), .agg (mgk 32 (A / 2 ^ s0 / B * 2 ^ s0)), .agg (mgk 32 (A / 2 ^ s0 % B))], rfl, ⟨s0, by omega, rfl⟩, ?_⟩
    rw [Nat.div_eq_of_lt hlt, Nat.mod_eq_of_lt hlt, Nat.zero_mul, ← h0]
    have hz : rowCells (.agg (mgk 32 0)) 32 = List.replicate 32 (.int .u32 0) := by rw [rowCells_mgk, mgl_zero]
    simp [tDivide0b_d, BTm.den, Tm.i, Tm.s, Tm.den, env, vInt, vBool, vStr, exI, SW.den, SV.den, Cell.den, densP, Piece.den, denV, denT, hz]
    omega
  · rintro vs hl ⟨j, hj, rfl⟩
    clear hl
    rcases j with _ | i
    · refine tree_ite (ev_nil (way_true (by simp [BTm.den, Tm.i, Tm.s, Tm.den, env, vInt, vBool, vStr, exI]) (tree_leaf (ev_nil ⟨rfl, ?_⟩))))
      have e1 : A / 2 ^ 0 / B * 2 ^ 0 = Qe := by rw [hQe, Nat.pow_zero, Nat.div_one, Nat.mul_one]
      have e2 : A / 2 ^ 0 % B = Re := by rw [hRe, Nat.pow_zero, Nat.div_one]
      rw [e1, e2]
      simp [BTm.den, Tm.i, Tm.s, Tm.den, env, vInt, vBool, vStr, exI, SW.den, SV.den, Cell.den, densP, Piece.den, denV, denT]
    · rw [show (((i + 1 : Nat) : Int) - 1) = ((i : Nat) : Int) by omega]
      have hqb := quo_bit (A / 2 ^ (i + 1) / B) i (Nat.lt_of_le_of_lt (Nat.le_trans (Nat.mul_le_mul_right _ (Nat.div_le_self _ _)) (Nat.div_mul_le_self _ _)) hA)
      obtain ⟨hbs1, hbs2⟩ := bit_step (A := A) (i := i) hB
      have hbit := bit_limb A i
      have hb2 : A / 2 ^ i % 2 < 2 := Nat.mod_lt _ (by omega)
      have hR : A / 2 ^ (i + 1) % B < B := Nat.mod_lt _ hB
      have hq : (i : Int).tdiv 32 = ((i / 32 : Nat) : Int) := tdivN i 32
      have hr : (i : Int).tmod 32 = ((i % 32 : Nat) : Int) := tmodN i 32
      have hil : i < 1024 := by omega
      have hx := limb_lt A (i / 32)
      have hsr := shr_of (k := .u32) (limb A (i / 32)) (i % 32) (2 ^ (i % 32)) (by show i % 32 ≤ 32; omega) rfl
      have hand := and_one32 (limb A (i / 32) / 2 ^ (i % 32)) (Nat.lt_of_le_of_lt (Nat.div_le_self _ _) hx)
      rw [hbit, ← hsr] at hand
      have h1s := one_shl (r := i % 32) (by omega)
      obtain ⟨hq1, hq2, hq3⟩ := hqb
      rw [← h1s] at hq1
      obtain ⟨bit, hbt⟩ : ∃ b, b = A / 2 ^ i % 2 := ⟨_, rfl⟩
      obtain ⟨R, hRR⟩ : ∃ b, b = A / 2 ^ (i + 1) % B := ⟨_, rfl⟩
      obtain ⟨R', hRR'⟩ : ∃ b, b = A / 2 ^ i % B := ⟨_, rfl⟩
      obtain ⟨Q, hQQ⟩ : ∃ b, b = A / 2 ^ (i + 1) / B := ⟨_, rfl⟩
      obtain ⟨Q', hQQ'⟩ : ∃ b, b = A / 2 ^ i / B := ⟨_, rfl⟩
      rw [← hbt, ← hRR, ← hRR'] at hbs1
      rw [← hbt, ← hRR, ← hQQ, ← hQQ'] at hbs2
      rw [← hbt] at hb2 hand
      rw [← hRR] at hR
      rw [← hQQ] at hq1 hq2 hq3
      rw [← hRR, ← hQQ]
      have hS' : (2 * Q) * 2 ^ i = Q * 2 ^ (i + 1) := by rw [Nat.pow_succ]; ac_rfl
      have hnext : Q' * 2 ^ i = if B ≤ 2 * R + bit then (2 * Q + 1) * 2 ^ i else Q * 2 ^ (i + 1) := by
        rw [hbs2]; split
        · rfl
        · rw [Nat.add_zero, hS']
      obtain ⟨S, hSS⟩ : ∃ b, b = Q * 2 ^ (i + 1) := ⟨_, rfl⟩
      obtain ⟨S', hSS'⟩ : ∃ b, b = Q' * 2 ^ i := ⟨_, rfl⟩
      obtain ⟨T, hTT⟩ : ∃ b, b = (2 * Q + 1) * 2 ^ i := ⟨_, rfl⟩
      rw [← hSS] at hq1 hq2 hq3 hnext
      rw [← hTT] at hq3 hnext
      rw [← hSS'] at hnext
      rw [← hSS]
      have hput : mgl 32 T = (mgl 32 S).take (i / 32) ++ [.int .u32 ((limb S (i / 32) + 2 ^ (i % 32) : Nat) : Int)] ++ (mgl 32 S).drop (i / 32 + 1) := by
        rw [← hq3]; exact mgl_put (by omega) rfl hq2
      have hD : (2 * R + bit) / pw 32 ≤ 1 := by
        have : (2 * R + bit) / pw 32 < 2 := by rw [Nat.div_lt_iff_lt_mul (pw_pos 32)]; omega
        omega
      have hdm := Nat.div_add_mod (2 * R + bit) (pw 32)
      have hdl := Nat.mod_lt (2 * R + bit) (pw_pos 32)
      have hdb := rdouble R bit (by omega) (by omega)
      have hmd := mdif_all (n := (2 * R + bit) % pw 32) hdl hBl
      have hdf := rdiff_any ((2 * R + bit) % pw 32) B
      rw [hmd] at hdf
      have hcm := rcompare ((2 * R + bit) % pw 32) B hdl hBl
      have hc0 := cmpv_neg ((2 * R + bit) % pw 32) B
      have hfin1 : (2 * R + bit) / pw 32 = 1 → S' = T ∧ R' = ((2 * R + bit) % pw 32 + pw 32 - B) % pw 32 := by
        intro h
        rw [h, Nat.mul_one] at hdm
        have hle : B ≤ 2 * R + bit := by omega
        rw [if_pos hle] at hnext hbs1
        refine ⟨hnext, ?_⟩
        rw [hbs1, Nat.mod_eq_of_lt (by omega)]; omega
      have hfin2 : (2 * R + bit) / pw 32 ≠ 1 → B ≤ (2 * R + bit) % pw 32 → S' = T ∧ R' = ((2 * R + bit) % pw 32 + pw 32 - B) % pw 32 := by
        intro h h2
        rw [(Nat.le_one_iff_eq_zero_or_eq_one.1 hD).resolve_right h, Nat.mul_zero, Nat.zero_add] at hdm
        have hle : B ≤ 2 * R + bit := by omega
        rw [if_pos hle] at hnext hbs1
        refine ⟨hnext, ?_⟩
        rw [hbs1, show (2 * R + bit) % pw 32 + pw 32 - B = (2 * R + bit - B) + pw 32 by omega, Nat.add_mod_right, Nat.mod_eq_of_lt (by omega)]
      have hfin3 : (2 * R + bit) / pw 32 ≠ 1 → (2 * R + bit) % pw 32 < B → S' = S ∧ R' = (2 * R + bit) % pw 32 := by
        intro h h2
        rw [(Nat.le_one_iff_eq_zero_or_eq_one.1 hD).resolve_right h, Nat.mul_zero, Nat.zero_add] at hdm
        have hle : ¬ B ≤ 2 * R + bit := by omega
        rw [if_neg hle] at hnext hbs1
        exact ⟨hnext, by omega⟩
      obtain ⟨E, hE⟩ : ∃ b, b = (2 * R + bit) % pw 32 := ⟨_, rfl⟩
      obtain ⟨c, hc⟩ : ∃ b, b = decide ((2 * R + bit) / pw 32 = 1) := ⟨_, rfl⟩
      obtain ⟨F, hF⟩ : ∃ b, b = (E + pw 32 - B) % pw 32 := ⟨_, rfl⟩
      rw [← hE, ← hc] at hdb
      rw [← hE, ← hF] at hfin1 hfin2 hdf
      rw [← hE] at hfin3 hcm hc0
      obtain ⟨cv, hcv⟩ : ∃ b, b = cmpv E B := ⟨_, rfl⟩
      rw [← hcv] at hc0 hcm
      have hinv : ∃ j : Nat, j ≤ s0 ∧ [Value.int .i64 ((i : Int) - 1), .agg (mgk 32 S'), .agg (mgk 32 R')] = [.int .i64 ((j : Int) - 1), .agg (mgk 32 (A / 2 ^ j / B * 2 ^ j)), .agg (mgk 32 (A / 2 ^ j % B))] :=
        ⟨i, by omega, by rw [hSS', hRR', hQQ']⟩
      clear hdm hdl hmd hD hbs1 hbs2 hnext
      refine tree_ite (ev_nil (way_false (by simp [BTm.den, Tm.i, Tm.s, Tm.den, env, vInt, vBool, vStr, exI] <;> omega) (tree_ite ?_)))
      refine ev_fits ((i / 32 : Nat) : Int) (by simp [BTm.den, Tm.i, Tm.s, Tm.den, env, vInt, vBool, vStr, exI, hq]) (rng_i64 _ (by omega)) ?_
      refine ev_need (by simp [BTm.den, Tm.i, Tm.s, Tm.den, env, vInt, vBool, vStr, exI, hq] <;> omega) ?_
      refine ev_need (by simp [BTm.den, Tm.i, Tm.s, Tm.den, env, vInt, vBool, vStr, exI, hq] <;> omega) ?_
      refine ev_elem [.int .u32 (limb A (i / 32) : Nat)] rfl rfl (l := mgl 32 A) (m := [.int .u32 (limb A (i / 32) : Nat)]) (k := i / 32) (by simp [BTm.den, Tm.i, Tm.s, Tm.den, env, vInt, vBool, vStr, exI, hq] <;> omega) (fun β => rowCells_mgk 32 A) (fun β => rfl) (mgl_elem (by omega)) ?_
      refine ev_fits ((i % 32 : Nat) : Int) (by simp [BTm.den, Tm.i, Tm.s, Tm.den, env, vInt, vBool, vStr, exI, hr]) (rng_i64 _ (by omega)) ?_
      refine ev_fits ((i % 32 : Nat) : Int) (by simp [BTm.den, Tm.i, Tm.s, Tm.den, env, vInt, vBool, vStr, exI, hr]) (rng_u64 _ (by omega)) ?_
      refine ev_need (by simp [BTm.den, Tm.i, Tm.s, Tm.den, env, vInt, vBool, vStr, exI, hr] <;> omega) ?_
      refine ev_call [.agg (mgk 32 E), .bool c] rfl rfl (pure_gives hdb) (fun β => by rw [← hand, ← hr]; simp [BTm.den, Tm.i, Tm.s, Tm.den, env, vInt, vBool, vStr, exI, SW.den, SV.den, Cell.den, densP, Piece.den, denV, denT, rowCells_mgk, mgl_agg]) (fun β => by simp [BTm.den, Tm.i, Tm.s, Tm.den, env, vInt, vBool, vStr, exI, SW.den, SV.den, Cell.den, densP, Piece.den, denV, denT, rowCells_mgk, mgl_agg]) ?_
      refine ev_nil ⟨fun hc1 => tree_leaf ?_, fun hc1 => tree_ite ?_⟩
      · have hc1 : c = true := by simpa [BTm.den, Tm.i, Tm.s, Tm.den, env, vInt, vBool, vStr, exI] using hc1
        obtain ⟨hf1, hf2⟩ := hfin1 (by rw [hc] at hc1; simpa using hc1)
        refine ev_call [.agg (mgk 32 F)] rfl rfl (pure_gives hdf) (fun β => by simp [BTm.den, Tm.i, Tm.s, Tm.den, env, vInt, vBool, vStr, exI, SW.den, SV.den, Cell.den, densP, Piece.den, denV, denT, rowCells_mgk, mgl_agg]) (fun β => by simp [BTm.den, Tm.i, Tm.s, Tm.den, env, vInt, vBool, vStr, exI, SW.den, SV.den, Cell.den, densP, Piece.den, denV, denT, rowCells_mgk, mgl_agg]) ?_
        refine ev_fits ((i / 32 : Nat) : Int) (by simp [BTm.den, Tm.i, Tm.s, Tm.den, env, vInt, vBool, vStr, exI, hq]) (rng_i64 _ (by omega)) ?_
        refine ev_need (by simp [BTm.den, Tm.i, Tm.s, Tm.den, env, vInt, vBool, vStr, exI, hq] <;> omega) ?_
        refine ev_need (by simp [BTm.den, Tm.i, Tm.s, Tm.den, env, vInt, vBool, vStr, exI, hq] <;> omega) ?_
        refine ev_elem [.int .u32 (limb S (i / 32) : Nat)] rfl rfl (l := mgl 32 S) (m := [.int .u32 (limb S (i / 32) : Nat)]) (k := i / 32) (by simp [BTm.den, Tm.i, Tm.s, Tm.den, env, vInt, vBool, vStr, exI, hq] <;> omega) (fun β => rowCells_mgk 32 S) (fun β => rfl) (mgl_elem (by omega)) ?_
        refine ev_fits ((i % 32 : Nat) : Int) (by simp [BTm.den, Tm.i, Tm.s, Tm.den, env, vInt, vBool, vStr, exI, hr]) (rng_i64 _ (by omega)) ?_
        refine ev_fits ((i % 32 : Nat) : Int) (by simp [BTm.den, Tm.i, Tm.s, Tm.den, env, vInt, vBool, vStr, exI, hr]) (rng_u64 _ (by omega)) ?_
        refine ev_need (by simp [BTm.den, Tm.i, Tm.s, Tm.den, env, vInt, vBool, vStr, exI, hr] <;> omega) ?_
        refine ev_need (by simp [BTm.den, Tm.i, Tm.s, Tm.den, env, vInt, vBool, vStr, exI, hq] <;> omega) ?_
        refine ev_need (by simp [BTm.den, Tm.i, Tm.s, Tm.den, env, vInt, vBool, vStr, exI, hq] <;> omega) ?_
        refine ev_put [.agg (mgk 32 T)] rfl rfl (l := mgl 32 S) (l' := mgl 32 T) (m := [.int .u32 ((limb S (i / 32) + 2 ^ (i % 32) : Nat) : Int)]) (k := i / 32) (by simp [BTm.den, Tm.i, Tm.s, Tm.den, env, vInt, vBool, vStr, exI, hq] <;> omega) (fun β => rowCells_mgk 32 _) (fun β => rowCells_mgk 32 _) (fun β => ?_) hput (by rw [mgl_length]; simp; omega) ?_
        · rw [← hq1, ← hr]; simp [BTm.den, Tm.i, Tm.s, Tm.den, env, vInt, vBool, vStr, exI, SW.den, SV.den, Cell.den, densP, Piece.den, denV, denT]
        refine ev_fits ((i : Int) - 1) (by simp [BTm.den, Tm.i, Tm.s, Tm.den, env, vInt, vBool, vStr, exI]) (rng_i64 _ (by omega)) ?_
        refine ev_nil ⟨[.int .i64 ((i : Int) - 1), .agg (mgk 32 S'), .agg (mgk 32 R')], rfl, hinv, ?_, ?_⟩
        · simp [vInt]
        · rw [hf1, hf2]; simp [BTm.den, Tm.i, Tm.s, Tm.den, env, vInt, vBool, vStr, exI, SW.den, SV.den, Cell.den, densP, Piece.den, denV, denT]
      · have hc1 : c = false := by simpa [BTm.den, Tm.i, Tm.s, Tm.den, env, vInt, vBool, vStr, exI] using hc1
        have hcc : (2 * R + bit) / pw 32 ≠ 1 := by rw [hc] at hc1; simpa using hc1
        refine ev_call [.int .i64 cv] rfl rfl (pure_gives hcm) (fun β => by simp [BTm.den, Tm.i, Tm.s, Tm.den, env, vInt, vBool, vStr, exI, SW.den, SV.den, Cell.den, densP, Piece.den, denV, denT, rowCells_mgk, mgl_agg]) (fun β => by simp [BTm.den, Tm.i, Tm.s, Tm.den, env, vInt, vBool, vStr, exI, SW.den, SV.den, Cell.den, densP, Piece.den, denV, denT, rowCells_mgk, mgl_agg]) ?_
        refine ev_nil ⟨fun hc2 => tree_leaf ?_, fun hc2 => tree_leaf ?_⟩
        · have hc2 : cv < 0 := by simpa [BTm.den, Tm.i, Tm.s, Tm.den, env, vInt, vBool, vStr, exI] using hc2
          obtain ⟨hf1, hf2⟩ := hfin3 hcc (hc0.1 hc2)
          refine ev_fits ((i : Int) - 1) (by simp [BTm.den, Tm.i, Tm.s, Tm.den, env, vInt, vBool, vStr, exI]) (rng_i64 _ (by omega)) ?_
          refine ev_nil ⟨[.int .i64 ((i : Int) - 1), .agg (mgk 32 S'), .agg (mgk 32 R')], rfl, hinv, ?_, ?_⟩
          · simp [vInt]
          · rw [hf1, hf2]; simp [BTm.den, Tm.i, Tm.s, Tm.den, env, vInt, vBool, vStr, exI, SW.den, SV.den, Cell.den, densP, Piece.den, denV, denT]
        · have hc2 : ¬ cv < 0 := by simpa [BTm.den, Tm.i, Tm.s, Tm.den, env, vInt, vBool, vStr, exI] using hc2
          obtain ⟨hf1, hf2⟩ := hfin2 hcc (by have := mt hc0.2 hc2; omega)
          refine ev_call [.agg (mgk 32 F)] rfl rfl (pure_gives hdf) (fun β => by simp [BTm.den, Tm.i, Tm.s, Tm.den, env, vInt, vBool, vStr, exI, SW.den, SV.den, Cell.den, densP, Piece.den, denV, denT, rowCells_mgk, mgl_agg]) (fun β => by simp [BTm.den, Tm.i, Tm.s, Tm.den, env, vInt, vBool, vStr, exI, SW.den, SV.den, Cell.den, densP, Piece.den, denV, denT, rowCells_mgk, mgl_agg]) ?_
          refine ev_fits ((i / 32 : Nat) : Int) (by simp [BTm.den, Tm.i, Tm.s, Tm.den, env, vInt, vBool, vStr, exI, hq]) (rng_i64 _ (by omega)) ?_
          refine ev_need (by simp [BTm.den, Tm.i, Tm.s, Tm.den, env, vInt, vBool, vStr, exI, hq] <;> omega) ?_
          refine ev_need (by simp [BTm.den, Tm.i, Tm.s, Tm.den, env, vInt, vBool, vStr, exI, hq] <;> omega) ?_
          refine ev_elem [.int .u32 (limb S (i / 32) : Nat)] rfl rfl (l := mgl 32 S) (m := [.int .u32 (limb S (i / 32) : Nat)]) (k := i / 32) (by simp [BTm.den, Tm.i, Tm.s, Tm.den, env, vInt, vBool, vStr, exI, hq] <;> omega) (fun β => rowCells_mgk 32 S) (fun β => rfl) (mgl_elem (by omega)) ?_
          refine ev_fits ((i % 32 : Nat) : Int) (by simp [BTm.den, Tm.i, Tm.s, Tm.den, env, vInt, vBool, vStr, exI, hr]) (rng_i64 _ (by omega)) ?_
          refine ev_fits ((i % 32 : Nat) : Int) (by simp [BTm.den, Tm.i, Tm.s, Tm.den, env, vInt, vBool, vStr, exI, hr]) (rng_u64 _ (by omega)) ?_
          refine ev_need (by simp [BTm.den, Tm.i, Tm.s, Tm.den, env, vInt, vBool, vStr, exI, hr] <;> omega) ?_
          refine ev_need (by simp [BTm.den, Tm.i, Tm.s, Tm.den, env, vInt, vBool, vStr, exI, hq] <;> omega) ?_
          refine ev_need (by simp [BTm.den, Tm.i, Tm.s, Tm.den, env, vInt, vBool, vStr, exI, hq] <;> omega) ?_
          refine ev_put [.agg (mgk 32 T)] rfl rfl (l := mgl 32 S) (l' := mgl 32 T) (m := [.int .u32 ((limb S (i / 32) + 2 ^ (i % 32) : Nat) : Int)]) (k := i / 32) (by simp [BTm.den, Tm.i, Tm.s, Tm.den, env, vInt, vBool, vStr, exI, hq] <;> omega) (fun β => rowCells_mgk 32 _) (fun β => rowCells_mgk 32 _) (fun β => ?_) hput (by rw [mgl_length]; simp; omega) ?_
          · rw [← hq1, ← hr]; simp [BTm.den, Tm.i, Tm.s, Tm.den, env, vInt, vBool, vStr, exI, SW.den, SV.den, Cell.den, densP, Piece.den, denV, denT]
          refine ev_fits ((i : Int) - 1) (by simp [BTm.den, Tm.i, Tm.s, Tm.den, env, vInt, vBool, vStr, exI]) (rng_i64 _ (by omega)) ?_
          refine ev_nil ⟨[.int .i64 ((i : Int) - 1), .agg (mgk 32 S'), .agg (mgk 32 R')], rfl, hinv, ?_, ?_⟩
          · simp [vInt]
          · rw [hf1, hf2]; simp [BTm.den, Tm.i, Tm.s, Tm.den, env, vInt, vBool, vStr, exI, SW.den, SV.den, Cell.den, densP, Piece.den, denV, denT]

end Go.Proofs.Ytlccefdjhiedcaa
end
section
namespace Go.Proofs.Ytlccefdjhiedcaa
open Go.RowKit Go.Proofs.Ytlccefdjhiedcaa.Sx
set_option linter.unusedSimpArgs false
set_option linter.unusedVariables false

theorem bl_le1024 {n : Nat} (h : n < pw 32) : bl n ≤ 1024 := by
  obtain ⟨K, hK, e⟩ := pw32_bits
  rw [e] at h
  have := bl_le h
  omega
theorem start_lt {A B s0 : Nat} (hB : 0 < B) (hs : s0 + (bl B - 1) = bl A) : A / 2 ^ s0 < B := by
  have h1 := bl_lt A
  have h2 := bl_ge (n := B) (by omega)
  rw [← hs, Nat.pow_add] at h1
  refine Nat.lt_of_lt_of_le ?_ h2
  rw [Nat.div_lt_iff_lt_mul (Nat.two_pow_pos _), Nat.mul_comm]; exact h1
theorem short_lt {A B : Nat} (hB : 0 < B) (h : bl A ≤ bl B - 1) : A < B :=
  Nat.lt_of_lt_of_le (bl_lt A) (Nat.le_trans (Nat.pow_le_pow_right (by omega) h) (bl_ge (by omega)))
set_option maxHeartbeats 2000000 in
theorem rdivide (A B : Nat) (hA : A < pw 32) (hBl : B < pw 32) (hB : 0 < B) : Gives Try.prog 66 #[.agg (mgk 32 A), .agg (mgk 32 B)] (.tuple #[.agg (mgk 32 (A / B)), .agg (mgk 32 (A % B))]) := by
  obtain ⟨Q, hQ⟩ : ∃ Q, Q = A / B := ⟨_, rfl⟩
  obtain ⟨R, hR⟩ : ∃ Q, Q = A % B := ⟨_, rfl⟩
  rw [← hQ, ← hR]
  have hmain : ∀ v, v = Value.tuple #[.agg (mgk 32 Q), .agg (mgk 32 R)] → tDivide.den Try.prog (fun ρ' ret => ∀ β, ret.val.den (env ρ') β = v) [.agg (mgk 32 A), .agg (mgk 32 B)] := by
    intro v hv
    have hla := rlimbs_any A
    have hlb := rlimbs_any B
    have hba := rbits_any false A hA
    have hbb := rbits_any false B hBl
    have h1 := bl_le1024 hA
    have h2 := bl_le1024 hBl
    have h3 := bl_pos (n := B) (by omega)
    obtain ⟨la, hla2⟩ : ∃ la, la = nl A := ⟨_, rfl⟩
    obtain ⟨lb, hlb2⟩ : ∃ la, la = nl B := ⟨_, rfl⟩
    obtain ⟨ba, hba2⟩ : ∃ la, la = bl A := ⟨_, rfl⟩
    obtain ⟨bb, hbb2⟩ : ∃ la, la = bl B := ⟨_, rfl⟩
    rw [← hla2] at hla
    rw [← hlb2] at hlb
    rw [← hba2] at hba
    rw [← hbb2] at hbb
    have hsmall : bl A ≤ bl B - 1 → Q = 0 ∧ R = A := fun h => by
      have := short_lt hB h
      rw [hQ, hR, Nat.div_eq_of_lt this, Nat.mod_eq_of_lt this]; exact ⟨rfl, rfl⟩
    have hz : ∀ β : Nat → Nat, List.replicate 32 (Value.int .u32 0) = mgl 32 0 := fun _ => (mgl_zero 32).symm
    refine tree_ite ?_
    refine ev_call [.int .i64 (la : Nat)] rfl rfl (pure_gives hla) (fun β => by simp [BTm.den, Tm.i, Tm.s, Tm.den, env, vInt, vBool, vStr, exI, SW.den, SV.den, Cell.den, densP, Piece.den, denV, denT, rowCells_mgk, mgl_agg]) (fun β => by simp [BTm.den, Tm.i, Tm.s, Tm.den, env, vInt, vBool, vStr, exI, SW.den, SV.den, Cell.den, densP, Piece.den, denV, denT]) ?_
    refine ev_nil ⟨fun hc => tree_ite ?_, fun hc => tree_ite ?_⟩
    · refine ev_call [.int .i64 (ba : Nat)] rfl rfl (pure_gives hba) (fun β => by simp [BTm.den, Tm.i, Tm.s, Tm.den, env, vInt, vBool, vStr, exI, SW.den, SV.den, Cell.den, densP, Piece.den, denV, denT, rowCells_mgk, iv_list]) (fun β => by simp [BTm.den, Tm.i, Tm.s, Tm.den, env, vInt, vBool, vStr, exI, SW.den, SV.den, Cell.den, densP, Piece.den, denV, denT]) ?_
      refine ev_call [.int .i64 (bb : Nat)] rfl rfl (pure_gives hbb) (fun β => by simp [BTm.den, Tm.i, Tm.s, Tm.den, env, vInt, vBool, vStr, exI, SW.den, SV.den, Cell.den, densP, Piece.den, denV, denT, rowCells_mgk, iv_list]) (fun β => by simp [BTm.den, Tm.i, Tm.s, Tm.den, env, vInt, vBool, vStr, exI, SW.den, SV.den, Cell.den, densP, Piece.den, denV, denT]) ?_
      refine ev_fits ((bb : Int) - 1) (by simp [BTm.den, Tm.i, Tm.s, Tm.den, env, vInt, vBool, vStr, exI]) (rng_i64 _ (by omega)) ?_
      refine ev_nil ⟨fun hd => tree_leaf ?_, fun hd => tree_leaf (ev_nil fun β => ?_)⟩
      · have hd : bb - 1 < ba := by
          have : (bb : Int) - 1 < ba := by simpa [BTm.den, Tm.i, Tm.s, Tm.den, env, vInt, vBool, vStr, exI] using hd
          omega
        obtain ⟨s0, hs0⟩ : ∃ s0, s0 + (bb - 1) = ba := ⟨ba - (bb - 1), by omega⟩
        have hlt := start_lt (A := A) (s0 := s0) hB (by omega)
        have hsh := rshifted A s0 hA (by omega)
        obtain ⟨W0, hW0⟩ : ∃ W, W = A / 2 ^ s0 := ⟨_, rfl⟩
        have hloop := rdivide_loop A B s0 la 0 ba bb W0 hA hB hBl hW0 hlt (by omega) (by omega) Q R hQ hR
        rw [← hW0] at hsh
        refine ev_fits ((s0 : Nat) : Int) (by simp [BTm.den, Tm.i, Tm.s, Tm.den, env, vInt, vBool, vStr, exI]; omega) (rng_i64 _ (by omega)) ?_
        refine ev_call [.agg (mgk 32 W0)] rfl rfl (pure_gives hsh) (fun β => by rw [show ((s0 : Nat) : Int) = (ba : Int) - ((bb : Int) - 1) by omega]; simp [BTm.den, Tm.i, Tm.s, Tm.den, env, vInt, vBool, vStr, exI, SW.den, SV.den, Cell.den, densP, Piece.den, denV, denT, rowCells_mgk, mgl_agg]) (fun β => by simp [BTm.den, Tm.i, Tm.s, Tm.den, env, vInt, vBool, vStr, exI, SW.den, SV.den, Cell.den, densP, Piece.den, denV, denT, rowCells_mgk, mgl_agg]) ?_
        refine ev_fits ((s0 : Nat) : Int) (by simp [BTm.den, Tm.i, Tm.s, Tm.den, env, vInt, vBool, vStr, exI]; omega) (rng_i64 _ (by omega)) ?_
        refine ev_fits ((s0 : Int) - 1) (by simp [BTm.den, Tm.i, Tm.s, Tm.den, env, vInt, vBool, vStr, exI]; omega) (rng_i64 _ (by omega)) ?_
        refine ev_loop [.int .i64 (-1), .agg (mgk 32 Q), .agg (mgk 32 R)] rfl rfl hloop (ev_nil fun β => ?_)
        rw [hv]; simp [BTm.den, Tm.i, Tm.s, Tm.den, env, vInt, vBool, vStr, exI, SW.den, SV.den, Cell.den, densP, Piece.den, denV, denT, rowCells_mgk, mgl_agg]
      · have hd : ¬ (bb : Int) - 1 < ba := by simpa [BTm.den, Tm.i, Tm.s, Tm.den, env, vInt, vBool, vStr, exI] using hd
        obtain ⟨e1, e2⟩ := hsmall (by omega)
        rw [hv, e1, e2, ← mgl_agg 32 0, mgl_zero]; simp [BTm.den, Tm.i, Tm.s, Tm.den, env, vInt, vBool, vStr, exI, SW.den, SV.den, Cell.den, densP, Piece.den, denV, denT, rowCells_mgk, mgl_agg]
    · have hc : ¬ (2 : Int) < la := by simpa [BTm.den, Tm.i, Tm.s, Tm.den, env, vInt, vBool, vStr, exI] using hc
      refine ev_call [.int .i64 (lb : Nat)] rfl rfl (pure_gives hlb) (fun β => by simp [BTm.den, Tm.i, Tm.s, Tm.den, env, vInt, vBool, vStr, exI, SW.den, SV.den, Cell.den, densP, Piece.den, denV, denT, rowCells_mgk, mgl_agg]) (fun β => by simp [BTm.den, Tm.i, Tm.s, Tm.den, env, vInt, vBool, vStr, exI, SW.den, SV.den, Cell.den, densP, Piece.den, denV, denT]) ?_
      refine ev_nil ⟨fun hc2 => tree_ite ?_, fun hc2 => tree_leaf ?_⟩
      · refine ev_call [.int .i64 (ba : Nat)] rfl rfl (pure_gives hba) (fun β => by simp [BTm.den, Tm.i, Tm.s, Tm.den, env, vInt, vBool, vStr, exI, SW.den, SV.den, Cell.den, densP, Piece.den, denV, denT, rowCells_mgk, iv_list]) (fun β => by simp [BTm.den, Tm.i, Tm.s, Tm.den, env, vInt, vBool, vStr, exI, SW.den, SV.den, Cell.den, densP, Piece.den, denV, denT]) ?_
        refine ev_call [.int .i64 (bb : Nat)] rfl rfl (pure_gives hbb) (fun β => by simp [BTm.den, Tm.i, Tm.s, Tm.den, env, vInt, vBool, vStr, exI, SW.den, SV.den, Cell.den, densP, Piece.den, denV, denT, rowCells_mgk, iv_list]) (fun β => by simp [BTm.den, Tm.i, Tm.s, Tm.den, env, vInt, vBool, vStr, exI, SW.den, SV.den, Cell.den, densP, Piece.den, denV, denT]) ?_
        refine ev_fits ((bb : Int) - 1) (by simp [BTm.den, Tm.i, Tm.s, Tm.den, env, vInt, vBool, vStr, exI]) (rng_i64 _ (by omega)) ?_
        refine ev_nil ⟨fun hd => tree_leaf ?_, fun hd => tree_leaf (ev_nil fun β => ?_)⟩
        · have hd : bb - 1 < ba := by
            have : (bb : Int) - 1 < ba := by simpa [BTm.den, Tm.i, Tm.s, Tm.den, env, vInt, vBool, vStr, exI] using hd
            omega
          obtain ⟨s0, hs0⟩ : ∃ s0, s0 + (bb - 1) = ba := ⟨ba - (bb - 1), by omega⟩
          have hlt := start_lt (A := A) (s0 := s0) hB (by omega)
          have hsh := rshifted A s0 hA (by omega)
          obtain ⟨W0, hW0⟩ : ∃ W, W = A / 2 ^ s0 := ⟨_, rfl⟩
          have hloop := rdivide_loopb A B s0 la lb ba bb W0 hA hB hBl hW0 hlt (by omega) (by omega) Q R hQ hR
          rw [← hW0] at hsh
          refine ev_fits ((s0 : Nat) : Int) (by simp [BTm.den, Tm.i, Tm.s, Tm.den, env, vInt, vBool, vStr, exI]; omega) (rng_i64 _ (by omega)) ?_
          refine ev_call [.agg (mgk 32 W0)] rfl rfl (pure_gives hsh) (fun β => by rw [show ((s0 : Nat) : Int) = (ba : Int) - ((bb : Int) - 1) by omega]; simp [BTm.den, Tm.i, Tm.s, Tm.den, env, vInt, vBool, vStr, exI, SW.den, SV.den, Cell.den, densP, Piece.den, denV, denT, rowCells_mgk, mgl_agg]) (fun β => by simp [BTm.den, Tm.i, Tm.s, Tm.den, env, vInt, vBool, vStr, exI, SW.den, SV.den, Cell.den, densP, Piece.den, denV, denT, rowCells_mgk, mgl_agg]) ?_
          refine ev_fits ((s0 : Nat) : Int) (by simp [BTm.den, Tm.i, Tm.s, Tm.den, env, vInt, vBool, vStr, exI]; omega) (rng_i64 _ (by omega)) ?_
          refine ev_fits ((s0 : Int) - 1) (by simp [BTm.den, Tm.i, Tm.s, Tm.den, env, vInt, vBool, vStr, exI]; omega) (rng_i64 _ (by omega)) ?_
          refine ev_loop [.int .i64 (-1), .agg (mgk 32 Q), .agg (mgk 32 R)] rfl rfl hloop (ev_nil fun β => ?_)
          rw [hv]; simp [BTm.den, Tm.i, Tm.s, Tm.den, env, vInt, vBool, vStr, exI, SW.den, SV.den, Cell.den, densP, Piece.den, denV, denT, rowCells_mgk, mgl_agg]
        · have hd : ¬ (bb : Int) - 1 < ba := by simpa [BTm.den, Tm.i, Tm.s, Tm.den, env, vInt, vBool, vStr, exI] using hd
          obtain ⟨e1, e2⟩ := hsmall (by omega)
          rw [hv, e1, e2, ← mgl_agg 32 0, mgl_zero]; simp [BTm.den, Tm.i, Tm.s, Tm.den, env, vInt, vBool, vStr, exI, SW.den, SV.den, Cell.den, densP, Piece.den, denV, denT, rowCells_mgk, mgl_agg]
      · have hc2 : ¬ (2 : Int) < lb := by simpa [BTm.den, Tm.i, Tm.s, Tm.den, env, vInt, vBool, vStr, exI] using hc2
        have hA2 : A < pw 2 := Nat.lt_of_lt_of_le (nl_lt hA) (pw_le (by omega))
        have hB2 : B < pw 2 := Nat.lt_of_lt_of_le (nl_lt hBl) (pw_le (by omega))
        have hQ2 : Q < pw 2 := by rw [hQ]; exact Nat.lt_of_le_of_lt (Nat.div_le_self _ _) hA2
        have hR2 : R < pw 2 := by rw [hR]; exact Nat.lt_of_le_of_lt (Nat.mod_le _ _) hA2
        have hp2 : pw 2 = 18446744073709551616 := rfl
        have eQ : (A : Int).tdiv B = (Q : Nat) := by rw [hQ]; exact tdivN A B
        have eR : (A : Int).tmod B = (R : Nat) := by rw [hR]; exact tmodN A B
        refine ev_call [.int .u64 (A : Nat)] rfl rfl (pure_gives (rlow A hA2)) (fun β => by simp [BTm.den, Tm.i, Tm.s, Tm.den, env, vInt, vBool, vStr, exI, SW.den, SV.den, Cell.den, densP, Piece.den, denV, denT, rowCells_mgk, mgl_agg]) (fun β => by simp [BTm.den, Tm.i, Tm.s, Tm.den, env, vInt, vBool, vStr, exI, SW.den, SV.den, Cell.den, densP, Piece.den, denV, denT]) ?_
        refine ev_call [.int .u64 (B : Nat)] rfl rfl (pure_gives (rlow B hB2)) (fun β => by simp [BTm.den, Tm.i, Tm.s, Tm.den, env, vInt, vBool, vStr, exI, SW.den, SV.den, Cell.den, densP, Piece.den, denV, denT, rowCells_mgk, mgl_agg]) (fun β => by simp [BTm.den, Tm.i, Tm.s, Tm.den, env, vInt, vBool, vStr, exI, SW.den, SV.den, Cell.den, densP, Piece.den, denV, denT]) ?_
        refine ev_need (by simp [BTm.den, Tm.i, Tm.s, Tm.den, env, vInt, vBool, vStr, exI] <;> omega) ?_
        refine ev_fits ((Q : Nat) : Int) (by simp [BTm.den, Tm.i, Tm.s, Tm.den, env, vInt, vBool, vStr, exI, eQ]) (rng_u64 _ (by omega)) ?_
        refine ev_call [.agg (mgk 32 Q)] rfl rfl (pure_gives (rsmall Q hQ2)) (fun β => by simp [BTm.den, Tm.i, Tm.s, Tm.den, env, vInt, vBool, vStr, exI, SW.den, SV.den, Cell.den, densP, Piece.den, denV, denT, eQ]) (fun β => by simp [BTm.den, Tm.i, Tm.s, Tm.den, env, vInt, vBool, vStr, exI, SW.den, SV.den, Cell.den, densP, Piece.den, denV, denT, rowCells_mgk, mgl_agg]) ?_
        refine ev_call [.int .u64 (A : Nat)] rfl rfl (pure_gives (rlow A hA2)) (fun β => by simp [BTm.den, Tm.i, Tm.s, Tm.den, env, vInt, vBool, vStr, exI, SW.den, SV.den, Cell.den, densP, Piece.den, denV, denT, rowCells_mgk, mgl_agg]) (fun β => by simp [BTm.den, Tm.i, Tm.s, Tm.den, env, vInt, vBool, vStr, exI, SW.den, SV.den, Cell.den, densP, Piece.den, denV, denT]) ?_
        refine ev_call [.int .u64 (B : Nat)] rfl rfl (pure_gives (rlow B hB2)) (fun β => by simp [BTm.den, Tm.i, Tm.s, Tm.den, env, vInt, vBool, vStr, exI, SW.den, SV.den, Cell.den, densP, Piece.den, denV, denT, rowCells_mgk, mgl_agg]) (fun β => by simp [BTm.den, Tm.i, Tm.s, Tm.den, env, vInt, vBool, vStr, exI, SW.den, SV.den, Cell.den, densP, Piece.den, denV, denT]) ?_
        refine ev_need (by simp [BTm.den, Tm.i, Tm.s, Tm.den, env, vInt, vBool, vStr, exI] <;> omega) ?_
        refine ev_fits ((R : Nat) : Int) (by simp [BTm.den, Tm.i, Tm.s, Tm.den, env, vInt, vBool, vStr, exI, eR]) (rng_u64 _ (by omega)) ?_
        refine ev_call [.agg (mgk 32 R)] rfl rfl (pure_gives (rsmall R hR2)) (fun β => by simp [BTm.den, Tm.i, Tm.s, Tm.den, env, vInt, vBool, vStr, exI, SW.den, SV.den, Cell.den, densP, Piece.den, denV, denT, eR]) (fun β => by simp [BTm.den, Tm.i, Tm.s, Tm.den, env, vInt, vBool, vStr, exI, SW.den, SV.den, Cell.den, densP, Piece.den, denV, denT, rowCells_mgk, mgl_agg]) ?_
        refine ev_nil fun β => ?_
        rw [hv]; simp [BTm.den, Tm.i, Tm.s, Tm.den, env, vInt, vBool, vStr, exI, SW.den, SV.den, Cell.den, densP, Piece.den, denV, denT, rowCells_mgk, mgl_agg]
  have h := pure_of plain [.agg (mgk 32 A), .agg (mgk 32 B)] tDivide_ok (by kernel_rfl) _ (hmain _ rfl)
  refine gives_pure ?_
  simpa [rowB, BTm.den, Tm.i, Tm.s, Tm.den, env, vInt, vBool, vStr, exI, SW.den, SV.den, Cell.den, densP, Piece.den, denV, denT, rowCells_mgk, mgl_agg] using h
end Go.Proofs.Ytlccefdjhiedcaa
end
section
namespace Go.Proofs.Ytlccefdjhiedcaa
open Go.RowKit Go.Proofs.Ytlccefdjhiedcaa.Sx
set_option linter.unusedSimpArgs false
set_option linter.unusedVariables false

theorem one_row : (Value.int .u32 1 :: List.replicate 31 (.int .u32 0)).toArray = mgk 32 1 := by
  rw [← Array.toList_inj]
  have := mgl_two 1 (by rw [show pw 2 = 18446744073709551616 by rfl]; omega)
  have e0 : limb 1 0 = 1 := by rw [limb_small _ (by omega)]; rfl
  have e1 : limb 1 1 = 0 := by rw [limb_small _ (by omega)]; rfl
  rw [e0, e1] at this
  show _ = mgl 32 1
  rw [this]; rfl
set_option maxHeartbeats 2000000 in
theorem rdivMod_any (s t : Bool) (n m : Nat) (hn : n < pw 32) (hm : m < pw 32) (h0 : 0 < m) : Gives Try.prog 39 #[.agg (iv s n), .agg (iv t m)] (divR (vz s n) (vz t m)) := by
  have hmain : ∀ v, v = divR (vz s n) (vz t m) → tDivMod.den Try.prog (fun ρ' ret => ∀ β, ret.val.den (env ρ') β = v) [.bool s, .agg (mgk 32 n), .bool t, .agg (mgk 32 m)] := by
    intro v hv
    have hzm := rzero_any m hm
    rw [isz_false (by omega)] at hzm
    have hdv := rdivide n m hn hm h0
    have hQl : n / m < pw 32 := Nat.lt_of_le_of_lt (Nat.div_le_self _ _) hn
    have hRl : n % m < m := Nat.mod_lt _ h0
    have hzr := rzero_any (n % m) (by omega)
    refine tree_ite ?_
    refine ev_call [.bool false] rfl rfl (pure_gives hzm) (fun β => by simp [BTm.den, Tm.i, Tm.s, Tm.den, env, vInt, vBool, vStr, exI, SW.den, SV.den, Cell.den, densP, Piece.den, denV, denT, rowCells_mgk, mgl_agg]) (fun β => by simp [BTm.den, Tm.i, Tm.s, Tm.den, env, vInt, vBool, vStr, exI, SW.den, SV.den, Cell.den, densP, Piece.den, denV, denT]) ?_
    refine ev_nil (way_false (by simp [BTm.den, Tm.i, Tm.s, Tm.den, env, vInt, vBool, vStr, exI]) (tree_ite ?_))
    have hplain : s = false ∨ n % m = 0 → v = .tuple #[.agg (ivZ (vz (s != t) (n / m))), .agg (ivZ (vz false (n % m))), .int .i64 0] := fun h => by
      obtain ⟨e1, e2⟩ := divZ_plain (t := t) h0 h
      rw [hv]; unfold divR; rw [e1, e2]; rfl
    have hmore : s = true → n % m ≠ 0 → v = .tuple #[.agg (ivZ (vz (s != t) (n / m + 1))), .agg (ivZ (vz false (m - n % m))), .int .i64 0] := fun hs h => by
      obtain ⟨e1, e2⟩ := divZ_more (t := t) h0 h
      rw [hv]; unfold divR; rw [hs, e1, e2]; rfl
    have hroom := div_room (n := n) (m := m) (K := pw 32) hn h0
    have hc1 := fun b => rcanon b (n / m) hQl
    have hc2 := rcanon false (n % m) (by omega)
    have hdf := rdiff m (n % m) hm (by omega)
    have hsm := rsum (n / m) 1 hQl (by have := pw_le (show 1 ≤ 32 by omega); rw [pw_one] at this; omega)
    clear hv
    obtain ⟨Q, hQ⟩ : ∃ Q, Q = n / m := ⟨_, rfl⟩
    obtain ⟨R, hR⟩ : ∃ Q, Q = n % m := ⟨_, rfl⟩
    rw [← hQ] at hdv hQl hplain hmore hroom hsm
    rw [← hR] at hdv hRl hplain hmore hroom hc2 hdf hzr
    rw [← hQ] at hc1
    refine ev_call [.agg (mgk 32 Q), .agg (mgk 32 R)] rfl rfl (pure_gives hdv) (fun β => by simp [BTm.den, Tm.i, Tm.s, Tm.den, env, vInt, vBool, vStr, exI, SW.den, SV.den, Cell.den, densP, Piece.den, denV, denT, rowCells_mgk, mgl_agg]) (fun β => by simp [BTm.den, Tm.i, Tm.s, Tm.den, env, vInt, vBool, vStr, exI, SW.den, SV.den, Cell.den, densP, Piece.den, denV, denT, rowCells_mgk, mgl_agg]) ?_
    have fin : ∀ (ρ : List Value) (b : Bool) (X Y : Nat), True := fun _ _ _ _ => trivial
    refine ev_nil ⟨fun hs => tree_ite ?_, fun hs => tree_ite (ev_nil ⟨fun ht => tree_leaf ?_, fun ht => tree_leaf ?_⟩)⟩
    · have hs : s = true := by simpa [BTm.den, Tm.i, Tm.s, Tm.den, env, vInt, vBool, vStr, exI] using hs
      subst hs
      refine ev_call [.bool (isz R)] rfl rfl (pure_gives hzr) (fun β => by simp [BTm.den, Tm.i, Tm.s, Tm.den, env, vInt, vBool, vStr, exI, SW.den, SV.den, Cell.den, densP, Piece.den, denV, denT, rowCells_mgk, mgl_agg]) (fun β => by simp [BTm.den, Tm.i, Tm.s, Tm.den, env, vInt, vBool, vStr, exI, SW.den, SV.den, Cell.den, densP, Piece.den, denV, denT]) ?_
      refine ev_nil ⟨fun hz => tree_ite (ev_nil ⟨fun ht => tree_leaf ?_, fun ht => tree_leaf ?_⟩), fun hz => tree_ite ?_⟩
      · have ht : t = true := by simpa [BTm.den, Tm.i, Tm.s, Tm.den, env, vInt, vBool, vStr, exI] using ht
        have hz' : R = 0 := by simpa [BTm.den, Tm.i, Tm.s, Tm.den, env, vInt, vBool, vStr, exI, isz] using hz
        subst ht
        have hv := hplain (.inr hz')
        have hc := hc1 (true != true)
        refine ev_call [.bool (decide (vz (true != true) Q < 0)), .agg (mgk 32 (vz (true != true) Q).natAbs)] rfl rfl (pure_gives hc) (fun β => by simp [BTm.den, Tm.i, Tm.s, Tm.den, env, vInt, vBool, vStr, exI, SW.den, SV.den, Cell.den, densP, Piece.den, denV, denT, rowCells_mgk, mgl_agg]) (fun β => by simp [BTm.den, Tm.i, Tm.s, Tm.den, env, vInt, vBool, vStr, exI, SW.den, SV.den, Cell.den, densP, Piece.den, denV, denT, rowCells_mgk, iv_list, ivZ]) ?_
        refine ev_call [.bool (decide (vz false R < 0)), .agg (mgk 32 (vz false R).natAbs)] rfl rfl (pure_gives hc2) (fun β => by simp [BTm.den, Tm.i, Tm.s, Tm.den, env, vInt, vBool, vStr, exI, SW.den, SV.den, Cell.den, densP, Piece.den, denV, denT, rowCells_mgk, mgl_agg]) (fun β => by simp [BTm.den, Tm.i, Tm.s, Tm.den, env, vInt, vBool, vStr, exI, SW.den, SV.den, Cell.den, densP, Piece.den, denV, denT, rowCells_mgk, iv_list, ivZ]) ?_
        refine ev_nil fun β => ?_
        rw [hv]
        simp [BTm.den, Tm.i, Tm.s, Tm.den, env, vInt, vBool, vStr, exI, SW.den, SV.den, Cell.den, densP, Piece.den, denV, denT, rowCells_mgk, iv_list, ivZ]
      · have ht : t = false := by simpa [BTm.den, Tm.i, Tm.s, Tm.den, env, vInt, vBool, vStr, exI] using ht
        have hz' : R = 0 := by simpa [BTm.den, Tm.i, Tm.s, Tm.den, env, vInt, vBool, vStr, exI, isz] using hz
        subst ht
        have hv := hplain (.inr hz')
        have hc := hc1 (true != false)
        refine ev_call [.bool (decide (vz (true != false) Q < 0)), .agg (mgk 32 (vz (true != false) Q).natAbs)] rfl rfl (pure_gives hc) (fun β => by simp [BTm.den, Tm.i, Tm.s, Tm.den, env, vInt, vBool, vStr, exI, SW.den, SV.den, Cell.den, densP, Piece.den, denV, denT, rowCells_mgk, mgl_agg]) (fun β => by simp [BTm.den, Tm.i, Tm.s, Tm.den, env, vInt, vBool, vStr, exI, SW.den, SV.den, Cell.den, densP, Piece.den, denV, denT, rowCells_mgk, iv_list, ivZ]) ?_
        refine ev_call [.bool (decide (vz false R < 0)), .agg (mgk 32 (vz false R).natAbs)] rfl rfl (pure_gives hc2) (fun β => by simp [BTm.den, Tm.i, Tm.s, Tm.den, env, vInt, vBool, vStr, exI, SW.den, SV.den, Cell.den, densP, Piece.den, denV, denT, rowCells_mgk, mgl_agg]) (fun β => by simp [BTm.den, Tm.i, Tm.s, Tm.den, env, vInt, vBool, vStr, exI, SW.den, SV.den, Cell.den, densP, Piece.den, denV, denT, rowCells_mgk, iv_list, ivZ]) ?_
        refine ev_nil fun β => ?_
        rw [hv]
        simp [BTm.den, Tm.i, Tm.s, Tm.den, env, vInt, vBool, vStr, exI, SW.den, SV.den, Cell.den, densP, Piece.den, denV, denT, rowCells_mgk, iv_list, ivZ]
      · have hz : R ≠ 0 := by simpa [BTm.den, Tm.i, Tm.s, Tm.den, env, vInt, vBool, vStr, exI, isz] using hz
        have hv := hmore rfl hz
        have hroom := hroom hz
        rw [Nat.mod_eq_of_lt hroom] at hsm
        refine ev_call [.agg (mgk 32 (m - R))] rfl rfl (pure_gives hdf) (fun β => by simp [BTm.den, Tm.i, Tm.s, Tm.den, env, vInt, vBool, vStr, exI, SW.den, SV.den, Cell.den, densP, Piece.den, denV, denT, rowCells_mgk, mgl_agg]) (fun β => by simp [BTm.den, Tm.i, Tm.s, Tm.den, env, vInt, vBool, vStr, exI, SW.den, SV.den, Cell.den, densP, Piece.den, denV, denT, rowCells_mgk, mgl_agg]) ?_
        refine ev_call [.agg (mgk 32 (Q + 1)), .bool (decide (Q + 1 < pw 32))] rfl rfl (pure_gives hsm) (fun β => by rw [← one_row]; simp [BTm.den, Tm.i, Tm.s, Tm.den, env, vInt, vBool, vStr, exI, SW.den, SV.den, Cell.den, densP, Piece.den, denV, denT, rowCells_mgk, mgl_agg]) (fun β => by simp [BTm.den, Tm.i, Tm.s, Tm.den, env, vInt, vBool, vStr, exI, SW.den, SV.den, Cell.den, densP, Piece.den, denV, denT, rowCells_mgk, mgl_agg]) ?_
        have hc2 := rcanon false (m - R) (by omega)
        have hc1 := fun b => rcanon b (Q + 1) hroom
        refine ev_nil ⟨fun ht => tree_leaf ?_, fun ht => tree_leaf ?_⟩
        · have ht : t = true := by simpa [BTm.den, Tm.i, Tm.s, Tm.den, env, vInt, vBool, vStr, exI] using ht
          subst ht
          have hc := hc1 (true != true)
          refine ev_call [.bool (decide (vz (true != true) (Q + 1) < 0)), .agg (mgk 32 (vz (true != true) (Q + 1)).natAbs)] rfl rfl (pure_gives hc) (fun β => by simp [BTm.den, Tm.i, Tm.s, Tm.den, env, vInt, vBool, vStr, exI, SW.den, SV.den, Cell.den, densP, Piece.den, denV, denT, rowCells_mgk, mgl_agg]) (fun β => by simp [BTm.den, Tm.i, Tm.s, Tm.den, env, vInt, vBool, vStr, exI, SW.den, SV.den, Cell.den, densP, Piece.den, denV, denT, rowCells_mgk, iv_list, ivZ]) ?_
          refine ev_call [.bool (decide (vz false (m - R) < 0)), .agg (mgk 32 (vz false (m - R)).natAbs)] rfl rfl (pure_gives hc2) (fun β => by simp [BTm.den, Tm.i, Tm.s, Tm.den, env, vInt, vBool, vStr, exI, SW.den, SV.den, Cell.den, densP, Piece.den, denV, denT, rowCells_mgk, mgl_agg]) (fun β => by simp [BTm.den, Tm.i, Tm.s, Tm.den, env, vInt, vBool, vStr, exI, SW.den, SV.den, Cell.den, densP, Piece.den, denV, denT, rowCells_mgk, iv_list, ivZ]) ?_
          refine ev_nil fun β => ?_
          rw [hv]
          simp [BTm.den, Tm.i, Tm.s, Tm.den, env, vInt, vBool, vStr, exI, SW.den, SV.den, Cell.den, densP, Piece.den, denV, denT, rowCells_mgk, iv_list, ivZ]
        · have ht : t = false := by simpa [BTm.den, Tm.i, Tm.s, Tm.den, env, vInt, vBool, vStr, exI] using ht
          subst ht
          have hc := hc1 (true != false)
          refine ev_call [.bool (decide (vz (true != false) (Q + 1) < 0)), .agg (mgk 32 (vz (true != false) (Q + 1)).natAbs)] rfl rfl (pure_gives hc) (fun β => by simp [BTm.den, Tm.i, Tm.s, Tm.den, env, vInt, vBool, vStr, exI, SW.den, SV.den, Cell.den, densP, Piece.den, denV, denT, rowCells_mgk, mgl_agg]) (fun β => by simp [BTm.den, Tm.i, Tm.s, Tm.den, env, vInt, vBool, vStr, exI, SW.den, SV.den, Cell.den, densP, Piece.den, denV, denT, rowCells_mgk, iv_list, ivZ]) ?_
          refine ev_call [.bool (decide (vz false (m - R) < 0)), .agg (mgk 32 (vz false (m - R)).natAbs)] rfl rfl (pure_gives hc2) (fun β => by simp [BTm.den, Tm.i, Tm.s, Tm.den, env, vInt, vBool, vStr, exI, SW.den, SV.den, Cell.den, densP, Piece.den, denV, denT, rowCells_mgk, mgl_agg]) (fun β => by simp [BTm.den, Tm.i, Tm.s, Tm.den, env, vInt, vBool, vStr, exI, SW.den, SV.den, Cell.den, densP, Piece.den, denV, denT, rowCells_mgk, iv_list, ivZ]) ?_
          refine ev_nil fun β => ?_
          rw [hv]
          simp [BTm.den, Tm.i, Tm.s, Tm.den, env, vInt, vBool, vStr, exI, SW.den, SV.den, Cell.den, densP, Piece.den, denV, denT, rowCells_mgk, iv_list, ivZ]
    · have hs : s = false := by simpa [BTm.den, Tm.i, Tm.s, Tm.den, env, vInt, vBool, vStr, exI] using hs
      have ht : t = true := by simpa [BTm.den, Tm.i, Tm.s, Tm.den, env, vInt, vBool, vStr, exI] using ht
      subst hs ht
      have hv := hplain (.inl rfl)
      have hc := hc1 (false != true)
      refine ev_call [.bool (decide (vz (false != true) Q < 0)), .agg (mgk 32 (vz (false != true) Q).natAbs)] rfl rfl (pure_gives hc) (fun β => by simp [BTm.den, Tm.i, Tm.s, Tm.den, env, vInt, vBool, vStr, exI, SW.den, SV.den, Cell.den, densP, Piece.den, denV, denT, rowCells_mgk, mgl_agg]) (fun β => by simp [BTm.den, Tm.i, Tm.s, Tm.den, env, vInt, vBool, vStr, exI, SW.den, SV.den, Cell.den, densP, Piece.den, denV, denT, rowCells_mgk, iv_list, ivZ]) ?_
      refine ev_call [.bool (decide (vz false R < 0)), .agg (mgk 32 (vz false R).natAbs)] rfl rfl (pure_gives hc2) (fun β => by simp [BTm.den, Tm.i, Tm.s, Tm.den, env, vInt, vBool, vStr, exI, SW.den, SV.den, Cell.den, densP, Piece.den, denV, denT, rowCells_mgk, mgl_agg]) (fun β => by simp [BTm.den, Tm.i, Tm.s, Tm.den, env, vInt, vBool, vStr, exI, SW.den, SV.den, Cell.den, densP, Piece.den, denV, denT, rowCells_mgk, iv_list, ivZ]) ?_
      refine ev_nil fun β => ?_
      rw [hv]
      simp [BTm.den, Tm.i, Tm.s, Tm.den, env, vInt, vBool, vStr, exI, SW.den, SV.den, Cell.den, densP, Piece.den, denV, denT, rowCells_mgk, iv_list, ivZ]
    · have hs : s = false := by simpa [BTm.den, Tm.i, Tm.s, Tm.den, env, vInt, vBool, vStr, exI] using hs
      have ht : t = false := by simpa [BTm.den, Tm.i, Tm.s, Tm.den, env, vInt, vBool, vStr, exI] using ht
      subst hs ht
      have hv := hplain (.inl rfl)
      have hc := hc1 (false != false)
      refine ev_call [.bool (decide (vz (false != false) Q < 0)), .agg (mgk 32 (vz (false != false) Q).natAbs)] rfl rfl (pure_gives hc) (fun β => by simp [BTm.den, Tm.i, Tm.s, Tm.den, env, vInt, vBool, vStr, exI, SW.den, SV.den, Cell.den, densP, Piece.den, denV, denT, rowCells_mgk, mgl_agg]) (fun β => by simp [BTm.den, Tm.i, Tm.s, Tm.den, env, vInt, vBool, vStr, exI, SW.den, SV.den, Cell.den, densP, Piece.den, denV, denT, rowCells_mgk, iv_list, ivZ]) ?_
      refine ev_call [.bool (decide (vz false R < 0)), .agg (mgk 32 (vz false R).natAbs)] rfl rfl (pure_gives hc2) (fun β => by simp [BTm.den, Tm.i, Tm.s, Tm.den, env, vInt, vBool, vStr, exI, SW.den, SV.den, Cell.den, densP, Piece.den, denV, denT, rowCells_mgk, mgl_agg]) (fun β => by simp [BTm.den, Tm.i, Tm.s, Tm.den, env, vInt, vBool, vStr, exI, SW.den, SV.den, Cell.den, densP, Piece.den, denV, denT, rowCells_mgk, iv_list, ivZ]) ?_
      refine ev_nil fun β => ?_
      rw [hv]
      simp [BTm.den, Tm.i, Tm.s, Tm.den, env, vInt, vBool, vStr, exI, SW.den, SV.den, Cell.den, densP, Piece.den, denV, denT, rowCells_mgk, iv_list, ivZ]
  have h := pure_of plain [.bool s, .agg (mgk 32 n), .bool t, .agg (mgk 32 m)] tDivMod_ok (by kernel_rfl) _ (hmain _ rfl)
  refine gives_pure ?_
  simpa [intB, BTm.den, Tm.i, Tm.s, Tm.den, env, vInt, vBool, vStr, exI, SW.den, SV.den, Cell.den, densP, Piece.den, denV, denT, rowCells_mgk, iv_list] using h
theorem rabs_any (s : Bool) (n : Nat) (hn : n < pw 32) : Gives Try.prog 38 #[.agg (iv s n)] (.agg (ivZ (vz false n))) := by
  have hc := rcanon false n hn
  have h := pure_of plain [.bool s, .agg (mgk 32 n)] tAbs_ok (by kernel_rfl) (.agg (ivZ (vz false n))) (tree_leaf (ev_call [.bool (decide (vz false n < 0)), .agg (mgk 32 (vz false n).natAbs)] rfl rfl (pure_gives hc) (fun β => by simp [BTm.den, Tm.i, Tm.s, Tm.den, env, vInt, vBool, vStr, exI, SW.den, SV.den, Cell.den, densP, Piece.den, denV, denT, rowCells_mgk, mgl_agg]) (fun β => by simp [BTm.den, Tm.i, Tm.s, Tm.den, env, vInt, vBool, vStr, exI, SW.den, SV.den, Cell.den, densP, Piece.den, denV, denT, rowCells_mgk, iv_list, ivZ]) (ev_nil fun β => ?_)))
  · refine gives_pure ?_
    simpa [intB, BTm.den, Tm.i, Tm.s, Tm.den, env, vInt, vBool, vStr, exI, SW.den, SV.den, Cell.den, densP, Piece.den, denV, denT, rowCells_mgk, iv_list] using h
  · simp [BTm.den, Tm.i, Tm.s, Tm.den, env, vInt, vBool, vStr, exI, SW.den, SV.den, Cell.den, densP, Piece.den, denV, denT, rowCells_mgk, iv_list, ivZ]
end Go.Proofs.Ytlccefdjhiedcaa
end
section
namespace Go.Proofs.Ytlccefdjhiedcaa
open Go.RowKit
variable {P : Program} {ops : Array Oper} {md : Region.Mode} {Q : Exit → Act → World → Prop} {c : Option Nat} {w0 : World} {r : List (Nat × Obj)}

def YA (P : Program) (ops : Array Oper) (c : Option Nat) (w0 : World) (r l : List (Nat × Obj)) (o : Oper) (v : Value) (a : Act) : Prop :=
  Region.wanted o (yielded ops a.tmps) = true ∧ ∀ l', l <:+ l' → Into P o a (fun w => St c w0 w r l') (fun w => St c w0 w r l') v
theorem YA.of_same {l : List (Nat × Obj)} {o : Oper} {v : Value} {a a' : Act} (hy : YA P ops c w0 r l o v a) (he : execOp a'.eval o = execOp a.eval o)
    (hw : Region.wanted o (yielded ops a'.tmps) = Region.wanted o (yielded ops a.tmps)) : YA P ops c w0 r l o v a' := by
  unfold YA Into at *
  rw [he, hw]
  exact hy
theorem YA.more {l : List (Nat × Obj)} {o : Oper} {v : Value} {a : Act} (hy : YA P ops c w0 r l o v a) (x : Nat × Obj) : YA P ops c w0 r (x :: l) o v a :=
  ⟨hy.1, fun l' h => hy.2 l' ((List.suffix_cons x l).trans h)⟩

end Go.Proofs.Ytlccefdjhiedcaa
end
section
namespace Go.Proofs.Ytlccefdjhiedcaa
open Go.RowKit Go.Proofs.Ytlccefdjhiedcaa.Sx
set_option linter.unusedSimpArgs false
set_option linter.unusedVariables false

theorem same_Z (z : Int) (hz : z.natAbs < pw 32) : SameFact Try.prog 25 (.agg (ivZ z)) (.agg (ivZ z)) true := fun w => by
  have := ivType.2 w (decide (z < 0)) (decide (z < 0)) z.natAbs z.natAbs hz hz
  rw [decide_eq_true (show decide (z < 0) = decide (z < 0) ∧ z.natAbs = z.natAbs from ⟨rfl, rfl⟩)] at this
  exact this
end Go.Proofs.Ytlccefdjhiedcaa
end
section
namespace Go.Proofs.Ytlccefdjhiedcaa
open Go.RowKit Go.Proofs.Ytlccefdjhiedcaa.Sx
set_option linter.unusedSimpArgs false
set_option linter.unusedVariables false

theorem bt_cat (a b : List UInt8) : bt a ++ bt b = bt (a ++ b) := by
  apply byteArray_ext
  simp [bt]
theorem bt_size (l : List UInt8) : (bt l).size = l.length := by simp [bt, ByteArray.size]
theorem tens {r : Nat} (h : r < 10) : (ByteArray.mk #[48, 49, 50, 51, 52, 53, 54, 55, 56, 57]).extract r (r + 1) = bt [UInt8.ofNat (48 + r)] := by
  have : r = 0 ∨ r = 1 ∨ r = 2 ∨ r = 3 ∨ r = 4 ∨ r = 5 ∨ r = 6 ∨ r = 7 ∨ r = 8 ∨ r = 9 := by omega
  rcases this with rfl | rfl | rfl | rfl | rfl | rfl | rfl | rfl | rfl | rfl <;> rfl
set_option maxHeartbeats 2000000 in
theorem fmtd_loop (s : Bool) (n : Nat) (hn : n < pw 32) :
    Ev.holds Try.prog (env [.bool s, .agg (mgk 32 n), .bool (isz n), .bool false, .agg (mgk 32 n), .string (bt (dg n)), .bool false, .agg (mgk 32 0)]) (.loop 10 0 xfS10_0 xfH10_0 (.exit 0) .none 3) := by
  refine loop_holds plain (m := 3) (x := .exit 0) (alt := none) [.bool s, .agg (mgk 32 n), .bool (isz n), .bool false, .agg (mgk 32 n)] [.string (bt (dg n)), .bool false, .agg (mgk 32 0)] tdFormat0_ok tdFormat0_fine
    (fun vs => ∃ (R : Nat) (T : List UInt8), R < pw 32 ∧ dg n = dg R ++ T ∧ vs = [.string (bt T), .bool false, .agg (mgk 32 R)])
    (fun vs => 400 - (vStr (vs.getD 0 undef)).size) tdFormat0_diff ?_ ?_
  · refine ⟨_, rfl, ⟨n, [], hn, by rw [List.append_nil], rfl⟩, ?_⟩
    simp [tdFormat0_d, BTm.den, Tm.i, Tm.s, Tm.den, env, vInt, vBool, vStr, exI, SW.den, SV.den, Cell.den, densP, Piece.den, denV, denT, rowCells_mgk, bt]
  · rintro vs hl ⟨R, T, hR, hd, rfl⟩
    clear hl
    have hlen := dg_309 hn
    have hlen2 : (dg n).length = (dg R).length + T.length := by rw [hd, List.length_append]
    have g1 := rzero_any R hR
    have hz := bt_size T
    refine tree_ite ?_
    refine ev_call [.bool (isz R)] rfl rfl (pure_gives g1) (fun β => by simp [BTm.den, Tm.i, Tm.s, Tm.den, env, vInt, vBool, vStr, exI, SW.den, SV.den, Cell.den, densP, Piece.den, denV, denT, rowCells_mgk, mgl_agg]) (fun β => by simp [BTm.den, Tm.i, Tm.s, Tm.den, env, vInt, vBool, vStr, exI, SW.den, SV.den, Cell.den, densP, Piece.den, denV, denT]) ?_
    by_cases h0 : R = 0
    · subst h0
      rw [dg_zero, List.nil_append] at hd
      refine ev_nil (way_true (by simp [BTm.den, Tm.i, Tm.s, Tm.den, env, vInt, vBool, vStr, exI, isz]) (tree_leaf (ev_nil ⟨rfl, ?_⟩)))
      rw [hd]
      simp [BTm.den, Tm.i, Tm.s, Tm.den, env, vInt, vBool, vStr, exI, SW.den, SV.den, Cell.den, densP, Piece.den, denV, denT, rowCells_mgk]
    · refine ev_nil (way_false (by simp [BTm.den, Tm.i, Tm.s, Tm.den, env, vInt, vBool, vStr, exI, isz, h0]) (tree_leaf ?_))
      have g2 := rfromInt_any 10 (by omega)
      have g3 := rdivMod_any false false R 10 hR (by decide +kernel) (by omega)
      have e10 : ivZ 10 = iv false 10 := rfl
      have eD : divR (vz false R) (vz false 10) = .tuple #[.agg (iv false (R / 10)), .agg (iv false (R % 10)), .int .i64 0] := by
        have a1 : vz false R / vz false 10 = vz false (R / 10) := by simp [vz]
        have a2 : vz false R % vz false 10 = vz false (R % 10) := by simp [vz]
        unfold divR
        rw [a1, a2, ivZ_vz, ivZ_vz]; rfl
      rw [e10] at g2
      rw [eD] at g3
      have hd0 := dg_pos h0
      have hl1 : (dg R).length = (dg (R / 10)).length + 1 := by rw [hd0]; simp
      obtain ⟨q, hq⟩ : ∃ q, q = R / 10 := ⟨_, rfl⟩
      obtain ⟨r, hr⟩ : ∃ r, r = R % 10 := ⟨_, rfl⟩
      have hr10 : r < 10 := by omega
      have hq2 : q < pw 32 := Nat.lt_of_le_of_lt (by omega) hR
      rw [← hq] at hd0 hl1 g3
      rw [← hr] at hd0 g3
      have hel : ((mgl 32 r).drop 0).take 1 = [.int .u32 ((r : Nat) : Int)] := by
        have := mgl_elem (n := r) (k := 32) (i := 0) (by omega)
        rw [limb_small r (by omega) 0, if_pos rfl] at this
        exact this
      have ht := tens hr10
      have hk : (((r : Nat) : Int) + 1).toNat = r + 1 := by omega
      refine ev_call [.bool false, .agg (mgk 32 10)] rfl rfl (pure_gives g2) (fun β => by simp [BTm.den, Tm.i, Tm.s, Tm.den, env, vInt, vBool, vStr, exI, SW.den, SV.den, Cell.den, densP, Piece.den, denV, denT]) (fun β => by simp [BTm.den, Tm.i, Tm.s, Tm.den, env, vInt, vBool, vStr, exI, SW.den, SV.den, Cell.den, densP, Piece.den, denV, denT, rowCells_mgk, iv_list]) ?_
      refine ev_call [.bool false, .agg (mgk 32 q), .bool false, .agg (mgk 32 r), .int .i64 0] rfl rfl (pure_gives g3) (fun β => by simp [BTm.den, Tm.i, Tm.s, Tm.den, env, vInt, vBool, vStr, exI, SW.den, SV.den, Cell.den, densP, Piece.den, denV, denT, rowCells_mgk, iv_list]) (fun β => by simp [BTm.den, Tm.i, Tm.s, Tm.den, env, vInt, vBool, vStr, exI, SW.den, SV.den, Cell.den, densP, Piece.den, denV, denT, rowCells_mgk, iv_list]) ?_
      refine ev_elem [.int .u32 ((r : Nat) : Int)] rfl rfl (l := mgl 32 r) (m := [.int .u32 ((r : Nat) : Int)]) (k := 0) (by simp [BTm.den, Tm.i, Tm.s, Tm.den, env, vInt, vBool, vStr, exI]) (fun β => rowCells_mgk 32 r) (fun β => rfl) hel ?_
      refine ev_elem [.int .u32 ((r : Nat) : Int)] rfl rfl (l := mgl 32 r) (m := [.int .u32 ((r : Nat) : Int)]) (k := 0) (by simp [BTm.den, Tm.i, Tm.s, Tm.den, env, vInt, vBool, vStr, exI]) (fun β => rowCells_mgk 32 r) (fun β => rfl) hel ?_
      refine ev_fits ((r : Int) + 1) (by simp [BTm.den, Tm.i, Tm.s, Tm.den, env, vInt, vBool, vStr, exI]) (rng_u32 _ (by omega)) ?_
      refine ev_need (by simp [BTm.den, Tm.i, Tm.s, Tm.den, env, vInt, vBool, vStr, exI]) ?_
      refine ev_need (by simp [BTm.den, Tm.i, Tm.s, Tm.den, env, vInt, vBool, vStr, exI] <;> omega) ?_
      refine ev_need (by simp [BTm.den, Tm.i, Tm.s, Tm.den, env, vInt, vBool, vStr, exI] <;> omega) ?_
      refine ev_fits ((1 + T.length : Nat) : Int) (by simp [BTm.den, Tm.i, Tm.s, Tm.den, env, vInt, vBool, vStr, exI, hk, ht, bt_size]) (rng_i64 _ (by omega)) ?_
      refine ev_nil ⟨[.string (bt (UInt8.ofNat (48 + r) :: T)), .bool false, .agg (mgk 32 q)], rfl, ⟨q, UInt8.ofNat (48 + r) :: T, hq2, by rw [hd, hd0]; simp, rfl⟩, by simp [vStr, bt_size]; omega, ?_⟩
      simp [BTm.den, Tm.i, Tm.s, Tm.den, env, vInt, vBool, vStr, exI, SW.den, SV.den, Cell.den, densP, Piece.den, denV, denT, rowCells_mgk, hk, ht, bt_cat]
theorem fmt_d (s : Bool) (n : Nat) (hn : n < pw 32) : Gives Try.prog 10 #[.agg (iv s n)] (.string (bt (fmtL s n))) := by
  have main : tdFormat.den Try.prog (fun ρ' ret => ∀ β, ret.val.den (env ρ') β = .string (bt (fmtL s n))) [.bool s, .agg (mgk 32 n)] := by
    have g1 := rzero_any n hn
    have g2 := rabs_any s n hn
    have e2 : ivZ (vz false n) = iv false n := by rw [ivZ_vz]; rfl
    rw [e2] at g2
    have hlen := dg_309 hn
    have hz := bt_size (dg n)
    refine tree_ite ?_
    refine ev_call [.bool (isz n)] rfl rfl (pure_gives g1) (fun β => by simp [BTm.den, Tm.i, Tm.s, Tm.den, env, vInt, vBool, vStr, exI, SW.den, SV.den, Cell.den, densP, Piece.den, denV, denT, rowCells_mgk, mgl_agg]) (fun β => by simp [BTm.den, Tm.i, Tm.s, Tm.den, env, vInt, vBool, vStr, exI, SW.den, SV.den, Cell.den, densP, Piece.den, denV, denT]) ?_
    by_cases h0 : n = 0
    · subst h0
      refine ev_nil (way_true (by simp [BTm.den, Tm.i, Tm.s, Tm.den, env, vInt, vBool, vStr, exI, isz]) (tree_leaf (ev_nil fun β => ?_)))
      simp [BTm.den, Tm.i, Tm.s, Tm.den, env, vInt, vBool, vStr, exI, SW.den, SV.den, Cell.den, densP, Piece.den, denV, denT, fmtL, bt]
    · refine ev_nil (way_false (by simp [BTm.den, Tm.i, Tm.s, Tm.den, env, vInt, vBool, vStr, exI, isz, h0]) (tree_ite ?_))
      refine ev_call [.bool false, .agg (mgk 32 n)] rfl rfl (pure_gives g2) (fun β => by simp [BTm.den, Tm.i, Tm.s, Tm.den, env, vInt, vBool, vStr, exI, SW.den, SV.den, Cell.den, densP, Piece.den, denV, denT, rowCells_mgk, iv_list]) (fun β => by simp [BTm.den, Tm.i, Tm.s, Tm.den, env, vInt, vBool, vStr, exI, SW.den, SV.den, Cell.den, densP, Piece.den, denV, denT, rowCells_mgk, iv_list]) ?_
      refine ev_loop [.string (bt (dg n)), .bool false, .agg (mgk 32 0)] rfl rfl (fmtd_loop s n hn) ?_
      cases s with
      | true =>
        have e45 : (ByteArray.mk #[45]) = bt [45] := rfl
        refine ev_nil (way_true (by simp [BTm.den, Tm.i, Tm.s, Tm.den, env, vInt, vBool, vStr, exI]) (tree_leaf ?_))
        refine ev_fits ((1 + (dg n).length : Nat) : Int) (by simp [BTm.den, Tm.i, Tm.s, Tm.den, env, vInt, vBool, vStr, exI, e45, bt_size]) (rng_i64 _ (by omega)) ?_
        refine ev_nil fun β => ?_
        simp [BTm.den, Tm.i, Tm.s, Tm.den, env, vInt, vBool, vStr, exI, SW.den, SV.den, Cell.den, densP, Piece.den, denV, denT, fmtL, h0, e45, bt_cat]
      | false =>
        refine ev_nil (way_false (by simp [BTm.den, Tm.i, Tm.s, Tm.den, env, vInt, vBool, vStr, exI]) (tree_leaf (ev_nil fun β => ?_)))
        simp [BTm.den, Tm.i, Tm.s, Tm.den, env, vInt, vBool, vStr, exI, SW.den, SV.den, Cell.den, densP, Piece.den, denV, denT, fmtL, h0]
  have h := pure_of plain [.bool s, .agg (mgk 32 n)] tdFormat_ok (by kernel_rfl) _ main
  refine gives_pure ?_
  simpa [intF, BTm.den, Tm.i, Tm.s, Tm.den, env, vInt, vBool, vStr, exI, SW.den, SV.den, Cell.den, densP, Piece.den, denV, denT, rowCells_mgk, iv_list] using h
end Go.Proofs.Ytlccefdjhiedcaa
end
section
namespace Go.Proofs.Ytlccefdjhiedcaa
open Go.RowKit Go.Proofs.Ytlccefdjhiedcaa.Sx
set_option linter.unusedSimpArgs false
set_option linter.unusedVariables false

theorem L_bt (l : List UInt8) : (bt l).data.toList = l := by simp [bt]
theorem toListB_loop (s : ByteArray) : ∀ (n i : Nat) (r : List UInt8), s.size - i = n → ByteArray.toList.loop s i r = r.reverse ++ s.data.toList.drop i
  | 0, i, r, h => by
    unfold ByteArray.toList.loop
    rw [if_neg (by omega), List.drop_of_length_le (by have : s.data.toList.length = s.size := rfl; omega), List.append_nil]
  | n + 1, i, r, h => by
    have hl : s.data.toList.length = s.size := rfl
    unfold ByteArray.toList.loop
    rw [if_pos (by omega), toListB_loop s n (i + 1) _ (by omega), List.drop_eq_getElem_cons (i := i) (by omega), List.reverse_cons, List.append_assoc]
    have hi : i < s.data.size := by have : s.data.size = s.size := rfl; omega
    have e : s.get! i = s.data.toList[i]'(by omega) := by
      show s.data[i]! = _
      rw [getElem!_pos s.data i hi, Array.getElem_toList]
    rw [e]; rfl
theorem bt_L (s : ByteArray) : bt s.data.toList = s := byteArray_ext (by simp [bt])
theorem bt_sub (l : List UInt8) (a b : Nat) : (bt l).extract a b = bt ((l.drop a).take (b - a)) := by
  refine byteArray_ext ?_
  rw [L_bt, ByteArray.data_extract, Array.toList_extract, L_bt]
theorem bt_toList (l : List UInt8) : (bt l).toList = l := by
  unfold ByteArray.toList
  rw [toListB_loop _ _ 0 [] rfl, L_bt]; rfl
theorem byteN_bt (l : List UInt8) (i : Nat) : byteN (bt l) i = (l.getD i 0).toNat := rfl
theorem neg_byte {s : ByteArray} (h : 1 ≤ s.size) : negB s = true ↔ byteN s 0 = 45 := by
  obtain ⟨l, rfl⟩ : ∃ l, s = bt l := ⟨_, (bt_L s).symm⟩
  rw [bt_size] at h
  cases l with
  | nil => simp at h
  | cons c l =>
    unfold negB
    rw [decide_eq_false (by rw [bt_size]; simp), bt_sub, bt_toList, byteN_bt]
    have e : (ByteArray.mk #[45]).toList = [45] := bt_toList [45]
    rw [e]
    simp only [cond, List.drop_zero, Nat.sub_zero, List.take_succ_cons, List.take_zero, List.getD_cons_zero, beq_iff_eq, List.cons.injEq, and_true]
    exact ⟨fun h => by rw [h]; rfl, fun h => UInt8.toNat_inj.1 h⟩
theorem zero_byte (s : ByteArray) : zeroB s = true ↔ s.size = 1 ∧ byteN s 0 = 48 := by
  obtain ⟨l, rfl⟩ : ∃ l, s = bt l := ⟨_, (bt_L s).symm⟩
  unfold zeroB
  have e : (ByteArray.mk #[48]).toList = [48] := bt_toList [48]
  rw [e, bt_toList, bt_size, byteN_bt]
  constructor
  · intro h
    have h := beq_iff_eq.1 h
    subst h; exact ⟨rfl, rfl⟩
  · rintro ⟨h1, h2⟩
    cases l with
    | nil => simp at h1
    | cons c l =>
      have : l = [] := List.eq_nil_of_length_eq_zero (by simpa using h1)
      subst this
      have h2 : c.toNat = 48 := h2
      have : c = 48 := UInt8.toNat_inj.1 h2
      subst this; rfl
theorem neg_none {s : ByteArray} (h : s.size < 1) : negB s = false := by unfold negB; rw [decide_eq_true h]; rfl
theorem digs_pos {s : ByteArray} (h : negB s = false) : digs s = s := by unfold digs; rw [h]; rfl
theorem digs_neg {s : ByteArray} (h : negB s = true) : digs s = s.extract 1 s.size := by unfold digs; rw [h]; rfl
set_option maxHeartbeats 8000000 in
theorem parse_d (s : ByteArray) (hmax : s.size ≤ 9223372036854775807) : ∃ ok : Bool, (ok = true ↔ NumOk (digs s) ∧ ¬ (negB s = true ∧ zeroB (digs s) = true)) ∧ Gives Try.prog 7 #[.string s] (numV (negB s) (digs s) ok) := by
  have fin : ∀ v : Value, (tdParse.den Try.prog (fun ρ' ret => ∀ β, ret.val.den (env ρ') β = v) [.string s]) → Gives Try.prog 7 #[.string s] v := fun v main => by
    have h := pure_of plain [.string s] tdParse_ok (by kernel_rfl) _ main
    refine gives_pure ?_
    simpa [strW, BTm.den, Tm.i, Tm.s, Tm.den, env, vInt, vBool, vStr, exI, SW.den, SV.den, Cell.den, densP, Piece.den, denV, denT] using h
  have hb0 : byteI s 0 = ((byteN s 0 : Nat) : Int) := byteI_N s 0
  by_cases e1 : s.size = 0
  · have hn := neg_none (s := s) (by omega)
    rw [digs_pos hn, hn]
    refine ⟨false, ⟨fun h => (by cases h), fun h => absurd e1 h.1.1⟩, fin _ ?_⟩
    refine tree_ite (ev_nil (way_false (by simp [BTm.den, Tm.i, Tm.s, Tm.den, env, vInt, vBool, vStr, exI, e1]) (tree_ite (ev_nil (way_true (by simp [BTm.den, Tm.i, Tm.s, Tm.den, env, vInt, vBool, vStr, exI, e1]) (tree_leaf (ev_nil fun β => ?_)))))))
    simp [BTm.den, Tm.i, Tm.s, Tm.den, env, vInt, vBool, vStr, exI, SW.den, SV.den, Cell.den, densP, Piece.den, denV, denT, numV, iv_none, -List.reduceReplicate]
  have hsz : 1 ≤ s.size := by omega
  have hnb := neg_byte hsz
  cases hn : negB s with
  | true =>
    have h45 : byteN s 0 = 45 := hnb.1 hn
    have hD := digs_neg hn
    obtain ⟨D, hDD⟩ : ∃ D, D = digs s := ⟨_, rfl⟩
    rw [← hDD] at hD ⊢
    have hzb := zero_byte D
    have hbD : byteI D 0 = ((byteN D 0 : Nat) : Int) := byteI_N D 0
    by_cases n1 : D.size = 0
    · refine ⟨false, ⟨fun h => (by cases h), fun h => absurd n1 h.1.1⟩, fin _ ?_⟩
      refine tree_ite (ev_nil (way_true (by simp [BTm.den, Tm.i, Tm.s, Tm.den, env, vInt, vBool, vStr, exI]; omega) (tree_ite ?_)))
      refine ev_need (by simp [BTm.den, Tm.i, Tm.s, Tm.den, env, vInt, vBool, vStr, exI]) ?_
      refine ev_need (by simp [BTm.den, Tm.i, Tm.s, Tm.den, env, vInt, vBool, vStr, exI]; omega) ?_
      refine ev_nil (way_true (by simp [BTm.den, Tm.i, Tm.s, Tm.den, env, vInt, vBool, vStr, exI, hb0, h45]) (tree_ite ?_))
      refine ev_need (by simp [BTm.den, Tm.i, Tm.s, Tm.den, env, vInt, vBool, vStr, exI]) ?_
      refine ev_need (by simp [BTm.den, Tm.i, Tm.s, Tm.den, env, vInt, vBool, vStr, exI]; omega) ?_
      refine ev_nil (way_true (by simp [BTm.den, Tm.i, Tm.s, Tm.den, env, vInt, vBool, vStr, exI, ← hD, n1]) (tree_leaf (ev_nil fun β => ?_)))
      simp [BTm.den, Tm.i, Tm.s, Tm.den, env, vInt, vBool, vStr, exI, SW.den, SV.den, Cell.den, densP, Piece.den, denV, denT, numV, iv_none, -List.reduceReplicate]
    by_cases n2 : 309 < D.size
    · refine ⟨false, ⟨fun h => (by cases h), fun h => absurd h.1.2.1 (by omega)⟩, fin _ ?_⟩
      refine tree_ite (ev_nil (way_true (by simp [BTm.den, Tm.i, Tm.s, Tm.den, env, vInt, vBool, vStr, exI]; omega) (tree_ite ?_)))
      refine ev_need (by simp [BTm.den, Tm.i, Tm.s, Tm.den, env, vInt, vBool, vStr, exI]) ?_
      refine ev_need (by simp [BTm.den, Tm.i, Tm.s, Tm.den, env, vInt, vBool, vStr, exI]; omega) ?_
      refine ev_nil (way_true (by simp [BTm.den, Tm.i, Tm.s, Tm.den, env, vInt, vBool, vStr, exI, hb0, h45]) (tree_ite ?_))
      refine ev_need (by simp [BTm.den, Tm.i, Tm.s, Tm.den, env, vInt, vBool, vStr, exI]) ?_
      refine ev_need (by simp [BTm.den, Tm.i, Tm.s, Tm.den, env, vInt, vBool, vStr, exI]; omega) ?_
      refine ev_nil (way_false (by simp [BTm.den, Tm.i, Tm.s, Tm.den, env, vInt, vBool, vStr, exI, ← hD, n1]) (tree_ite (ev_nil (way_true (by simp [BTm.den, Tm.i, Tm.s, Tm.den, env, vInt, vBool, vStr, exI, ← hD]; omega) (tree_leaf (ev_nil fun β => ?_))))))
      simp [BTm.den, Tm.i, Tm.s, Tm.den, env, vInt, vBool, vStr, exI, SW.den, SV.den, Cell.den, densP, Piece.den, denV, denT, numV, iv_none, -List.reduceReplicate]
    by_cases n3 : byteN D 0 = 48
    · refine ⟨false, ⟨fun h => (by cases h), fun h => ?_⟩, fin _ ?_⟩
      · obtain ⟨⟨m1, m2, m3, m4⟩, m5⟩ := h
        by_cases m6 : 1 < D.size
        · exact absurd n3 (m3 m6)
        · exact absurd ⟨rfl, hzb.2 ⟨by omega, n3⟩⟩ m5
      refine tree_ite (ev_nil (way_true (by simp [BTm.den, Tm.i, Tm.s, Tm.den, env, vInt, vBool, vStr, exI]; omega) (tree_ite ?_)))
      refine ev_need (by simp [BTm.den, Tm.i, Tm.s, Tm.den, env, vInt, vBool, vStr, exI]) ?_
      refine ev_need (by simp [BTm.den, Tm.i, Tm.s, Tm.den, env, vInt, vBool, vStr, exI]; omega) ?_
      refine ev_nil (way_true (by simp [BTm.den, Tm.i, Tm.s, Tm.den, env, vInt, vBool, vStr, exI, hb0, h45]) (tree_ite ?_))
      refine ev_need (by simp [BTm.den, Tm.i, Tm.s, Tm.den, env, vInt, vBool, vStr, exI]) ?_
      refine ev_need (by simp [BTm.den, Tm.i, Tm.s, Tm.den, env, vInt, vBool, vStr, exI]; omega) ?_
      refine ev_nil (way_false (by simp [BTm.den, Tm.i, Tm.s, Tm.den, env, vInt, vBool, vStr, exI, ← hD, n1]) (tree_ite (ev_nil (way_false (by simp [BTm.den, Tm.i, Tm.s, Tm.den, env, vInt, vBool, vStr, exI, ← hD]; omega) (tree_ite ?_)))))
      refine ev_need (by simp [BTm.den, Tm.i, Tm.s, Tm.den, env, vInt, vBool, vStr, exI]) ?_
      refine ev_need (by simp [BTm.den, Tm.i, Tm.s, Tm.den, env, vInt, vBool, vStr, exI, ← hD]; omega) ?_
      refine ev_nil (way_true (by simp [BTm.den, Tm.i, Tm.s, Tm.den, env, vInt, vBool, vStr, exI, ← hD, hbD, n3]) (tree_leaf (ev_nil fun β => ?_)))
      simp [BTm.den, Tm.i, Tm.s, Tm.den, env, vInt, vBool, vStr, exI, SW.den, SV.den, Cell.den, densP, Piece.den, denV, denT, numV, iv_none, -List.reduceReplicate]
    obtain ⟨j, bad, i1, i2, i3, i4⟩ := isnum_end D
    have hall : bad = false ↔ ∀ i, i < D.size → digB D i := by
      constructor
      · intro h i hi; exact i2 i (by have := i4 h; omega)
      · intro h
        cases hb : bad with
        | true => exact absurd (h j (i3 hb).1) (i3 hb).2
        | false => rfl
    refine ⟨!bad, ⟨fun h => ⟨⟨n1, by omega, fun _ => n3, hall.1 (by simpa using h)⟩, fun h => n3 (hzb.1 h.2).2⟩, fun h => by simpa using hall.2 h.1.2.2.2⟩, fin _ ?_⟩
    refine tree_ite (ev_nil (way_true (by simp [BTm.den, Tm.i, Tm.s, Tm.den, env, vInt, vBool, vStr, exI]; omega) (tree_ite ?_)))
    refine ev_need (by simp [BTm.den, Tm.i, Tm.s, Tm.den, env, vInt, vBool, vStr, exI]) ?_
    refine ev_need (by simp [BTm.den, Tm.i, Tm.s, Tm.den, env, vInt, vBool, vStr, exI]; omega) ?_
    refine ev_nil (way_true (by simp [BTm.den, Tm.i, Tm.s, Tm.den, env, vInt, vBool, vStr, exI, hb0, h45]) (tree_ite ?_))
    refine ev_need (by simp [BTm.den, Tm.i, Tm.s, Tm.den, env, vInt, vBool, vStr, exI]) ?_
    refine ev_need (by simp [BTm.den, Tm.i, Tm.s, Tm.den, env, vInt, vBool, vStr, exI]; omega) ?_
    refine ev_nil (way_false (by simp [BTm.den, Tm.i, Tm.s, Tm.den, env, vInt, vBool, vStr, exI, ← hD, n1]) (tree_ite (ev_nil (way_false (by simp [BTm.den, Tm.i, Tm.s, Tm.den, env, vInt, vBool, vStr, exI, ← hD]; omega) (tree_ite ?_)))))
    refine ev_need (by simp [BTm.den, Tm.i, Tm.s, Tm.den, env, vInt, vBool, vStr, exI]) ?_
    refine ev_need (by simp [BTm.den, Tm.i, Tm.s, Tm.den, env, vInt, vBool, vStr, exI, ← hD]; omega) ?_
    refine ev_nil (way_false (by simp [BTm.den, Tm.i, Tm.s, Tm.den, env, vInt, vBool, vStr, exI, ← hD, hbD]; omega) (tree_ite ?_))
    refine ev_loop [.int .i64 (j : Nat), .int .i64 (cond bad 12 0), .bool false, .agg (mgk 32 0), .bool bad] rfl rfl (pd_loop0 s D hD (by omega) j bad i1 i2 i3 i4 (cond bad 12 0) (fun h => by rw [h]; rfl) (fun h => by rw [h]; rfl)) ?_
    cases bad with
    | true =>
      refine ev_nil (way_true (by simp [BTm.den, Tm.i, Tm.s, Tm.den, env, vInt, vBool, vStr, exI]) (tree_leaf (ev_nil fun β => ?_)))
      simp [BTm.den, Tm.i, Tm.s, Tm.den, env, vInt, vBool, vStr, exI, SW.den, SV.den, Cell.den, densP, Piece.den, denV, denT, rowCells_mgk, iv_list, numV]
    | false =>
      obtain ⟨j2, big, e, V, h1, h2, h3, h4, h5, h6, h7, h8⟩ := loop_end true D
      refine ev_nil (way_false (by simp [BTm.den, Tm.i, Tm.s, Tm.den, env, vInt, vBool, vStr, exI]) (tree_ite ?_))
      refine ev_loop [.int .i64 (j2 : Nat), .int .i64 e, .bool false, .agg (mgk 32 (dval D j2)), .bool false, .agg (mgk 32 0), .bool big] rfl rfl (pd_loop1 s D hD j (by omega) (hall.1 rfl) j2 big h1 h2 h3 h4 e (fun h => (h5 h).1) (fun h => (h6 h).1)) ?_
      cases big with
      | true =>
        obtain ⟨he, hv⟩ := h7 rfl
        subst he
        refine ev_nil (way_true (by simp [BTm.den, Tm.i, Tm.s, Tm.den, env, vInt, vBool, vStr, exI]) (tree_leaf (ev_nil fun β => ?_)))
        show _ = numV true D true
        rw [hv]
        simp [BTm.den, Tm.i, Tm.s, Tm.den, env, vInt, vBool, vStr, exI, SW.den, SV.den, Cell.den, densP, Piece.den, denV, denT, rowCells_mgk, iv_list]
      | false =>
        obtain ⟨hV, hv⟩ := h8 rfl
        have hVd := (h6 rfl).2
        rw [← hVd]
        have g2 := rcanon true V hV
        obtain ⟨z, hzz⟩ : ∃ z, z = vz true V := ⟨_, rfl⟩
        rw [← hzz] at g2 hv
        refine ev_nil (way_false (by simp [BTm.den, Tm.i, Tm.s, Tm.den, env, vInt, vBool, vStr, exI]) (tree_leaf ?_))
        refine ev_call [.bool (decide (z < 0)), .agg (mgk 32 z.natAbs)] rfl rfl (pure_gives g2) (fun β => by simp [BTm.den, Tm.i, Tm.s, Tm.den, env, vInt, vBool, vStr, exI, SW.den, SV.den, Cell.den, densP, Piece.den, denV, denT, rowCells_mgk, mgl_agg, hb0, h45]) (fun β => by simp [BTm.den, Tm.i, Tm.s, Tm.den, env, vInt, vBool, vStr, exI, SW.den, SV.den, Cell.den, densP, Piece.den, denV, denT, rowCells_mgk, iv_list, ivZ]) ?_
        refine ev_nil fun β => ?_
        show _ = numV true D true
        rw [hv]
        simp [BTm.den, Tm.i, Tm.s, Tm.den, env, vInt, vBool, vStr, exI, SW.den, SV.den, Cell.den, densP, Piece.den, denV, denT, rowCells_mgk, iv_list, ivZ]
  | false =>
    have h45' : ¬ byteN s 0 = 45 := fun h => by rw [hnb.2 h] at hn; cases hn
    have h45 : ¬ ((byteN s 0 : Nat) : Int) = 45 := by omega
    rw [digs_pos hn]
    by_cases n2 : 309 < s.size
    · refine ⟨false, ⟨fun h => (by cases h), fun h => absurd h.1.2.1 (by omega)⟩, fin _ ?_⟩
      refine tree_ite (ev_nil (way_true (by simp [BTm.den, Tm.i, Tm.s, Tm.den, env, vInt, vBool, vStr, exI]; omega) (tree_ite ?_)))
      refine ev_need (by simp [BTm.den, Tm.i, Tm.s, Tm.den, env, vInt, vBool, vStr, exI]) ?_
      refine ev_need (by simp [BTm.den, Tm.i, Tm.s, Tm.den, env, vInt, vBool, vStr, exI]; omega) ?_
      refine ev_nil (way_false (by simp [BTm.den, Tm.i, Tm.s, Tm.den, env, vInt, vBool, vStr, exI, hb0]; omega) (tree_ite (ev_nil (way_false (by simp [BTm.den, Tm.i, Tm.s, Tm.den, env, vInt, vBool, vStr, exI, e1]) (tree_ite ?_)))))
      refine ev_nil (way_true (by simp [BTm.den, Tm.i, Tm.s, Tm.den, env, vInt, vBool, vStr, exI]; omega) (tree_leaf (ev_nil fun β => ?_)))
      simp [BTm.den, Tm.i, Tm.s, Tm.den, env, vInt, vBool, vStr, exI, SW.den, SV.den, Cell.den, densP, Piece.den, denV, denT, numV, iv_none, -List.reduceReplicate]
    by_cases n3 : byteN s 0 = 48
    · by_cases n4 : 1 < s.size
      · refine ⟨false, ⟨fun h => (by cases h), fun h => absurd n3 (h.1.2.2.1 n4)⟩, fin _ ?_⟩
        refine tree_ite (ev_nil (way_true (by simp [BTm.den, Tm.i, Tm.s, Tm.den, env, vInt, vBool, vStr, exI]; omega) (tree_ite ?_)))
        refine ev_need (by simp [BTm.den, Tm.i, Tm.s, Tm.den, env, vInt, vBool, vStr, exI]) ?_
        refine ev_need (by simp [BTm.den, Tm.i, Tm.s, Tm.den, env, vInt, vBool, vStr, exI]; omega) ?_
        refine ev_nil (way_false (by simp [BTm.den, Tm.i, Tm.s, Tm.den, env, vInt, vBool, vStr, exI, hb0]; omega) (tree_ite (ev_nil (way_false (by simp [BTm.den, Tm.i, Tm.s, Tm.den, env, vInt, vBool, vStr, exI, e1]) (tree_ite ?_)))))
        refine ev_nil (way_false (by simp [BTm.den, Tm.i, Tm.s, Tm.den, env, vInt, vBool, vStr, exI]; omega) (tree_ite ?_))
        refine ev_need (by simp [BTm.den, Tm.i, Tm.s, Tm.den, env, vInt, vBool, vStr, exI]) ?_
        refine ev_need (by simp [BTm.den, Tm.i, Tm.s, Tm.den, env, vInt, vBool, vStr, exI]; omega) ?_
        refine ev_nil (way_true (by simp [BTm.den, Tm.i, Tm.s, Tm.den, env, vInt, vBool, vStr, exI, hb0, n3]) (tree_ite (ev_nil (way_true (by simp [BTm.den, Tm.i, Tm.s, Tm.den, env, vInt, vBool, vStr, exI]; omega) (tree_leaf (ev_nil fun β => ?_))))))
        simp [BTm.den, Tm.i, Tm.s, Tm.den, env, vInt, vBool, vStr, exI, SW.den, SV.den, Cell.den, densP, Piece.den, denV, denT, numV, iv_none, -List.reduceReplicate]
      obtain ⟨j, bad, i1, i2, i3, i4⟩ := isnum_end s
      have hall : bad = false ↔ ∀ i, i < s.size → digB s i := by
        constructor
        · intro h i hi; exact i2 i (by have := i4 h; omega)
        · intro h
          cases hb : bad with
          | true => exact absurd (h j (i3 hb).1) (i3 hb).2
          | false => rfl
      refine ⟨!bad, ⟨fun h => ⟨⟨e1, by omega, fun h9 => absurd h9 n4, hall.1 (by simpa using h)⟩, fun h => absurd h.1 (by simp)⟩, fun h => by simpa using hall.2 h.1.2.2.2⟩, fin _ ?_⟩
      refine tree_ite (ev_nil (way_true (by simp [BTm.den, Tm.i, Tm.s, Tm.den, env, vInt, vBool, vStr, exI]; omega) (tree_ite ?_)))
      refine ev_need (by simp [BTm.den, Tm.i, Tm.s, Tm.den, env, vInt, vBool, vStr, exI]) ?_
      refine ev_need (by simp [BTm.den, Tm.i, Tm.s, Tm.den, env, vInt, vBool, vStr, exI]; omega) ?_
      refine ev_nil (way_false (by simp [BTm.den, Tm.i, Tm.s, Tm.den, env, vInt, vBool, vStr, exI, hb0]; omega) (tree_ite (ev_nil (way_false (by simp [BTm.den, Tm.i, Tm.s, Tm.den, env, vInt, vBool, vStr, exI, e1]) (tree_ite ?_)))))
      refine ev_nil (way_false (by simp [BTm.den, Tm.i, Tm.s, Tm.den, env, vInt, vBool, vStr, exI]; omega) (tree_ite ?_))
      refine ev_need (by simp [BTm.den, Tm.i, Tm.s, Tm.den, env, vInt, vBool, vStr, exI]) ?_
      refine ev_need (by simp [BTm.den, Tm.i, Tm.s, Tm.den, env, vInt, vBool, vStr, exI]; omega) ?_
      refine ev_nil (way_true (by simp [BTm.den, Tm.i, Tm.s, Tm.den, env, vInt, vBool, vStr, exI, hb0, n3]) (tree_ite (ev_nil (way_false (by simp [BTm.den, Tm.i, Tm.s, Tm.den, env, vInt, vBool, vStr, exI]; omega) (tree_ite ?_)))))
      refine ev_loop [.int .i64 (j : Nat), .int .i64 (cond bad 12 0), .bool false, .agg (mgk 32 0), .bool bad] rfl rfl (pd_loop0b s s rfl (by omega) j bad i1 i2 i3 i4 (cond bad 12 0) (fun h => by rw [h]; rfl) (fun h => by rw [h]; rfl)) ?_
      cases bad with
      | true =>
        refine ev_nil (way_true (by simp [BTm.den, Tm.i, Tm.s, Tm.den, env, vInt, vBool, vStr, exI]) (tree_leaf (ev_nil fun β => ?_)))
        simp [BTm.den, Tm.i, Tm.s, Tm.den, env, vInt, vBool, vStr, exI, SW.den, SV.den, Cell.den, densP, Piece.den, denV, denT, rowCells_mgk, iv_list, numV]
      | false =>
        obtain ⟨j2, big, e, V, h1, h2, h3, h4, h5, h6, h7, h8⟩ := loop_end false s
        refine ev_nil (way_false (by simp [BTm.den, Tm.i, Tm.s, Tm.den, env, vInt, vBool, vStr, exI]) (tree_ite ?_))
        refine ev_loop [.int .i64 (j2 : Nat), .int .i64 e, .bool false, .agg (mgk 32 (dval s j2)), .bool false, .agg (mgk 32 0), .bool big] rfl rfl (pd_loop1b s s rfl j (by omega) (hall.1 rfl) j2 big h1 h2 h3 h4 e (fun h => (h5 h).1) (fun h => (h6 h).1)) ?_
        cases big with
        | true =>
          obtain ⟨he, hv⟩ := h7 rfl
          subst he
          refine ev_nil (way_true (by simp [BTm.den, Tm.i, Tm.s, Tm.den, env, vInt, vBool, vStr, exI]) (tree_leaf (ev_nil fun β => ?_)))
          show _ = numV false s true
          rw [hv]
          simp [BTm.den, Tm.i, Tm.s, Tm.den, env, vInt, vBool, vStr, exI, SW.den, SV.den, Cell.den, densP, Piece.den, denV, denT, rowCells_mgk, iv_list]
        | false =>
          obtain ⟨hV, hv⟩ := h8 rfl
          have hVd := (h6 rfl).2
          rw [← hVd]
          have g2 := rcanon false V hV
          obtain ⟨z, hzz⟩ : ∃ z, z = vz false V := ⟨_, rfl⟩
          rw [← hzz] at g2 hv
          refine ev_nil (way_false (by simp [BTm.den, Tm.i, Tm.s, Tm.den, env, vInt, vBool, vStr, exI]) (tree_leaf ?_))
          refine ev_call [.bool (decide (z < 0)), .agg (mgk 32 z.natAbs)] rfl rfl (pure_gives g2) (fun β => by simp [BTm.den, Tm.i, Tm.s, Tm.den, env, vInt, vBool, vStr, exI, SW.den, SV.den, Cell.den, densP, Piece.den, denV, denT, rowCells_mgk, mgl_agg, hb0, h45]) (fun β => by simp [BTm.den, Tm.i, Tm.s, Tm.den, env, vInt, vBool, vStr, exI, SW.den, SV.den, Cell.den, densP, Piece.den, denV, denT, rowCells_mgk, iv_list, ivZ]) ?_
          refine ev_nil fun β => ?_
          show _ = numV false s true
          rw [hv]
          simp [BTm.den, Tm.i, Tm.s, Tm.den, env, vInt, vBool, vStr, exI, SW.den, SV.den, Cell.den, densP, Piece.den, denV, denT, rowCells_mgk, iv_list, ivZ]
    obtain ⟨j, bad, i1, i2, i3, i4⟩ := isnum_end s
    have hall : bad = false ↔ ∀ i, i < s.size → digB s i := by
      constructor
      · intro h i hi; exact i2 i (by have := i4 h; omega)
      · intro h
        cases hb : bad with
        | true => exact absurd (h j (i3 hb).1) (i3 hb).2
        | false => rfl
    refine ⟨!bad, ⟨fun h => ⟨⟨e1, by omega, fun _ => n3, hall.1 (by simpa using h)⟩, fun h => absurd h.1 (by simp)⟩, fun h => by simpa using hall.2 h.1.2.2.2⟩, fin _ ?_⟩
    refine tree_ite (ev_nil (way_true (by simp [BTm.den, Tm.i, Tm.s, Tm.den, env, vInt, vBool, vStr, exI]; omega) (tree_ite ?_)))
    refine ev_need (by simp [BTm.den, Tm.i, Tm.s, Tm.den, env, vInt, vBool, vStr, exI]) ?_
    refine ev_need (by simp [BTm.den, Tm.i, Tm.s, Tm.den, env, vInt, vBool, vStr, exI]; omega) ?_
    refine ev_nil (way_false (by simp [BTm.den, Tm.i, Tm.s, Tm.den, env, vInt, vBool, vStr, exI, hb0]; omega) (tree_ite (ev_nil (way_false (by simp [BTm.den, Tm.i, Tm.s, Tm.den, env, vInt, vBool, vStr, exI, e1]) (tree_ite ?_)))))
    refine ev_nil (way_false (by simp [BTm.den, Tm.i, Tm.s, Tm.den, env, vInt, vBool, vStr, exI]; omega) (tree_ite ?_))
    refine ev_need (by simp [BTm.den, Tm.i, Tm.s, Tm.den, env, vInt, vBool, vStr, exI]) ?_
    refine ev_need (by simp [BTm.den, Tm.i, Tm.s, Tm.den, env, vInt, vBool, vStr, exI]; omega) ?_
    refine ev_nil (way_false (by simp [BTm.den, Tm.i, Tm.s, Tm.den, env, vInt, vBool, vStr, exI, hb0]; omega) (tree_ite ?_))
    refine ev_loop [.int .i64 (j : Nat), .int .i64 (cond bad 12 0), .bool false, .agg (mgk 32 0), .bool bad] rfl rfl (pd_loop0c s s rfl (by omega) j bad i1 i2 i3 i4 (cond bad 12 0) (fun h => by rw [h]; rfl) (fun h => by rw [h]; rfl)) ?_
    cases bad with
    | true =>
      refine ev_nil (way_true (by simp [BTm.den, Tm.i, Tm.s, Tm.den, env, vInt, vBool, vStr, exI]) (tree_leaf (ev_nil fun β => ?_)))
      simp [BTm.den, Tm.i, Tm.s, Tm.den, env, vInt, vBool, vStr, exI, SW.den, SV.den, Cell.den, densP, Piece.den, denV, denT, rowCells_mgk, iv_list, numV]
    | false =>
      obtain ⟨j2, big, e, V, h1, h2, h3, h4, h5, h6, h7, h8⟩ := loop_end false s
      refine ev_nil (way_false (by simp [BTm.den, Tm.i, Tm.s, Tm.den, env, vInt, vBool, vStr, exI]) (tree_ite ?_))
      refine ev_loop [.int .i64 (j2 : Nat), .int .i64 e, .bool false, .agg (mgk 32 (dval s j2)), .bool false, .agg (mgk 32 0), .bool big] rfl rfl (pd_loop1c s s rfl j (by omega) (hall.1 rfl) j2 big h1 h2 h3 h4 e (fun h => (h5 h).1) (fun h => (h6 h).1)) ?_
      cases big with
      | true =>
        obtain ⟨he, hv⟩ := h7 rfl
        subst he
        refine ev_nil (way_true (by simp [BTm.den, Tm.i, Tm.s, Tm.den, env, vInt, vBool, vStr, exI]) (tree_leaf (ev_nil fun β => ?_)))
        show _ = numV false s true
        rw [hv]
        simp [BTm.den, Tm.i, Tm.s, Tm.den, env, vInt, vBool, vStr, exI, SW.den, SV.den, Cell.den, densP, Piece.den, denV, denT, rowCells_mgk, iv_list]
      | false =>
        obtain ⟨hV, hv⟩ := h8 rfl
        have hVd := (h6 rfl).2
        rw [← hVd]
        have g2 := rcanon false V hV
        obtain ⟨z, hzz⟩ : ∃ z, z = vz false V := ⟨_, rfl⟩
        rw [← hzz] at g2 hv
        refine ev_nil (way_false (by simp [BTm.den, Tm.i, Tm.s, Tm.den, env, vInt, vBool, vStr, exI]) (tree_leaf ?_))
        refine ev_call [.bool (decide (z < 0)), .agg (mgk 32 z.natAbs)] rfl rfl (pure_gives g2) (fun β => by simp [BTm.den, Tm.i, Tm.s, Tm.den, env, vInt, vBool, vStr, exI, SW.den, SV.den, Cell.den, densP, Piece.den, denV, denT, rowCells_mgk, mgl_agg, hb0, h45]) (fun β => by simp [BTm.den, Tm.i, Tm.s, Tm.den, env, vInt, vBool, vStr, exI, SW.den, SV.den, Cell.den, densP, Piece.den, denV, denT, rowCells_mgk, iv_list, ivZ]) ?_
        refine ev_nil fun β => ?_
        show _ = numV false s true
        rw [hv]
        simp [BTm.den, Tm.i, Tm.s, Tm.den, env, vInt, vBool, vStr, exI, SW.den, SV.den, Cell.den, densP, Piece.den, denV, denT, rowCells_mgk, iv_list, ivZ]
end Go.Proofs.Ytlccefdjhiedcaa
end
section
namespace Go.Proofs.Ytlccefdjhiedcaa
open Go.RowKit
set_option linter.unusedVariables false

def Given (P : Program) (f : FuncId) (args : Array Value) (b : Nat) (r : List (Nat × Obj)) (Lv : Value) (k k' : Nat) (v : Value) : Prop :=
  ∀ w, w.heap[b]? = some (.cells (Tk Lv k) 36) → (∀ x ∈ r, w.heap[x.1]? = some x.2 ∧ x.1 ≠ b) → Calls P f args w fun e w' => e = .returned v ∧ ∃ l, St (some b) w w' r l ∧ (b, Obj.cells (Tk Lv k') 36) ∈ l

theorem Given.use {c : Option Nat} {w0 w : World} {r l l' : List (Nat × Obj)} {P : Program} {f : FuncId} {args : Array Value} {b : Nat} {Lv : Value} {k k' : Nat} {v : Value} (hg : Given P f args b r Lv k k' v) (h : St c w0 w r l)
    (hu : Upd l b (.cells (Tk Lv k) 36) (.cells (Tk Lv k') 36) l') : Calls P f args w fun e w' => e = .returned v ∧ St c w0 w' r l' := by
  have hb := h.own _ hu.mem
  refine (hg w hb.2 fun x hx => ⟨(h.ro x hx).2.2, fun e => ?_⟩).mono fun e w' ⟨he, l2, h3, h4⟩ => ⟨he, h.but hu h3 h4⟩
  have h1 := (h.ro x hx).1
  have h2 := (h.ro x hx).2.1
  rw [e] at h1 h2
  rcases hb.1 with hb | hb
  · simp only at hb; omega
  · exact h2 hb
theorem Given.of {P : Program} {f : FuncId} {args : Array Value} {b : Nat} {r : List (Nat × Obj)} {Lv : Value} {k k' : Nat} {v : Value}
    (h : ∀ w, St (some b) w w r [(b, .cells (Tk Lv k) 36)] → Calls P f args w fun e w' => e = .returned v ∧ ∃ l, St (some b) w w' r l ∧ (b, Obj.cells (Tk Lv k') 36) ∈ l) : Given P f args b r Lv k k' v :=
  fun w hb hr => h w (St.start_may w b _ hb r hr)

end Go.Proofs.Ytlccefdjhiedcaa
end
section
namespace Go.Proofs.Ytlccefdjhiedcaa
open Go.RowKit
set_option linter.unusedVariables false

def Tape (r : List (Nat × Obj)) (Lv : Value) (tv : Nat → Int) : Prop :=
  ∀ (k : Nat) (b : Nat) (n : Int), 1 ≤ n ∧ n ≤ 4611686018427387904 → k + 1 ≤ 1152921504606846976 → Given Try.prog 15 #[.pointer (some ⟨b, 0, none⟩), .int .i64 n] b r Lv k (k + 1) (.int .i64 (foldv (tv k) n))
theorem Given.more {P : Program} {f : FuncId} {args : Array Value} {b : Nat} {r r' : List (Nat × Obj)} {Lv : Value} {k k' : Nat} {v : Value} (h : Given P f args b r Lv k k' v) (hr : ∀ x ∈ r, x ∈ r') : Given P f args b r' Lv k k' v := fun w hb hr' => by
  refine (h w hb fun x hx => hr' x (hr x hx)).mono fun e w' ⟨he, l, hS, hm⟩ => ⟨he, l, ?_, hm⟩
  refine ⟨hS.os, hS.tape, hS.output, hS.size, hS.block, fun x hx => ?_, hS.own, hS.apart⟩
  obtain ⟨h1, h2⟩ := hr' x hx
  have hlt := (Array.getElem?_eq_some_iff.1 h1).1
  have hne : some b ≠ some x.1 := fun e => h2 (Option.some.inj e).symm
  exact ⟨hlt, hne, by rw [hS.block _ hlt hne]; exact h1⟩
set_option maxHeartbeats 1000000 in
theorem Tape.pick {r : List (Nat × Obj)} {Lv : Value} {tv : Nat → Int} (ht : Tape r Lv tv) (b g cap : Nat) (T : TypeId) (zs : List Int) (n : Nat) (hz : zs.length = n) (h0 : 1 ≤ n ∧ n ≤ 1000000) (k : Nat) (hk : k + 1 ≤ 1152921504606846976) :
    Given Try.prog 14 #[.pointer (some ⟨b, 0, none⟩), .slice (some ⟨g, 0, none⟩) n cap] b ((g, .cells (ints zs) T) :: r) Lv k (k + 1) (.int .i64 (zs.getD (foldv (tv k) ((n : Nat) : Int)).toNat 0)) := by
  have hn : 1 ≤ ((n : Nat) : Int) ∧ ((n : Nat) : Int) ≤ 4611686018427387904 := by omega
  have hn0 : (((n : Nat) : Int) == 0) = false := by simp; omega
  have hg := (ht k b _ hn hk).more (r' := (g, .cells (ints zs) T) :: r) fun x hx => .tail _ hx
  have hx := foldv_range (v := tv k) hn.1
  obtain ⟨x, hxe⟩ : ∃ x, x = foldv (tv k) ((n : Nat) : Int) := ⟨_, rfl⟩
  rw [← hxe] at hg hx ⊢
  clear hxe
  refine Given.of fun w hS => ?_
  have hm : (g, Obj.cells (ints zs) T) ∈ ((g, Obj.cells (ints zs) T) :: r) := .head _
  go_enter Try.func14, Try.ntmps14
  go_wp2_with (first | (go_at_call 15; (with_reducible refine (hg.use hS .head).mono ?_); clear hS; intro _ _ ⟨he, hS⟩; subst he) | (refine L_load (t := 3) rfl rfl ?_; refine ⟨_, run_load_cell hS _ _ rfl _ _ rfl _ _ (.inr hm) _ Try.underlying3 rfl _ (ints_at_int hz hx), ?_⟩))
  go_ret
  have hlt : x.toNat < zs.length := by omega
  refine ⟨?_, _, hS, .head _⟩
  rw [List.getD_eq_getElem?_getD, List.getElem?_eq_getElem hlt]
  rfl
end Go.Proofs.Ytlccefdjhiedcaa
end
section
namespace Go.Proofs.Ytlccefdjhiedcaa.Sx
open Go.RowKit

theorem flat_sound [Outer] {α : Type} {P : Program} {run : Asm → R α} {Q : List Value → α → Prop} {asm : Asm} {out : α} {evs : List Ev} {ρ : List Value} (hrun : run asm = .ok out evs) (hn : (nexts evs ρ.length).isSome = true)
    (h : evDen P (fun ρ' => (∀ x ∈ asm, x.1.den (env ρ') = x.2) ∧ Q ρ' out) evs ρ) : ∃ vs asm' ret evs, run asm' = .ok ret evs ∧ Asm.den (env (ρ ++ vs)) asm' ∧ Holds P (env (ρ ++ vs)) evs ∧ Q (ρ ++ vs) ret := by
  obtain ⟨m, hm⟩ := Option.isSome_iff_exists.1 hn
  obtain ⟨vs, _, ⟨ha, hq⟩, hh⟩ := evDen_sound hm h
  exact ⟨vs, asm, out, evs, hrun, ha, hh, hq⟩
theorem calls_flat [Outer] {P : Program} (hP : Plain P) {cfg : Cfg} {f : FuncId} {args : List SW} {mem : Mem} {nx : Nat} {asm : Asm} {out : Out} {evs : List Ev} (ρ : List Value) (hT : runOf P cfg f args mem nx ρ.length asm = .ok out evs) (hn : (nexts evs ρ.length).isSome = true) (hu : argsUnder args mem ρ.length = true) (β : Nat → Nat) (inh : List Nat) (w : World)
    (hM : Mrel (env ρ) β inh w (fun i => find i mem) w) (Q : List Value → Out → Prop) (h : evDen P (fun ρ' => (∀ x ∈ asm, x.1.den (env ρ') = x.2) ∧ Q ρ' out) evs ρ) :
    Calls P f (denT (env ρ) β args) w fun e w' => ∃ vs ret β', Q (ρ ++ vs) ret ∧ (∀ i, i < nx → β' i = β i) ∧ e = .returned (ret.val.den (env (ρ ++ vs)) β') ∧ Mrel (env (ρ ++ vs)) β' inh w (fun i => find i ret.mem) w' := by
  obtain ⟨vs, asm', ret, evs, hrun, hasm, hev, hv⟩ := flat_sound hT hn h
  obtain ⟨r, e1, e2, h1, h2, rfl⟩ := R.bind_ok hrun
  cases h2
  simp only [argsUnder, Bool.and_eq_true] at hu
  have hM' : Mrel (env (ρ ++ vs)) β inh w (fun i => find i mem) w := hM.under fun i m hi => MB.fits_under (env_append ρ vs) (find_under hu.2 hi)
  obtain ⟨fn, _, _, hc⟩ := execF_ok hP.names hasm hP.order _ f args mem nx ρ.length r e1 h1 (fun e he => hev e (by simp [he])) β inh w w hM'
  have ha : denT (env (ρ ++ vs)) β args = denT (env ρ) β args := by
    simp only [denT]
    congr 1
    refine List.map_congr_left fun x hx => SW.den_under (env_append ρ vs) (List.all_eq_true.1 hu.1 x hx)
  rw [ha] at hc
  refine hc.mono fun e w' ⟨β', hβ, he, hm⟩ => ⟨vs, trim nx r, β', hv, hβ, he, ?_⟩
  simp only [trim]
  split
  · exact hm.less fun i m hi => by
      rcases Nat.lt_or_ge i nx with hlt | hge
      · rw [← hi, find_keepM hlt]
      · rw [find_keepM_ge hge] at hi; cases hi
  · exact hm
theorem reads_flat [Outer] {P : Program} (hP : Plain P) {cfg : Cfg} {f : FuncId} {args : List SW} {asm : Asm} {out : Out} {evs : List Ev} (ρ : List Value) (hT : runOf P cfg f args [] 0 ρ.length asm = .ok out evs) (hn : (nexts evs ρ.length).isSome = true) (hu : argsUnder args [] ρ.length = true) (v : Value)
    (h : evDen P (fun ρ' => (∀ x ∈ asm, x.1.den (env ρ') = x.2) ∧ ∀ β, out.val.den (env ρ') β = v) evs ρ) (w : World) (hr : ∀ x ∈ Outer.r, w.heap[x.1]? = some x.2) : Calls P f (denT (env ρ) (fun _ => 0) args) w fun e w' => e = .returned v ∧ Below w.heap.size w w' := by
  have hM : Mrel (env ρ) (fun _ => 0) [] w (fun i => find i []) w := ⟨rfl, rfl, rfl, Nat.le_refl _, fun _ _ _ => rfl, fun i m hm => (by cases hm), fun i m hm => (by cases hm), fun i j m m' hm => (by cases hm), fun x hx => ⟨hr x hx, by simp⟩⟩
  refine (calls_flat hP ρ hT hn hu (fun _ => 0) [] w hM (fun ρ' out => ∀ β, out.val.den (env ρ') β = v) h).mono fun e w' ⟨vs, ret, β', hv, _, he, hm⟩ => ⟨by rw [he]; exact congrArg Ending.returned (hv β'), hm.os, hm.tape, hm.output, hm.size, fun k hk => hm.old k hk (by simp)⟩

theorem pure_flat {P : Program} (hP : Plain P) {cfg : Cfg} {f : FuncId} {args : List SW} {asm : Asm} {out : Out} {evs : List Ev} (ρ : List Value) (hT : runOf P cfg f args [] 0 ρ.length asm = .ok out evs) (hn : (nexts evs ρ.length).isSome = true) (hu : argsUnder args [] ρ.length = true) (v : Value)
    (h : evDen P (fun ρ' => (∀ x ∈ asm, x.1.den (env ρ') = x.2) ∧ ∀ β, out.val.den (env ρ') β = v) evs ρ) : Pure P f (denT (env ρ) (fun _ => 0) args) v :=
  fun w => reads_flat hP ρ hT hn hu v h w fun x hx => by cases hx
end Go.Proofs.Ytlccefdjhiedcaa.Sx
namespace Go.Proofs.Ytlccefdjhiedcaa
open Go.RowKit Go.Proofs.Ytlccefdjhiedcaa.Sx

end Go.Proofs.Ytlccefdjhiedcaa
end
section
namespace Go.Proofs.Ytlccefdjhiedcaa
open Go.RowKit Go.Proofs.Ytlccefdjhiedcaa.Sx
set_option linter.unusedSimpArgs false
set_option linter.unusedVariables false

theorem dg_dig : ∀ (k n : Nat), n < 10 ^ k → ∀ b ∈ dg n, 48 ≤ b.toNat ∧ b.toNat ≤ 57
  | 0, n, h, b, hb => by
    have : n = 0 := by simpa using h
    subst this; rw [dg_zero] at hb; cases hb
  | k + 1, n, h, b, hb => by
    by_cases h0 : n = 0
    · subst h0; rw [dg_zero] at hb; cases hb
    · rw [dg_pos h0] at hb
      rcases List.mem_append.1 hb with hb | hb
      · exact dg_dig k (n / 10) (by rw [Nat.pow_succ] at h; omega) b hb
      · rw [List.mem_singleton.1 hb]
        have := byte_of (x := 48 + n % 10) (by omega)
        omega
theorem dg_head : ∀ (k n : Nat), n < 10 ^ k → n ≠ 0 → ∃ c l, dg n = c :: l ∧ c.toNat ≠ 48
  | 0, n, h, h0 => absurd (by simpa using h) h0
  | k + 1, n, h, h0 => by
    rw [dg_pos h0]
    by_cases h1 : n / 10 = 0
    · rw [h1, dg_zero]
      refine ⟨_, _, rfl, ?_⟩
      have := byte_of (x := 48 + n % 10) (by omega)
      omega
    · obtain ⟨c, l, e, hc⟩ := dg_head k (n / 10) (by rw [Nat.pow_succ] at h; omega) h1
      rw [e]
      exact ⟨c, _, rfl, hc⟩
theorem dval_congr {s t : ByteArray} : ∀ {i : Nat}, (∀ k, k < i → byteN s k = byteN t k) → dval s i = dval t i
  | 0, _ => rfl
  | i + 1, h => by
    have e : dval s i = dval t i := dval_congr fun k hk => h k (by omega)
    have e2 := h i (by omega)
    simp only [dval, e, e2]
theorem dval_snoc (l : List UInt8) (c : UInt8) : dval (bt (l ++ [c])) (l.length + 1) = 10 * dval (bt l) l.length + (c.toNat - 48) := by
  have e : dval (bt (l ++ [c])) l.length = dval (bt l) l.length := dval_congr fun k hk => by
    rw [byteN_bt, byteN_bt, List.getD_eq_getElem?_getD, List.getD_eq_getElem?_getD, List.getElem?_append_left hk]
  have e2 : byteN (bt (l ++ [c])) l.length = c.toNat := by
    rw [byteN_bt, List.getD_eq_getElem?_getD, List.getElem?_append_right (Nat.le_refl _)]; simp
  simp only [dval, e, e2]
theorem dval_dg : ∀ (k n : Nat), n < 10 ^ k → dval (bt (dg n)) (dg n).length = n
  | 0, n, h => by
    have : n = 0 := by simpa using h
    subst this; rw [dg_zero]; rfl
  | k + 1, n, h => by
    by_cases h0 : n = 0
    · subst h0; rw [dg_zero]; rfl
    · have ih := dval_dg k (n / 10) (by rw [Nat.pow_succ] at h; omega)
      have hb := byte_of (x := 48 + n % 10) (by omega)
      rw [dg_pos h0, List.length_append, List.length_singleton, dval_snoc, ih]
      omega
theorem digB_bt {l : List UInt8} (h : ∀ b ∈ l, 48 ≤ b.toNat ∧ b.toNat ≤ 57) : ∀ i, i < (bt l).size → digB (bt l) i := fun i hi => by
  rw [bt_size] at hi
  unfold digB
  rw [byteN_bt, List.getD_eq_getElem?_getD, List.getElem?_eq_getElem hi]
  exact h _ (List.getElem_mem hi)
theorem vzz (z : Int) : vz (decide (z < 0)) z.natAbs = z := by
  unfold vz
  by_cases h : z < 0
  · rw [decide_eq_true h]; simp; omega
  · rw [decide_eq_false h]; simp; omega
theorem parse_fmt (s : Bool) (n : Nat) (hn : n < pw 32) : Gives Try.prog 6 #[.string (bt (fmtL s n))] (.tuple #[.agg (ivZ (vz s n)), .int .i64 0]) := by
  have h309 : n < 10 ^ 309 := Nat.lt_trans hn pw_309
  obtain ⟨ok, hok, g⟩ := parse_p (bt (fmtL s n))
  obtain ⟨t, ht⟩ : ∃ t, t = bt (fmtL s n) := ⟨_, rfl⟩
  rw [← ht] at hok g ⊢
  by_cases h0 : n = 0
  · subst h0
    have e : t = bt [48] := ht
    have hnb : negB t = false := by
      rw [e]
      cases h : negB (bt [48]) with
      | false => rfl
      | true => exact absurd ((neg_byte (by rw [bt_size]; exact Nat.le_refl _)).1 h) (by decide)
    rw [digs_pos hnb, hnb, e] at hok g
    rw [e]
    have h1 : ok = true := hok.2 ⟨⟨by rw [bt_size]; simp, by rw [bt_size]; simp, fun h => by rw [bt_size] at h; simp at h, digB_bt (by simp)⟩, fun h => by cases h.1⟩
    rw [h1] at g
    have hv : numV false (bt [48]) true = .tuple #[.agg (ivZ (vz s 0)), .int .i64 0] := by
      unfold numV
      have : dval (bt [48]) (bt [48]).size = 0 := rfl
      rw [this, if_pos hn]
      cases s <;> rfl
    rw [hv] at g
    exact g
  · obtain ⟨c, l, hcl, hc48⟩ := dg_head 309 n h309 h0
    have hdig := dg_dig 309 n h309
    have hlen := dg_309 hn
    have hval := dval_dg 309 n h309
    have hc := hdig c (by rw [hcl]; exact .head _)
    have hnum : NumOk (bt (dg n)) := ⟨by rw [bt_size, hcl]; simp, by rw [bt_size]; exact hlen, fun _ => by rw [byteN_bt, hcl]; exact hc48, digB_bt hdig⟩
    have hv : ∀ s, numV s (bt (dg n)) true = .tuple #[.agg (ivZ (vz s n)), .int .i64 0] := fun s => by
      unfold numV
      rw [bt_size, hval, if_pos hn]; rfl
    cases s with
    | false =>
      have e : t = bt (dg n) := by rw [ht]; unfold fmtL; rw [if_neg h0]; rfl
      have hnb : negB t = false := by
        cases h : negB t with
        | false => rfl
        | true =>
          have := (neg_byte (by rw [e, bt_size, hcl]; simp)).1 h
          rw [e, byteN_bt, hcl] at this
          simp only [List.getD_cons_zero] at this
          omega
      rw [digs_pos hnb, hnb, e] at hok g
      rw [e]
      have h1 : ok = true := hok.2 ⟨hnum, fun h => by cases h.1⟩
      rw [h1, hv] at g
      exact g
    | true =>
      have e : t = bt (45 :: dg n) := by rw [ht]; unfold fmtL; rw [if_neg h0]; rfl
      have hnb : negB t = true := (neg_byte (by rw [e, bt_size]; simp)).2 (by rw [e]; rfl)
      have hD : digs t = bt (dg n) := by
        rw [digs_neg hnb, e, bt_sub, bt_size]
        simp
      rw [hD, hnb] at hok g
      have hz : ¬ zeroB (bt (dg n)) = true := fun h => by
        have := ((zero_byte _).1 h).2
        rw [byteN_bt, hcl] at this
        exact hc48 this
      have h1 : ok = true := hok.2 ⟨hnum, fun h => hz h.2⟩
      rw [h1, hv] at g
      exact g
theorem numV_form (b : Bool) (D : ByteArray) (ok : Bool) : ∃ (z e : Int), z.natAbs < pw 32 ∧ numV b D ok = .tuple #[.agg (ivZ z), .int .i64 e] := by
  cases ok with
  | false =>
    have e : numV b D false = .tuple #[.agg (iv false 0), .int .i64 12] := rfl
    exact ⟨0, 12, pw_pos 32, by rw [e, ivZ_zero]⟩
  | true =>
    by_cases h : dval D D.size < pw 32
    · exact ⟨vz b (dval D D.size), 0, by rw [vz_abs]; exact h, by unfold numV; rw [if_pos h]; rfl⟩
    · have e : numV b D true = .tuple #[.agg (iv false 0), .int .i64 10] := by unfold numV; rw [if_neg h]; rfl
      exact ⟨0, 10, pw_pos 32, by rw [e, ivZ_zero]⟩
set_option maxHeartbeats 2000000 in
theorem texts_any (s : Bool) (n : Nat) (hn : n < pw 32) (S : ByteArray) (hS : S.size ≤ 9223372036854775807) : Gives Try.prog 3 #[.agg (iv s n), .string S] (.bool true) := by
  obtain ⟨ok, k1, g1⟩ := parse_p S
  obtain ⟨ok2, k2, g2⟩ := parse_d S hS
  have eo : ok2 = ok := Bool.eq_iff_iff.2 (k2.trans k1.symm)
  rw [eo] at g2
  obtain ⟨z, e, hz, ez⟩ := numV_form (negB S) (digs S) ok
  rw [ez] at g1 g2
  have g3 := fmt_p s n hn
  have g4 := parse_fmt s n hn
  have g5 := fmt_d s n hn
  have g6 := rneg_any s n hn
  have hx : (vz s n).natAbs < pw 32 := by rw [vz_abs]; exact hn
  obtain ⟨y, hy⟩ : ∃ y, y = -vz s n := ⟨_, rfl⟩
  have hya : y.natAbs < pw 32 := by rw [hy, Int.natAbs_neg]; exact hx
  have g7 := rneg_any (decide (y < 0)) y.natAbs hya
  rw [vzz, show -y = vz s n by rw [hy, Int.neg_neg]] at g7
  rw [← hy] at g6
  obtain ⟨x, hxx⟩ : ∃ x, x = vz s n := ⟨_, rfl⟩
  rw [← hxx] at g4 g7 hx
  have main : evDen Try.prog (fun ρ' => (∀ x ∈ tmTexts_asm, x.1.den (env ρ') = x.2) ∧ ∀ β, tmTexts_out.val.den (env ρ') β = .bool true) tmTexts_evs [.bool s, .agg (mgk 32 n), .string S] := by
    unfold tmTexts_evs
    refine ev_call [.bool (decide (z < 0)), .agg (mgk 32 z.natAbs), .int .i64 e] rfl rfl (pure_gives g1) (fun β => by simp [BTm.den, Tm.i, Tm.s, Tm.den, env, vInt, vBool, vStr, exI, SW.den, SV.den, Cell.den, densP, Piece.den, denV, denT]) (fun β => by simp [BTm.den, Tm.i, Tm.s, Tm.den, env, vInt, vBool, vStr, exI, SW.den, SV.den, Cell.den, densP, Piece.den, denV, denT, rowCells_mgk, iv_list, ivZ]) ?_
    refine ev_call [.bool (decide (z < 0)), .agg (mgk 32 z.natAbs), .int .i64 e] rfl rfl (pure_gives g2) (fun β => by simp [BTm.den, Tm.i, Tm.s, Tm.den, env, vInt, vBool, vStr, exI, SW.den, SV.den, Cell.den, densP, Piece.den, denV, denT]) (fun β => by simp [BTm.den, Tm.i, Tm.s, Tm.den, env, vInt, vBool, vStr, exI, SW.den, SV.den, Cell.den, densP, Piece.den, denV, denT, rowCells_mgk, iv_list, ivZ]) ?_
    refine ev_call [.string (bt (fmtL s n))] rfl rfl (pure_gives g3) (fun β => by simp [BTm.den, Tm.i, Tm.s, Tm.den, env, vInt, vBool, vStr, exI, SW.den, SV.den, Cell.den, densP, Piece.den, denV, denT, rowCells_mgk, iv_list]) (fun β => by simp [BTm.den, Tm.i, Tm.s, Tm.den, env, vInt, vBool, vStr, exI, SW.den, SV.den, Cell.den, densP, Piece.den, denV, denT]) ?_
    refine ev_call [.bool (decide (x < 0)), .agg (mgk 32 x.natAbs), .int .i64 0] rfl rfl (pure_gives g4) (fun β => by simp [BTm.den, Tm.i, Tm.s, Tm.den, env, vInt, vBool, vStr, exI, SW.den, SV.den, Cell.den, densP, Piece.den, denV, denT]) (fun β => by simp [BTm.den, Tm.i, Tm.s, Tm.den, env, vInt, vBool, vStr, exI, SW.den, SV.den, Cell.den, densP, Piece.den, denV, denT, rowCells_mgk, iv_list, ivZ]) ?_
    refine ev_call [.bool true] rfl rfl (pure_gives known_true) (fun β => by simp [BTm.den, Tm.i, Tm.s, Tm.den, env, vInt, vBool, vStr, exI, SW.den, SV.den, Cell.den, densP, Piece.den, denV, denT]) (fun β => by simp [BTm.den, Tm.i, Tm.s, Tm.den, env, vInt, vBool, vStr, exI, SW.den, SV.den, Cell.den, densP, Piece.den, denV, denT]) ?_
    refine ev_same true rfl (fun β => by simp [BTm.den, Tm.i, Tm.s, Tm.den, env, vInt, vBool, vStr, exI, SW.den, SV.den, Cell.den, densP, Piece.den, denV, denT, rowCells_mgk, iv_list, ivZ]) (fun β => by simp [BTm.den, Tm.i, Tm.s, Tm.den, env, vInt, vBool, vStr, exI, SW.den, SV.den, Cell.den, densP, Piece.den, denV, denT, rowCells_mgk, iv_list, ivZ]) (same_Z z hz) ?_
    refine ev_call [.string (bt (fmtL s n))] rfl rfl (pure_gives g5) (fun β => by simp [BTm.den, Tm.i, Tm.s, Tm.den, env, vInt, vBool, vStr, exI, SW.den, SV.den, Cell.den, densP, Piece.den, denV, denT, rowCells_mgk, iv_list]) (fun β => by simp [BTm.den, Tm.i, Tm.s, Tm.den, env, vInt, vBool, vStr, exI, SW.den, SV.den, Cell.den, densP, Piece.den, denV, denT]) ?_
    refine ev_call [.bool (decide (y < 0)), .agg (mgk 32 y.natAbs)] rfl rfl (pure_gives g6) (fun β => by simp [BTm.den, Tm.i, Tm.s, Tm.den, env, vInt, vBool, vStr, exI, SW.den, SV.den, Cell.den, densP, Piece.den, denV, denT, rowCells_mgk, iv_list]) (fun β => by simp [BTm.den, Tm.i, Tm.s, Tm.den, env, vInt, vBool, vStr, exI, SW.den, SV.den, Cell.den, densP, Piece.den, denV, denT, rowCells_mgk, iv_list, ivZ]) ?_
    refine ev_call [.bool (decide (x < 0)), .agg (mgk 32 x.natAbs)] rfl rfl (pure_gives g7) (fun β => by simp [BTm.den, Tm.i, Tm.s, Tm.den, env, vInt, vBool, vStr, exI, SW.den, SV.den, Cell.den, densP, Piece.den, denV, denT, rowCells_mgk, iv_list]) (fun β => by simp [BTm.den, Tm.i, Tm.s, Tm.den, env, vInt, vBool, vStr, exI, SW.den, SV.den, Cell.den, densP, Piece.den, denV, denT, rowCells_mgk, iv_list, ivZ]) ?_
    refine ev_same true rfl (fun β => by simp [BTm.den, Tm.i, Tm.s, Tm.den, env, vInt, vBool, vStr, exI, SW.den, SV.den, Cell.den, densP, Piece.den, denV, denT, rowCells_mgk, iv_list, ivZ]) (fun β => by simp [BTm.den, Tm.i, Tm.s, Tm.den, env, vInt, vBool, vStr, exI, SW.den, SV.den, Cell.den, densP, Piece.den, denV, denT, rowCells_mgk, iv_list, ivZ]) (same_Z x hx) ?_
    refine ev_nil ⟨by simp [tmTexts_asm, BTm.den, Tm.i, Tm.s, Tm.den, env, vInt, vBool, vStr, exI], fun β => ?_⟩
    simp [tmTexts_out, BTm.den, Tm.i, Tm.s, Tm.den, env, vInt, vBool, vStr, exI, SW.den, SV.den, Cell.den, densP, Piece.den, denV, denT]
  have h := pure_flat plain [.bool s, .agg (mgk 32 n), .string S] tmTexts_ok tmTexts_nx (by kernel_rfl) _ main
  refine gives_pure ?_
  simpa [BTm.den, Tm.i, Tm.s, Tm.den, env, vInt, vBool, vStr, exI, SW.den, SV.den, Cell.den, densP, Piece.den, denV, denT, rowCells_mgk, iv_list] using h
end Go.Proofs.Ytlccefdjhiedcaa
end
