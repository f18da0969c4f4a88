/- The walk of BigintInts. -/
import Derived.Test.YthgfgihgpdamnaaWh
namespace Go.Proofs.Ythgfgihgpdamnaa
open Go.RowKit

theorem add_ZZ (x y : Int) (hx : x.natAbs < pw 32) (hy : y.natAbs < pw 32) (h : (x + y).natAbs < pw 32) : Gives Try.prog 12 #[.agg (ivZ x), .agg (ivZ y)] (.tuple #[.agg (ivZ (x + y)), .int .i64 0]) := by
  have := add_yes (decide (x < 0)) (decide (y < 0)) x.natAbs y.natAbs hx hy (by rw [vz_self, vz_self]; exact h)
  rwa [vz_self, vz_self] at this
theorem mul_ZZ (x y : Int) (hx : x.natAbs < pw 32) (hy : y.natAbs < pw 32) (h : (x * y).natAbs < pw 32) : Gives Try.prog 16 #[.agg (ivZ x), .agg (ivZ y)] (.tuple #[.agg (ivZ (x * y)), .int .i64 0]) := by
  have := mul_any (decide (x < 0)) (decide (y < 0)) x.natAbs y.natAbs hx hy
  rw [vz_self, vz_self, resZ_fits h] at this
  exact this
theorem cmp_ZZ (x y : Int) (hx : x.natAbs < pw 32) (hy : y.natAbs < pw 32) : Gives Try.prog 22 #[.agg (ivZ x), .agg (ivZ y)] (.int .i64 (cmpZ x y)) := by
  have := cmp_any (decide (x < 0)) (decide (y < 0)) x.natAbs y.natAbs hx hy
  rwa [vz_self, vz_self] at this
theorem mid_abs (z : Int) (h : z.natAbs < 18446744073709551616) : z.natAbs < pw 32 := Nat.lt_of_lt_of_le (by rw [pw_two]; exact h) pw2_le
theorem toInt_mid (x : Int) (hx : -9223372036854775808 ≤ x ∧ x ≤ 9223372036854775807) : Gives Try.prog 24 #[.agg (ivZ x)] (.tuple #[.int .i64 x, .bool true]) := by
  have := toInt_any (decide (x < 0)) x.natAbs (mid_abs x (by omega))
  unfold toI at this
  rwa [vz_self, if_pos hx] at this
theorem tdiv2_range (n : Int) (h : -9223372036854775808 ≤ n ∧ n ≤ 9223372036854775807) : -4611686018427387904 ≤ n.tdiv 2 ∧ n.tdiv 2 ≤ 4611686018427387903 := by
  rcases Int.le_total 0 n with h0 | h0
  · rw [Int.tdiv_eq_ediv_of_nonneg h0]; omega
  · have e : n.tdiv 2 = -((-n).tdiv 2) := by rw [Int.neg_tdiv, Int.neg_neg]
    rw [e, Int.tdiv_eq_ediv_of_nonneg (by omega)]; omega
theorem tmod_range (a : Int) : -1073741823 ≤ a.tmod 1073741824 ∧ a.tmod 1073741824 ≤ 1073741823 := by
  rcases Int.le_total 0 a with h0 | h0
  · rw [Int.tmod_eq_emod_of_nonneg h0]; omega
  · have e : a.tmod 1073741824 = -((-a).tmod 1073741824) := by rw [Int.neg_tmod, Int.neg_neg]
    rw [e, Int.tmod_eq_emod_of_nonneg (by omega)]; omega
theorem prod_range (x y : Int) (hx : -1073741823 ≤ x ∧ x ≤ 1073741823) (hy : -1073741823 ≤ y ∧ y ≤ 1073741823) : (x * y).natAbs ≤ 1152921502459363329 := by
  rw [Int.natAbs_mul]
  have : x.natAbs * y.natAbs ≤ 1073741823 * 1073741823 := Nat.mul_le_mul (by omega) (by omega)
  omega

set_option maxRecDepth 100000 in
set_option maxHeartbeats 2000000 in
theorem ints_core (n m a b a1 b1 p o : Int) (hn : -9223372036854775808 ≤ n ∧ n ≤ 9223372036854775807) (hm : -9223372036854775808 ≤ m ∧ m ≤ 9223372036854775807) (ha : n.tdiv 2 = a) (hb : m.tdiv 2 = b) (ha1 : a.tmod 1073741824 = a1) (hb1 : b.tmod 1073741824 = b1) (hp : a1 * b1 = p)
    (ra : -4611686018427387904 ≤ a ∧ a ≤ 4611686018427387903) (rb : -4611686018427387904 ≤ b ∧ b ≤ 4611686018427387903) (ra1 : -1073741823 ≤ a1 ∧ a1 ≤ 1073741823) (rb1 : -1073741823 ≤ b1 ∧ b1 ≤ 1073741823) (rp : -1152921502459363329 ≤ p ∧ p ≤ 1152921502459363329)
    (ho : (n < m ∧ o = -1) ∨ (n = m ∧ o = 0) ∨ (m < n ∧ o = 1)) (w : World) : Calls Try.prog 4 #[.int .i64 n, .int .i64 m] w fun e w' => e = .returned (.bool true) ∧ Below w.heap.size w w' := by
  have hS := St.start w
  obtain ⟨s, hs⟩ : ∃ s, s = a + b := ⟨_, rfl⟩
  have rs : -9223372036854775808 ≤ s ∧ s ≤ 9223372036854775807 := by omega
  have GA : Gives Try.prog 12 #[.agg (ivZ a), .agg (ivZ b)] (.tuple #[.agg (ivZ s), .int .i64 0]) := by
    rw [hs]; exact add_ZZ a b (mid_abs _ (by omega)) (mid_abs _ (by omega)) (mid_abs _ (by omega))
  have GM : Gives Try.prog 16 #[.agg (ivZ a1), .agg (ivZ b1)] (.tuple #[.agg (ivZ p), .int .i64 0]) := by
    rw [← hp]; exact mul_ZZ a1 b1 (mid_abs _ (by omega)) (mid_abs _ (by omega)) (mid_abs _ (by rw [hp]; omega))
  have GC : Gives Try.prog 22 #[.agg (ivZ n), .agg (ivZ m)] (.int .i64 o) := by
    have := cmp_ZZ n m (mid_abs _ (by omega)) (mid_abs _ (by omega))
    have e : cmpZ n m = o := by
      rcases ho with ⟨h, rfl⟩ | ⟨h, rfl⟩ | ⟨h, rfl⟩
      · exact cmpZ_lt h
      · exact cmpZ_eq h
      · exact cmpZ_gt h
    rwa [e] at this
  have GK := known_true
  have F1 := fromInt_any a (by omega)
  have F2 := fromInt_any b (by omega)
  have F3 := fromInt_any a1 (by omega)
  have F4 := fromInt_any b1 (by omega)
  have F5 := fromInt_any n hn
  have F6 := fromInt_any m hm
  have F7 := fromInt_any s rs
  have F8 := fromInt_any p (by omega)
  have GT := toInt_mid n hn
  have HSm : Hid (s.natAbs < pw 32) := mid_abs _ (by omega)
  have HPm : Hid (p.natAbs < pw 32) := mid_abs _ (by omega)
  have hsum : a + b = s := hs.symm
  clear hs
  rcases ho with ⟨h, rfl⟩ | ⟨h, rfl⟩ | ⟨h, rfl⟩
  · go_enter Try.func4, Try.ntmps4
    go_wp2_with (first | (refine L_alloc_agg hS rfl rfl ?_; refine ⟨_, zero25, ?_⟩; clear hS; intro _ _ hS) | (refine L_store (t := 25) hS rfl rfl ?_; refine ⟨_, _, _, _, _, (.head), run_store_row hS _ _ _ rfl _ rfl _ _ rfl _ (.head) (size25_Z _) (ivz_sizes _ _ _) (oneCells_Z _), ?_⟩; clear hS; intro _ hS) | (go_at_call 33; (with_reducible refine Gives.use (F1) hS ?_); clear hS; intro _ hS) | (go_at_call 33; (with_reducible refine Gives.use (F2) hS ?_); clear hS; intro _ hS) | (go_at_call 33; (with_reducible refine Gives.use (F3) hS ?_); clear hS; intro _ hS) | (go_at_call 33; (with_reducible refine Gives.use (F4) hS ?_); clear hS; intro _ hS) | (go_at_call 33; (with_reducible refine Gives.use (F5) hS ?_); clear hS; intro _ hS) | (go_at_call 12; (with_reducible refine Gives.use (GA) hS ?_); clear hS; intro _ hS) | (go_at_call 16; (with_reducible refine Gives.use (GM) hS ?_); clear hS; intro _ hS) | (go_at_call 24; (with_reducible refine Gives.use (GT) hS ?_); clear hS; intro _ hS))
    (try simp only [Act.put]); (try simp only [List.setIfInBounds_toArray, List.set_cons_succ, List.set_cons_zero]); refine wp_region_w0 hS (by kernel_rfl) (by kernel_rfl) ?_
    repeat (first
      | (refine S_load (t := 25) (o := ⟨some 58, _, _, _, _, _⟩) rfl rfl rfl rfl ?_; refine ⟨_, fun _ hS' => run_load_row hS' _ _ rfl _ rfl _ _ (.inl (.tail _ (.head _))) _ Try.underlying25 rfl (size25_Z _), ?_⟩; simp only [Act.put, List.setIfInBounds_toArray, List.set_cons_succ, List.set_cons_zero]) | (refine S_load (t := 25) (o := ⟨some 66, _, _, _, _, _⟩) rfl rfl rfl rfl ?_; refine ⟨_, fun _ hS' => run_load_row hS' _ _ rfl _ rfl _ _ (.inl (.head _)) _ Try.underlying25 rfl (size25_Z _), ?_⟩; simp only [Act.put, List.setIfInBounds_toArray, List.set_cons_succ, List.set_cons_zero])
      | (refine S_call 26 rfl rfl rfl rfl ?_; apply Exists.intro; refine ⟨fun _ => ?_, ?_⟩; (focus (go_simp; exact rfl)); apply Exists.intro; (with_reducible refine ⟨GK, ?_⟩); simp only [Act.put, List.setIfInBounds_toArray, List.set_cons_succ, List.set_cons_zero])
      | (refine S_call 33 rfl rfl rfl rfl ?_; apply Exists.intro; refine ⟨fun _ => ?_, ?_⟩; (focus (go_simp; exact rfl)); apply Exists.intro; (with_reducible refine ⟨F7, ?_⟩); simp only [Act.put, List.setIfInBounds_toArray, List.set_cons_succ, List.set_cons_zero]) | (refine S_call 33 rfl rfl rfl rfl ?_; apply Exists.intro; refine ⟨fun _ => ?_, ?_⟩; (focus (go_simp; exact rfl)); apply Exists.intro; (with_reducible refine ⟨F8, ?_⟩); simp only [Act.put, List.setIfInBounds_toArray, List.set_cons_succ, List.set_cons_zero]) | (refine S_call 33 rfl rfl rfl rfl ?_; apply Exists.intro; refine ⟨fun _ => ?_, ?_⟩; (focus (go_simp; exact rfl)); apply Exists.intro; (with_reducible refine ⟨F5, ?_⟩); simp only [Act.put, List.setIfInBounds_toArray, List.set_cons_succ, List.set_cons_zero]) | (refine S_call 33 rfl rfl rfl rfl ?_; apply Exists.intro; refine ⟨fun _ => ?_, ?_⟩; (focus (go_simp; exact rfl)); apply Exists.intro; (with_reducible refine ⟨F6, ?_⟩); simp only [Act.put, List.setIfInBounds_toArray, List.set_cons_succ, List.set_cons_zero])
      | (refine S_call 22 rfl rfl rfl rfl ?_; apply Exists.intro; refine ⟨fun _ => ?_, ?_⟩; (focus (go_simp; exact rfl)); apply Exists.intro; (with_reducible refine ⟨GC, ?_⟩); simp only [Act.put, List.setIfInBounds_toArray, List.set_cons_succ, List.set_cons_zero])
      | (refine S_op (op := .eql) (t := 25) (o := ⟨some 63, _, _, _, _, _⟩) rfl rfl rfl ?_; refine ⟨_, fun _ => run_eql_Z' _ _ _ _ rfl _ _ rfl rfl (HSm.out) (HSm.out) _ (eqZ_true rfl), ?_⟩; simp only [Act.put, List.setIfInBounds_toArray, List.set_cons_succ, List.set_cons_zero]) | (refine S_op (op := .eql) (t := 25) (o := ⟨some 73, _, _, _, _, _⟩) rfl rfl rfl ?_; refine ⟨_, fun _ => run_eql_Z' _ _ _ _ rfl _ _ rfl rfl (HPm.out) (HPm.out) _ (eqZ_true rfl), ?_⟩; simp only [Act.put, List.setIfInBounds_toArray, List.set_cons_succ, List.set_cons_zero])
      | (refine S_run rfl rfl ?_; apply Exists.intro; refine ⟨fun _ => ?_, ?_⟩; (focus (go_simp; (try go_bits); exact rfl)); simp only [Act.put, List.setIfInBounds_toArray, List.set_cons_succ, List.set_cons_zero]))
    refine S_end0 ?_; clear hS; intro _ hS
    go_wp2
    go_ret
    exact ⟨rfl, hS.below⟩
  · subst h
    obtain rfl : a = b := ha.symm.trans hb
    obtain rfl : a1 = b1 := ha1.symm.trans hb1
    clear hb hb1
    go_enter Try.func4, Try.ntmps4
    go_wp2_with (first | (refine L_alloc_agg hS rfl rfl ?_; refine ⟨_, zero25, ?_⟩; clear hS; intro _ _ hS) | (refine L_store (t := 25) hS rfl rfl ?_; refine ⟨_, _, _, _, _, (.head), run_store_row hS _ _ _ rfl _ rfl _ _ rfl _ (.head) (size25_Z _) (ivz_sizes _ _ _) (oneCells_Z _), ?_⟩; clear hS; intro _ hS) | (go_at_call 33; (with_reducible refine Gives.use (F1) hS ?_); clear hS; intro _ hS) | (go_at_call 33; (with_reducible refine Gives.use (F2) hS ?_); clear hS; intro _ hS) | (go_at_call 33; (with_reducible refine Gives.use (F3) hS ?_); clear hS; intro _ hS) | (go_at_call 33; (with_reducible refine Gives.use (F4) hS ?_); clear hS; intro _ hS) | (go_at_call 33; (with_reducible refine Gives.use (F5) hS ?_); clear hS; intro _ hS) | (go_at_call 12; (with_reducible refine Gives.use (GA) hS ?_); clear hS; intro _ hS) | (go_at_call 16; (with_reducible refine Gives.use (GM) hS ?_); clear hS; intro _ hS) | (go_at_call 24; (with_reducible refine Gives.use (GT) hS ?_); clear hS; intro _ hS))
    (try simp only [Act.put]); (try simp only [List.setIfInBounds_toArray, List.set_cons_succ, List.set_cons_zero]); refine wp_region_w0 hS (by kernel_rfl) (by kernel_rfl) ?_
    repeat (first
      | (refine S_load (t := 25) (o := ⟨some 58, _, _, _, _, _⟩) rfl rfl rfl rfl ?_; refine ⟨_, fun _ hS' => run_load_row hS' _ _ rfl _ rfl _ _ (.inl (.tail _ (.head _))) _ Try.underlying25 rfl (size25_Z _), ?_⟩; simp only [Act.put, List.setIfInBounds_toArray, List.set_cons_succ, List.set_cons_zero]) | (refine S_load (t := 25) (o := ⟨some 66, _, _, _, _, _⟩) rfl rfl rfl rfl ?_; refine ⟨_, fun _ hS' => run_load_row hS' _ _ rfl _ rfl _ _ (.inl (.head _)) _ Try.underlying25 rfl (size25_Z _), ?_⟩; simp only [Act.put, List.setIfInBounds_toArray, List.set_cons_succ, List.set_cons_zero])
      | (refine S_call 26 rfl rfl rfl rfl ?_; apply Exists.intro; refine ⟨fun _ => ?_, ?_⟩; (focus (go_simp; exact rfl)); apply Exists.intro; (with_reducible refine ⟨GK, ?_⟩); simp only [Act.put, List.setIfInBounds_toArray, List.set_cons_succ, List.set_cons_zero])
      | (refine S_call 33 rfl rfl rfl rfl ?_; apply Exists.intro; refine ⟨fun _ => ?_, ?_⟩; (focus (go_simp; exact rfl)); apply Exists.intro; (with_reducible refine ⟨F7, ?_⟩); simp only [Act.put, List.setIfInBounds_toArray, List.set_cons_succ, List.set_cons_zero]) | (refine S_call 33 rfl rfl rfl rfl ?_; apply Exists.intro; refine ⟨fun _ => ?_, ?_⟩; (focus (go_simp; exact rfl)); apply Exists.intro; (with_reducible refine ⟨F8, ?_⟩); simp only [Act.put, List.setIfInBounds_toArray, List.set_cons_succ, List.set_cons_zero]) | (refine S_call 33 rfl rfl rfl rfl ?_; apply Exists.intro; refine ⟨fun _ => ?_, ?_⟩; (focus (go_simp; exact rfl)); apply Exists.intro; (with_reducible refine ⟨F5, ?_⟩); simp only [Act.put, List.setIfInBounds_toArray, List.set_cons_succ, List.set_cons_zero]) | (refine S_call 33 rfl rfl rfl rfl ?_; apply Exists.intro; refine ⟨fun _ => ?_, ?_⟩; (focus (go_simp; exact rfl)); apply Exists.intro; (with_reducible refine ⟨F6, ?_⟩); simp only [Act.put, List.setIfInBounds_toArray, List.set_cons_succ, List.set_cons_zero])
      | (refine S_call 22 rfl rfl rfl rfl ?_; apply Exists.intro; refine ⟨fun _ => ?_, ?_⟩; (focus (go_simp; exact rfl)); apply Exists.intro; (with_reducible refine ⟨GC, ?_⟩); simp only [Act.put, List.setIfInBounds_toArray, List.set_cons_succ, List.set_cons_zero])
      | (refine S_op (op := .eql) (t := 25) (o := ⟨some 63, _, _, _, _, _⟩) rfl rfl rfl ?_; refine ⟨_, fun _ => run_eql_Z' _ _ _ _ rfl _ _ rfl rfl (HSm.out) (HSm.out) _ (eqZ_true rfl), ?_⟩; simp only [Act.put, List.setIfInBounds_toArray, List.set_cons_succ, List.set_cons_zero]) | (refine S_op (op := .eql) (t := 25) (o := ⟨some 73, _, _, _, _, _⟩) rfl rfl rfl ?_; refine ⟨_, fun _ => run_eql_Z' _ _ _ _ rfl _ _ rfl rfl (HPm.out) (HPm.out) _ (eqZ_true rfl), ?_⟩; simp only [Act.put, List.setIfInBounds_toArray, List.set_cons_succ, List.set_cons_zero])
      | (refine S_run rfl rfl ?_; apply Exists.intro; refine ⟨fun _ => ?_, ?_⟩; (focus (go_simp; (try go_bits); exact rfl)); simp only [Act.put, List.setIfInBounds_toArray, List.set_cons_succ, List.set_cons_zero]))
    refine S_end0 ?_; clear hS; intro _ hS
    go_wp2
    go_ret
    exact ⟨rfl, hS.below⟩
  · have h' : ¬ n < m := by omega
    go_enter Try.func4, Try.ntmps4
    go_wp2_with (first | (refine L_alloc_agg hS rfl rfl ?_; refine ⟨_, zero25, ?_⟩; clear hS; intro _ _ hS) | (refine L_store (t := 25) hS rfl rfl ?_; refine ⟨_, _, _, _, _, (.head), run_store_row hS _ _ _ rfl _ rfl _ _ rfl _ (.head) (size25_Z _) (ivz_sizes _ _ _) (oneCells_Z _), ?_⟩; clear hS; intro _ hS) | (go_at_call 33; (with_reducible refine Gives.use (F1) hS ?_); clear hS; intro _ hS) | (go_at_call 33; (with_reducible refine Gives.use (F2) hS ?_); clear hS; intro _ hS) | (go_at_call 33; (with_reducible refine Gives.use (F3) hS ?_); clear hS; intro _ hS) | (go_at_call 33; (with_reducible refine Gives.use (F4) hS ?_); clear hS; intro _ hS) | (go_at_call 33; (with_reducible refine Gives.use (F5) hS ?_); clear hS; intro _ hS) | (go_at_call 12; (with_reducible refine Gives.use (GA) hS ?_); clear hS; intro _ hS) | (go_at_call 16; (with_reducible refine Gives.use (GM) hS ?_); clear hS; intro _ hS) | (go_at_call 24; (with_reducible refine Gives.use (GT) hS ?_); clear hS; intro _ hS))
    (try simp only [Act.put]); (try simp only [List.setIfInBounds_toArray, List.set_cons_succ, List.set_cons_zero]); refine wp_region_w0 hS (by kernel_rfl) (by kernel_rfl) ?_
    repeat (first
      | (refine S_load (t := 25) (o := ⟨some 58, _, _, _, _, _⟩) rfl rfl rfl rfl ?_; refine ⟨_, fun _ hS' => run_load_row hS' _ _ rfl _ rfl _ _ (.inl (.tail _ (.head _))) _ Try.underlying25 rfl (size25_Z _), ?_⟩; simp only [Act.put, List.setIfInBounds_toArray, List.set_cons_succ, List.set_cons_zero]) | (refine S_load (t := 25) (o := ⟨some 66, _, _, _, _, _⟩) rfl rfl rfl rfl ?_; refine ⟨_, fun _ hS' => run_load_row hS' _ _ rfl _ rfl _ _ (.inl (.head _)) _ Try.underlying25 rfl (size25_Z _), ?_⟩; simp only [Act.put, List.setIfInBounds_toArray, List.set_cons_succ, List.set_cons_zero])
      | (refine S_call 26 rfl rfl rfl rfl ?_; apply Exists.intro; refine ⟨fun _ => ?_, ?_⟩; (focus (go_simp; exact rfl)); apply Exists.intro; (with_reducible refine ⟨GK, ?_⟩); simp only [Act.put, List.setIfInBounds_toArray, List.set_cons_succ, List.set_cons_zero])
      | (refine S_call 33 rfl rfl rfl rfl ?_; apply Exists.intro; refine ⟨fun _ => ?_, ?_⟩; (focus (go_simp; exact rfl)); apply Exists.intro; (with_reducible refine ⟨F7, ?_⟩); simp only [Act.put, List.setIfInBounds_toArray, List.set_cons_succ, List.set_cons_zero]) | (refine S_call 33 rfl rfl rfl rfl ?_; apply Exists.intro; refine ⟨fun _ => ?_, ?_⟩; (focus (go_simp; exact rfl)); apply Exists.intro; (with_reducible refine ⟨F8, ?_⟩); simp only [Act.put, List.setIfInBounds_toArray, List.set_cons_succ, List.set_cons_zero]) | (refine S_call 33 rfl rfl rfl rfl ?_; apply Exists.intro; refine ⟨fun _ => ?_, ?_⟩; (focus (go_simp; exact rfl)); apply Exists.intro; (with_reducible refine ⟨F5, ?_⟩); simp only [Act.put, List.setIfInBounds_toArray, List.set_cons_succ, List.set_cons_zero]) | (refine S_call 33 rfl rfl rfl rfl ?_; apply Exists.intro; refine ⟨fun _ => ?_, ?_⟩; (focus (go_simp; exact rfl)); apply Exists.intro; (with_reducible refine ⟨F6, ?_⟩); simp only [Act.put, List.setIfInBounds_toArray, List.set_cons_succ, List.set_cons_zero])
      | (refine S_call 22 rfl rfl rfl rfl ?_; apply Exists.intro; refine ⟨fun _ => ?_, ?_⟩; (focus (go_simp; exact rfl)); apply Exists.intro; (with_reducible refine ⟨GC, ?_⟩); simp only [Act.put, List.setIfInBounds_toArray, List.set_cons_succ, List.set_cons_zero])
      | (refine S_op (op := .eql) (t := 25) (o := ⟨some 63, _, _, _, _, _⟩) rfl rfl rfl ?_; refine ⟨_, fun _ => run_eql_Z' _ _ _ _ rfl _ _ rfl rfl (HSm.out) (HSm.out) _ (eqZ_true rfl), ?_⟩; simp only [Act.put, List.setIfInBounds_toArray, List.set_cons_succ, List.set_cons_zero]) | (refine S_op (op := .eql) (t := 25) (o := ⟨some 73, _, _, _, _, _⟩) rfl rfl rfl ?_; refine ⟨_, fun _ => run_eql_Z' _ _ _ _ rfl _ _ rfl rfl (HPm.out) (HPm.out) _ (eqZ_true rfl), ?_⟩; simp only [Act.put, List.setIfInBounds_toArray, List.set_cons_succ, List.set_cons_zero])
      | (refine S_run rfl rfl ?_; apply Exists.intro; refine ⟨fun _ => ?_, ?_⟩; (focus (go_simp; (try go_bits); exact rfl)); simp only [Act.put, List.setIfInBounds_toArray, List.set_cons_succ, List.set_cons_zero]))
    refine S_end0 ?_; clear hS; intro _ hS
    go_wp2
    go_ret
    exact ⟨rfl, hS.below⟩

theorem ints_any (n m : Int) (hn : -9223372036854775808 ≤ n ∧ n ≤ 9223372036854775807) (hm : -9223372036854775808 ≤ m ∧ m ≤ 9223372036854775807) (w : World) :
    Calls Try.prog 4 #[.int .i64 n, .int .i64 m] w fun e w' => e = .returned (.bool true) ∧ Below w.heap.size w w' := by
  have ra1 := tmod_range (n.tdiv 2)
  have rb1 := tmod_range (m.tdiv 2)
  have rp := prod_range _ _ ra1 rb1
  refine ints_core n m _ _ _ _ _ (if n < m then -1 else if n = m then 0 else 1) hn hm rfl rfl rfl rfl rfl (tdiv2_range n hn) (tdiv2_range m hm) ra1 rb1 (by omega) ?_ w
  rcases Int.lt_trichotomy n m with h | h | h
  · exact .inl ⟨h, if_pos h⟩
  · exact .inr (.inl ⟨h, by rw [if_neg (by omega), if_pos h]⟩)
  · exact .inr (.inr ⟨h, by rw [if_neg (by omega), if_neg (by omega)]⟩)
end Go.Proofs.Ythgfgihgpdamnaa
