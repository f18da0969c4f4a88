/- The walks of the small functions on limbs and magnitudes. -/
import Derived.Test.YtfdlgeomaballaaGreatTypes
import Derived.Test.YtfdlgeomaballaaGreatPlus
namespace Go.Proofs.YtfdlgeomaballaaGreat
open Go.RowKit
/-- How two numbers stand to each other. -/
def cmpv (n m : Nat) : Int := if n < m then -1 else if n = m then 0 else 1

set_option maxHeartbeats 400000 in
theorem add32 (x y c : Nat) (hx : x < 4294967296) (hy : y < 4294967296) (hc : c ≤ 1) :
    Gives Tryz.prog 105 #[.int .u32 x, .int .u32 y, .int .u32 c] (.tuple #[.int .u32 ((addS x y c : Nat) : Int), .int .u32 ((addC x y c : Nat) : Int)]) := by
  intro w
  go_enter Tryz.func105, Tryz.ntmps105
  go_wp2
  go_ret2
  exact ⟨ret2 (u32_eq (by show ((x : Int) + (y : Int) + (c : Int)) % 4294967296 = _; unfold addS; omega)) (u32_eq (by show ((x : Int) + (y : Int) + (c : Int)) / 4294967296 = _; unfold addC; omega)), Below.refl _ _⟩

theorem top32 (a : Nat) (h : a < 4294967296) : a.testBit 31 = decide (2147483648 ≤ a) := by
  rw [Nat.testBit_eq_decide_div_mod_eq, show (2 : Nat) ^ 31 = 2147483648 from rfl]
  congr 1
  rw [eq_iff_iff]; omega
theorem div_top (a : Nat) (h : a < 4294967296) : a / 2147483648 = (a.testBit 31).toNat := by
  rw [top32 a h]
  by_cases h2 : 2147483648 ≤ a <;> simp [h2] <;> omega
theorem sub32_nat (x y c : Nat) (hx : x < 4294967296) (hy : y < 4294967296) (hc : c ≤ 1) :
    (((4294967295 ^^^ x) &&& y) ||| ((4294967295 ^^^ (x ^^^ y)) &&& ((x + 4294967296 - y - c) % 4294967296))) / 2147483648 = brw x y c := by
  have h1 : (4294967295 ^^^ x) &&& y < 2 ^ 32 := Nat.and_lt_two_pow _ hy
  have h2 : (4294967295 ^^^ (x ^^^ y)) &&& ((x + 4294967296 - y - c) % 4294967296) < 2 ^ 32 := Nat.and_lt_two_pow _ (by omega)
  rw [div_top _ (Nat.or_lt_two_pow h1 h2)]
  simp only [Nat.testBit_or, Nat.testBit_and, Nat.testBit_xor]
  rw [top32 x hx, top32 y hy, top32 _ (show (x + 4294967296 - y - c) % 4294967296 < 4294967296 by omega), show Nat.testBit 4294967295 31 = true by decide]
  unfold brw
  by_cases a1 : 2147483648 ≤ x <;> by_cases a2 : 2147483648 ≤ y <;> by_cases a3 : 2147483648 ≤ (x + 4294967296 - y - c) % 4294967296 <;> simp [a1, a2, a3] <;> omega
theorem sub32_bits (x y c : Nat) (hx : x < 4294967296) (hy : y < 4294967296) (hc : c ≤ 1) :
    bits BinOp.or IntKind.u32 (bits BinOp.and IntKind.u32 (bits BinOp.xor IntKind.u32 IntKind.u32.max (x : Int)) (y : Int))
                (bits BinOp.and IntKind.u32
                  (bits BinOp.xor IntKind.u32 IntKind.u32.max (bits BinOp.xor IntKind.u32 (x : Int) (y : Int)))
                  (((x : Int) - (y : Int) - (c : Int)) % 4294967296)) / 2147483648 = ((brw x y c : Nat) : Int) := by
  have hd : ((x : Int) - (y : Int) - (c : Int)) % 4294967296 = (((x + 4294967296 - y - c) % 4294967296 : Nat) : Int) := by omega
  have hM : IntKind.u32.max = ((4294967295 : Nat) : Int) := by rfl
  have hM2 : (4294967295 : Nat) < 2 ^ 32 := by decide
  have hxy : x ^^^ y < 4294967296 := Nat.xor_lt_two_pow (n := 32) hx hy
  have hnx : 4294967295 ^^^ x < 4294967296 := Nat.xor_lt_two_pow (n := 32) hM2 hx
  have hnxy : 4294967295 ^^^ (x ^^^ y) < 4294967296 := Nat.xor_lt_two_pow (n := 32) hM2 hxy
  have h1 : (4294967295 ^^^ x) &&& y < 4294967296 := Nat.and_lt_two_pow (n := 32) _ hy
  have h2 : (4294967295 ^^^ (x ^^^ y)) &&& ((x + 4294967296 - y - c) % 4294967296) < 4294967296 := Nat.and_lt_two_pow (n := 32) _ (by omega)
  rw [hd, hM, u32_xor_nat _ _ hx hy, u32_xor_nat _ _ (by omega) hx, u32_xor_nat _ _ (by omega) hxy, u32_and_nat _ _ hnx hy, u32_and_nat _ _ hnxy (by omega), u32_or_nat _ _ h1 h2, ← sub32_nat x y c hx hy hc]
  rfl
set_option maxHeartbeats 400000 in
theorem sub32 (x y c : Nat) (hx : x < 4294967296) (hy : y < 4294967296) (hc : c ≤ 1) :
    Gives Tryz.prog 106 #[.int .u32 x, .int .u32 y, .int .u32 c] (.tuple #[.int .u32 ((subD x y c : Nat) : Int), .int .u32 ((brw x y c : Nat) : Int)]) := by
  intro w
  have hk : IntKind.u32.signed = false := rfl
  go_enter Tryz.func106, Tryz.ntmps106
  go_wp2
  go_ret2
  exact ⟨ret2 (u32_eq (by show (((x : Int) - (y : Int)) % 4294967296 - (c : Int)) % 4294967296 = _; unfold subD; omega)) (u32_eq (sub32_bits x y c hx hy hc)), Below.refl _ _⟩

set_option maxRecDepth 10000 in
theorem isZero (n : Nat) (hn : n < pw 32) : Gives Tryz.prog 65 #[.agg (mgk 32 n)] (.bool (isz n)) := by
  intro w
  have hS := St.start w
  have HN := Lib.hid hn
  clear hn
  go_enter Tryz.func65, Tryz.ntmps65
  go_wp2_with (first
    | (refine L_box_agg hS rfl rfl ?_; refine ⟨_, rfl, ?_⟩; clear hS; intro _ _ hS)
    | (refine L_load (t := 74) rfl rfl ?_; refine ⟨_, run_load_row hS _ _ rfl _ rfl _ _ (.inl (.head _)) _ Tryz.underlying74 rfl (by rw [mgk_size]; exact size74), ?_⟩)
    | (refine L_build rfl rfl ?_; refine ⟨_, built74, ?_⟩)
    | (refine L_op rfl rfl ?_; refine ⟨_, run_eql_mgk _ _ _ _ _ _ rfl 32 _ _ rfl rfl _ guard74 Tryz.underlying74 size26 Tryz.underlying26 HN.out (pw_pos _), ?_⟩))
  go_ret
  exact ⟨rfl, hS.below⟩

set_option maxHeartbeats 400000 in
theorem plus (n m : Nat) (hn : n < pw 32) (hm : m < pw 32) : Gives Tryz.prog 87 #[.agg (mgk 32 n), .agg (mgk 32 m)] (.tuple #[.agg (mgk 32 ((n + m) % pw 32)), .bool (decide (n + m < pw 32))]) := by
  intro w
  have hS := St.start w
  have HN := Lib.hid hn
  have HM := Lib.hid hm
  clear hn hm
  go_enter Tryz.func87, Tryz.ntmps87
  go_wp2_with (first | (refine L_box_agg hS rfl rfl ?_; refine ⟨_, rfl, ?_⟩; clear hS; intro _ _ hS) | (refine L_alloc_agg hS rfl rfl ?_; refine ⟨_, zero74, ?_⟩; clear hS; intro _ _ hS))
  rename_i b1 _ b2 _ b3 w1 _ _
  go_loopw [6, 8] (fun cy i wr => ∃ k : Nat, k ≤ 32 ∧ i = .int .i64 k ∧ cy = .int .u32 ((pcar n m k : Nat) : Int) ∧ St none w wr [] [(b3, .cells (mgk 32 (psum n m k)) 74), (b2, .cells (mgk 32 m) 74), (b1, .cells (mgk 32 n) 74)]) (fun _ i _ => 32 - (intOf i).toNat)
  case atStart =>
    exact ⟨0, by omega, rfl, by rw [pcar_zero]; rfl, by rw [psum_zero]; exact hS⟩
  case round =>
    clear hS
    obtain ⟨k, hk, rfl, rfl, hS⟩ := hrel
    have hc := pcar_le n m k
    by_cases hlt : k < 32
    · go_wp2_with (fail)
      refine wp_region_w1 hS 13 [11] [(b3, .cells (mgk 32 (psum n m (k + 1))) 74), (b2, .cells (mgk 32 m) 74), (b1, .cells (mgk 32 n) 74)] (by kernel_rfl) (by kernel_rfl) ?_
      repeat (first
        | (refine S_load (t := 26) rfl rfl rfl rfl ?_; refine ⟨_, fun _ hS' => run_load_cell hS' _ _ rfl _ _ rfl _ _ (.inl (.tail _ (.head _))) _ Tryz.underlying26 rfl _ (mgk_get' (by omega)), ?_⟩; simp only [Act.put, List.setIfInBounds_toArray, List.set_cons_succ, List.set_cons_zero])
        | (refine S_load (t := 26) rfl rfl rfl rfl ?_; refine ⟨_, fun _ hS' => run_load_cell hS' _ _ rfl _ _ rfl _ _ (.inl (.tail _ (.tail _ (.head _)))) _ Tryz.underlying26 rfl _ (mgk_get' (by omega)), ?_⟩; simp only [Act.put, List.setIfInBounds_toArray, List.set_cons_succ, List.set_cons_zero])
        | (refine S_call 105 rfl rfl rfl rfl ?_; apply Exists.intro; refine ⟨fun _ => ?_, ?_⟩; (focus (go_simp; exact rfl)); apply Exists.intro; (with_reducible refine ⟨add32 _ _ _ (limb_lt _ _) (limb_lt _ _) hc, ?_⟩); simp only [Act.put, List.setIfInBounds_toArray, List.set_cons_succ, List.set_cons_zero])
        | (refine S_store (t := 26) rfl rfl rfl ?_; refine ⟨_, _, _, _, (.head), fun _ hS' => run_store_cell hS' _ _ _ rfl _ _ rfl _ rfl _ _ _ (.head) size26 rfl rfl ?_ ?_, ?_⟩; (focus (rw [mgk_size]; omega)); (focus (exact (mgk_fill' _ (addS _ _ _) rfl (psum_lt _ _ _) (addS_lt _ _ _)).trans (by rw [psum_next]; rfl))); simp only [Act.put])
        | (refine S_run rfl rfl ?_; apply Exists.intro; refine ⟨fun _ => ?_, ?_⟩; (focus (go_simp; (try go_bits); exact rfl)); simp only [Act.put, List.setIfInBounds_toArray, List.set_cons_succ, List.set_cons_zero]))
      refine S_nil ?_
      intro wn hS
      go_wp2
      go_roundw
      case rel => exact ⟨k + 1, by omega, by go_num, by rw [pcar_next]; rfl, hS⟩
      case measure => simp [intOf]; omega
    · have ek : k = 32 := by omega
      subst ek
      go_wp2_with (first | (refine L_load (t := 74) rfl rfl ?_; refine ⟨_, run_load_row hS _ _ rfl _ rfl _ _ (.inl (.head _)) _ Tryz.underlying74 rfl (by rw [mgk_size]; exact size74), ?_⟩) | (refine L_store (t := 74) hS rfl rfl ?_; refine ⟨_, _, _, _, _, (.head), run_store_row hS _ _ _ rfl _ rfl _ _ rfl _ (.head) (by rw [mgk_size]; exact size74) (by rw [mgk_size]) (oneCells _ _), ?_⟩; clear hS; intro _ hS))
      (try simp only [Exit.inBlock, Exit.then]); refine bodyPost_ret (res_cell_tmp rfl _ _ _ (run_loadRow hS _ _ _ _ (.inl (.head _)) _ Tryz.underlying74 rfl (by rw [mgk_size]; exact size74)) rfl _ rfl) rfl ⟨?_, hS.below⟩
      refine ret2 (by rw [psum_end HN.out HM.out]) (congrArg Value.bool ?_)
      have h0 := pcar_end HN.out HM.out
      by_cases h1 : pcar n m 32 = 0
      · simp [h1, h0.1 h1]
      · have h2 : ¬ n + m < pw 32 := fun h => h1 (h0.2 h)
        simp [h1, h2]

set_option maxHeartbeats 400000 in
theorem minus (n m : Nat) (hn : n < pw 32) (hm : m ≤ n) : Gives Tryz.prog 88 #[.agg (mgk 32 n), .agg (mgk 32 m)] (.agg (mgk 32 (n - m))) := by
  intro w
  have hS := St.start w
  have HN := Lib.hid hn
  have HM := Lib.hid hm
  clear hn hm
  go_enter Tryz.func88, Tryz.ntmps88
  go_wp2_with (first | (refine L_box_agg hS rfl rfl ?_; refine ⟨_, rfl, ?_⟩; clear hS; intro _ _ hS) | (refine L_alloc_agg hS rfl rfl ?_; refine ⟨_, zero74, ?_⟩; clear hS; intro _ _ hS))
  rename_i b1 _ b2 _ b3 _ b4 w1 _ _
  go_loopw [6, 8] (fun cy i wr => ∃ k : Nat, k ≤ 32 ∧ i = .int .i64 k ∧ cy = .int .u32 ((mbrw n m k : Nat) : Int) ∧ St none w wr [] [(b4, .cells (mgk 32 (mdif n m k)) 74), (b3, .cells (mgk 32 0) 74), (b2, .cells (mgk 32 m) 74), (b1, .cells (mgk 32 n) 74)]) (fun _ i _ => 32 - (intOf i).toNat)
  case atStart =>
    exact ⟨0, by omega, rfl, by rw [mbrw_zero]; rfl, by rw [mdif_zero]; exact hS⟩
  case round =>
    clear hS
    obtain ⟨k, hk, rfl, rfl, hS⟩ := hrel
    have hc := mbrw_le n m k
    by_cases hlt : k < 32
    · go_wp2_with (fail)
      refine wp_region_w1 hS 13 [11] [(b4, .cells (mgk 32 (mdif n m (k + 1))) 74), (b3, .cells (mgk 32 0) 74), (b2, .cells (mgk 32 m) 74), (b1, .cells (mgk 32 n) 74)] (by kernel_rfl) (by kernel_rfl) ?_
      repeat (first
        | (refine S_load (t := 26) rfl rfl rfl rfl ?_; refine ⟨_, fun _ hS' => run_load_cell hS' _ _ rfl _ _ rfl _ _ (.inl (.tail _ (.tail _ (.head _)))) _ Tryz.underlying26 rfl _ (mgk_get' (by omega)), ?_⟩; simp only [Act.put, List.setIfInBounds_toArray, List.set_cons_succ, List.set_cons_zero])
        | (refine S_load (t := 26) rfl rfl rfl rfl ?_; refine ⟨_, fun _ hS' => run_load_cell hS' _ _ rfl _ _ rfl _ _ (.inl (.tail _ (.tail _ (.tail _ (.head _))))) _ Tryz.underlying26 rfl _ (mgk_get' (by omega)), ?_⟩; simp only [Act.put, List.setIfInBounds_toArray, List.set_cons_succ, List.set_cons_zero])
        | (refine S_call 106 rfl rfl rfl rfl ?_; apply Exists.intro; refine ⟨fun _ => ?_, ?_⟩; (focus (go_simp; exact rfl)); apply Exists.intro; (with_reducible refine ⟨sub32 _ _ _ (limb_lt _ _) (limb_lt _ _) hc, ?_⟩); simp only [Act.put, List.setIfInBounds_toArray, List.set_cons_succ, List.set_cons_zero])
        | (refine S_store (t := 26) rfl rfl rfl ?_; refine ⟨_, _, _, _, (.head), fun _ hS' => run_store_cell hS' _ _ _ rfl _ _ rfl _ rfl _ _ _ (.head) size26 rfl rfl ?_ ?_, ?_⟩; (focus (rw [mgk_size]; omega)); (focus (exact (mgk_fill' _ (subD _ _ _) rfl (mdif_lt _ _ _) (subD_lt _ _ _)).trans (by rw [mdif_next]; rfl))); simp only [Act.put])
        | (refine S_run rfl rfl ?_; apply Exists.intro; refine ⟨fun _ => ?_, ?_⟩; (focus (go_simp; (try go_bits); exact rfl)); simp only [Act.put, List.setIfInBounds_toArray, List.set_cons_succ, List.set_cons_zero]))
      refine S_nil ?_
      intro wn hS
      go_wp2
      go_roundw
      case rel => exact ⟨k + 1, by omega, by go_num, by rw [mbrw_next], hS⟩
      case measure => simp [intOf]; omega
    · have ek : k = 32 := by omega
      subst ek
      go_wp2_with (first | (refine L_load (t := 74) rfl rfl ?_; refine ⟨_, run_load_row hS _ _ rfl _ rfl _ _ (.inl (.head _)) _ Tryz.underlying74 rfl (by rw [mgk_size]; exact size74), ?_⟩) | (refine L_store (t := 74) hS rfl rfl ?_; refine ⟨_, _, _, _, _, (.tail .head), run_store_row hS _ _ _ rfl _ rfl _ _ rfl _ (.tail .head) (by rw [mgk_size]; exact size74) (by rw [mgk_size, mgk_size]) (oneCells _ _), ?_⟩; clear hS; intro _ hS))
      (try simp only [Exit.inBlock, Exit.then]); refine bodyPost_ret (res_cell rfl hS _ _ _ _ (.inl (.tail _ (.head _))) rfl _ Tryz.underlying74 rfl (by rw [mgk_size]; exact size74)) rfl ⟨?_, hS.below⟩
      rw [mdif_end HN.out HM.out]

theorem cmpv_lt {n m : Nat} (h : n < m) : cmpv n m = -1 := if_pos h
theorem cmpv_eq {n m : Nat} (h : n = m) : cmpv n m = 0 := by unfold cmpv; rw [if_neg (by omega), if_pos h]
theorem cmpv_gt {n m : Nat} (h : m < n) : cmpv n m = 1 := by unfold cmpv; rw [if_neg (by omega), if_neg (by omega)]
set_option maxHeartbeats 400000 in
theorem cmp32 (x y : Nat) : Gives Tryz.prog 96 #[.int .u32 x, .int .u32 y] (.int .i64 (cmpv x y)) := by
  intro w
  rcases Nat.lt_trichotomy x y with h | h | h
  · have HC := Lib.hid (cmpv_lt h)
    go_enter Tryz.func96, Tryz.ntmps96
    go_wp2
    go_ret
    exact ⟨by rw [HC.out]; rfl, Below.refl _ _⟩
  · subst h
    have HC := Lib.hid (cmpv_eq (rfl : x = x))
    go_enter Tryz.func96, Tryz.ntmps96
    go_wp2
    go_ret
    exact ⟨by rw [HC.out]; rfl, Below.refl _ _⟩
  · have HC := Lib.hid (cmpv_gt h)
    have h2 : ¬ x < y := by omega
    go_enter Tryz.func96, Tryz.ntmps96
    go_wp2
    go_ret
    exact ⟨by rw [HC.out]; rfl, Below.refl _ _⟩

theorem cmp_step {n m j : Nat} (h : n / pw (j + 1) = m / pw (j + 1)) : (limb n j = limb m j → n / pw j = m / pw j) ∧ (limb n j ≠ limb m j → cmpv (limb n j) (limb m j) = cmpv n m) := by
  have h1 := div_pw n j
  have h2 := div_pw m j
  refine ⟨fun e => by omega, fun hne => ?_⟩
  have key : ∀ {a b : Nat}, a / pw j < b / pw j → a < b := fun {a b} hlt => by
    rcases Nat.lt_or_ge a b with h | h
    · exact h
    · exact absurd (Nat.div_le_div_right (c := pw j) h) (by omega)
  rcases Nat.lt_or_ge (limb n j) (limb m j) with hl | hl
  · rw [cmpv_lt hl, cmpv_lt (key (by omega))]
  · have hl' : limb m j < limb n j := by omega
    rw [cmpv_gt hl', cmpv_gt (key (by omega))]

set_option maxHeartbeats 400000 in
theorem compare_any (n m : Nat) (hn : n < pw 32) (hm : m < pw 32) : Gives Tryz.prog 81 #[.agg (mgk 32 n), .agg (mgk 32 m)] (.int .i64 (cmpv n m)) := by
  intro w
  have hS := St.start w
  have HN := Lib.hid hn
  have HM := Lib.hid hm
  clear hn hm
  go_enter Tryz.func81, Tryz.ntmps81
  go_wp2_with (first | (refine L_box_agg hS rfl rfl ?_; refine ⟨_, rfl, ?_⟩; clear hS; intro _ _ hS) | (refine L_alloc_agg hS rfl rfl ?_; refine ⟨_, zero74, ?_⟩; clear hS; intro _ _ hS))
  rename_i b1 _ b2 w1 _ _
  go_loopw [5] (fun i wr => ∃ k : Nat, k ≤ 32 ∧ i = .int .i64 ((k : Int) - 1) ∧ Hid (n / pw k = m / pw k) ∧ St none w wr [] [(b2, .cells (mgk 32 m) 74), (b1, .cells (mgk 32 n) 74)]) (fun i _ => (intOf i + 1).toNat)
  case atStart =>
    exact ⟨32, by omega, by go_num, by show n / pw 32 = m / pw 32; rw [Nat.div_eq_of_lt HN.out, Nat.div_eq_of_lt HM.out], hS⟩
  case round =>
    clear hS
    obtain ⟨k, hk, rfl, HE, hS⟩ := hrel
    rcases k with _ | j
    · have HC := Lib.hid (cmpv_eq (show n = m by have := HE.out; rwa [div_pw_zero, div_pw_zero] at this))
      go_wp2
      go_ret
      exact ⟨by rw [HC.out]; rfl, hS.below⟩
    · have ej : ((j + 1 : Nat) : Int) - 1 = (j : Int) := by omega
      rw [ej]
      clear ej
      have HC := cmp_step HE.out
      have hj : (j : Int) < 32 := by omega
      by_cases he : limb n j = limb m j
      · have HQ := Lib.hid (HC.1 he)
        have hb1 : (((limb n j : Nat) : Int) == ((limb m j : Nat) : Int)) = true := by rw [he]; simp
        have hb2 : (((limb n j : Nat) : Int) != ((limb m j : Nat) : Int)) = false := by rw [he]; simp
        clear he HC
        go_wp2_with (fail)
        refine wp_region_w0 hS (by kernel_rfl) (by kernel_rfl) ?_
        repeat (first
          | (refine S_load (t := 26) rfl rfl rfl rfl ?_; refine ⟨_, fun _ hS' => run_load_cell hS' _ _ rfl _ _ rfl _ _ (.inl (.head _)) _ Tryz.underlying26 rfl _ (mgk_get' (by omega)), ?_⟩; simp only [Act.put, List.setIfInBounds_toArray, List.set_cons_succ, List.set_cons_zero])
          | (refine S_load (t := 26) rfl rfl rfl rfl ?_; refine ⟨_, fun _ hS' => run_load_cell hS' _ _ rfl _ _ rfl _ _ (.inl (.tail _ (.head _))) _ Tryz.underlying26 rfl _ (mgk_get' (by omega)), ?_⟩; simp only [Act.put, List.setIfInBounds_toArray, List.set_cons_succ, List.set_cons_zero])
          | (refine S_run rfl rfl ?_; apply Exists.intro; refine ⟨fun _ => ?_, ?_⟩; (focus (go_simp; (try go_bits); exact rfl)); simp only [Act.put, List.setIfInBounds_toArray, List.set_cons_succ, List.set_cons_zero]))
        refine S_nil ?_
        intro wn hS
        go_wp2
        go_roundw
        case rel => exact ⟨j, by omega, rfl, HQ, hS⟩
        case measure => simp [intOf]
      · have HQ := Lib.hid (HC.2 he)
        have hb1 : (((limb n j : Nat) : Int) == ((limb m j : Nat) : Int)) = false := by simp; omega
        have hb2 : (((limb n j : Nat) : Int) != ((limb m j : Nat) : Int)) = true := by simp; omega
        clear he HC
        go_wp2_with (fail)
        refine wp_region_w0 hS (by kernel_rfl) (by kernel_rfl) ?_
        repeat (first
          | (refine S_load (t := 26) rfl rfl rfl rfl ?_; refine ⟨_, fun _ hS' => run_load_cell hS' _ _ rfl _ _ rfl _ _ (.inl (.head _)) _ Tryz.underlying26 rfl _ (mgk_get' (by omega)), ?_⟩; simp only [Act.put, List.setIfInBounds_toArray, List.set_cons_succ, List.set_cons_zero])
          | (refine S_load (t := 26) rfl rfl rfl rfl ?_; refine ⟨_, fun _ hS' => run_load_cell hS' _ _ rfl _ _ rfl _ _ (.inl (.tail _ (.head _))) _ Tryz.underlying26 rfl _ (mgk_get' (by omega)), ?_⟩; simp only [Act.put, List.setIfInBounds_toArray, List.set_cons_succ, List.set_cons_zero])
          | (refine S_run rfl rfl ?_; apply Exists.intro; refine ⟨fun _ => ?_, ?_⟩; (focus (go_simp; (try go_bits); exact rfl)); simp only [Act.put, List.setIfInBounds_toArray, List.set_cons_succ, List.set_cons_zero]))
        refine S_nil ?_
        intro wn hS
        go_wp2_with (fail)
        refine wp_region_w0 hS (by kernel_rfl) (by kernel_rfl) ?_
        repeat (first
          | (refine S_load (t := 26) rfl rfl rfl rfl ?_; refine ⟨_, fun _ hS' => run_load_cell hS' _ _ rfl _ _ rfl _ _ (.inl (.head _)) _ Tryz.underlying26 rfl _ (mgk_get' (by omega)), ?_⟩; simp only [Act.put, List.setIfInBounds_toArray, List.set_cons_succ, List.set_cons_zero])
          | (refine S_load (t := 26) rfl rfl rfl rfl ?_; refine ⟨_, fun _ hS' => run_load_cell hS' _ _ rfl _ _ rfl _ _ (.inl (.tail _ (.head _))) _ Tryz.underlying26 rfl _ (mgk_get' (by omega)), ?_⟩; simp only [Act.put, List.setIfInBounds_toArray, List.set_cons_succ, List.set_cons_zero])
          | (refine S_call 96 rfl rfl rfl rfl ?_; apply Exists.intro; refine ⟨fun _ => ?_, ?_⟩; (focus (go_simp; exact rfl)); apply Exists.intro; (with_reducible refine ⟨cmp32 _ _, ?_⟩); simp only [Act.put, List.setIfInBounds_toArray, List.set_cons_succ, List.set_cons_zero])
          | (refine S_run rfl rfl ?_; apply Exists.intro; refine ⟨fun _ => ?_, ?_⟩; (focus (go_simp; (try go_bits); exact rfl)); simp only [Act.put, List.setIfInBounds_toArray, List.set_cons_succ, List.set_cons_zero]))
        refine S_nil ?_
        intro wn hS
        go_wp2
        go_ret
        exact ⟨by rw [← HQ.out]; rfl, hS.below⟩
end Go.Proofs.YtfdlgeomaballaaGreat
