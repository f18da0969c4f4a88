/- The walks of the division by one limb. -/
import Derived.Test.YtfdlgeomaballaaGreatWe
import Derived.Test.YtfdlgeomaballaaGreatDiv
namespace Go.Proofs.YtfdlgeomaballaaGreat
open Go.RowKit

theorem or_limb (x y : Nat) (hx : x < 4294967296) (hy : y < 4294967296) : bits BinOp.or IntKind.u64 ((x : Int) * 4294967296) (y : Int) = ((x * 4294967296 + y : Nat) : Int) := by
  rw [show ((x : Int) * 4294967296 : Int) = ((x * 4294967296 : Nat) : Int) by simp, u64_or_nat _ _ (by omega) (by omega), nat_join 32 _ _ (by omega) (by omega)]

set_option maxRecDepth 10000 in
set_option maxHeartbeats 800000 in
theorem div32_any (x y d : Nat) (hx : x < d) (hy : y < 4294967296) (hd : d < 4294967296) :
    Gives Tryz.prog 98 #[.int .u32 x, .int .u32 y, .int .u32 d] (.tuple #[.int .u32 ((quoL x y d : Nat) : Int), .int .u32 ((remL x y d : Nat) : Int)]) := by
  intro w
  have hS := St.start w
  obtain ⟨z, hz⟩ : ∃ z, z = x * 4294967296 + y := ⟨_, rfl⟩
  have hor : bits BinOp.or IntKind.u64 ((x : Int) * 4294967296) (y : Int) = ((z : Nat) : Int) := by rw [hz]; exact or_limb x y (by omega) hy
  have hz2 : z ≤ 18446744073709551615 := by omega
  have hne : ¬ ((d : Int) = 0) := by omega
  have hdn : ¬ (d = 0) := by omega
  have hnb : ((d : Int) == 0) = false := by simp; omega
  have hnb2 : ((d : Int) != 0) = true := by simp; omega
  have hle : ¬ ((d : Int) ≤ (x : Int)) := by omega
  have hled : decide ((d : Int) ≤ (x : Int)) = false := decide_eq_false hle
  have hd1 : (1 : Int) ≤ (d : Int) := by omega
  obtain ⟨q, hq⟩ : ∃ q, q = quoL x y d := ⟨_, rfl⟩
  obtain ⟨r, hr⟩ : ∃ r, r = remL x y d := ⟨_, rfl⟩
  have hqb : q < 4294967296 := by rw [hq]; exact quoL_lt hx hy
  have hrb : r < 4294967296 := by have := remL_lt (hi := x) (lo := y) (y := d) (by omega); omega
  have hqz : ((z : Nat) : Int) / ((d : Nat) : Int) = ((q : Nat) : Int) := by rw [hq, hz]; unfold quoL; rw [Int.natCast_ediv]
  have hrz : ((z : Nat) : Int) % ((d : Nat) : Int) = ((r : Nat) : Int) := by rw [hr, hz]; unfold remL; rw [Int.natCast_emod]
  rw [← hq, ← hr]
  clear hq hr hz
  go_enter Tryz.func98, Tryz.ntmps98
  go_wp2_with (fail)
  (try simp only [Act.put]); (try simp only [List.setIfInBounds_toArray, List.set_cons_succ, List.set_cons_zero]); refine wp_region_w0 hS (by kernel_rfl) (by kernel_rfl) ?_
  repeat (first | (refine S_run rfl rfl ?_; apply Exists.intro; refine ⟨fun _ => ?_, ?_⟩; (focus (go_simp; (try go_bits); exact rfl)); simp only [Act.put, List.setIfInBounds_toArray, List.set_cons_succ, List.set_cons_zero]))
  refine S_end0 ?_; clear hS; intro _ hS
  go_wp2
  go_ret2
  exact ⟨rfl, hS.below⟩

set_option maxRecDepth 10000 in
set_option maxHeartbeats 1000000 in
theorem divideByLimb_any (a d : Nat) (ha : a < pw 32) (hd0 : 0 < d) (hd : d < 4294967296) :
    Gives Tryz.prog 85 #[.agg (mgk 32 a), .int .u32 d] (.tuple #[.agg (mgk 32 (a / d)), .int .u32 ((a % d : Nat) : Int)]) := by
  intro w
  have hS := St.start w
  have HA := Lib.hid (nl_lt ha)
  have hla := nl_le a
  clear ha
  go_enter Tryz.func85, Tryz.ntmps85
  go_wp2_with (first | (refine L_box_agg (o := ⟨some 2, _, _, _, _, _⟩) hS rfl rfl ?_; refine ⟨_, rfl, ?_⟩; clear hS; intro b2 _ hS) | (refine L_alloc_agg (o := ⟨some 4, _, _, _, _, _⟩) hS rfl rfl ?_; refine ⟨_, zero74, ?_⟩; clear hS; intro b4 _ hS) | (refine L_load (t := 74) rfl rfl ?_; refine ⟨_, run_load_row hS _ _ rfl _ rfl _ _ (.inl (.tail _ (.head _))) _ Tryz.underlying74 rfl (size74_mg _), ?_⟩) | (go_at_call 84; (with_reducible refine Gives.use (limbCount_any _) hS ?_); clear hS; intro _ hS))
  go_loopw [5, 6] (fun rs i wr => ∃ k : Nat, k ≤ 32 ∧ i = .int .i64 ((k : Int) - 1) ∧ rs = .int .u32 ((dr a d k : Nat) : Int) ∧ St none w wr [] [(b4, .cells (mgk 32 (dq a d k)) 74), (b2, .cells (mgk 32 a) 74)]) (fun _ i _ => (intOf i + 1).toNat)
  case atStart => exact ⟨nl a, by omega, by go_num, by rw [dr_start HA.out]; rfl, by rw [dq_start HA.out]; exact hS⟩
  case round =>
    clear hS
    obtain ⟨k, hk, rfl, rfl, hS⟩ := hrel
    rcases k with _ | j
    · go_wp2_with (first | (refine L_load (t := 74) rfl rfl ?_; refine ⟨_, run_load_row hS _ _ rfl _ rfl _ _ (.inl (.head _)) _ Tryz.underlying74 rfl (size74_mg _), ?_⟩) | (refine L_store (t := 74) hS rfl rfl ?_; refine ⟨_, _, _, _, _, (.head), run_store_row hS _ _ _ rfl _ rfl _ _ rfl _ (.head) (size74_mg _) (mg_sizes _ _ _) (oneCells _ _), ?_⟩; clear hS; intro _ hS))
      (try simp only [Exit.inBlock, Exit.then]); refine bodyPost_ret (res_cell_tmp rfl _ _ _ (run_loadRow hS _ _ _ _ (.inl (.head _)) _ Tryz.underlying74 rfl (size74_mg _)) rfl _ rfl) rfl ⟨?_, hS.below⟩
      rw [dq_end, dr_end]; rfl
    · have ej : ((j + 1 : Nat) : Int) - 1 = (j : Int) := by omega
      rw [ej]
      clear ej
      have hj : (j : Int) < 32 := by omega
      have hl := limb_lt a j
      have hr := dr_lt (a := a) (k := j + 1) hd0
      have HQ := Lib.hid (quoL_lt hr hl)
      have HN := Lib.hid (dq_next a d j hd0)
      have HR := Lib.hid (dr_next a d j)
      go_wp2_with (first | (refine L_load (t := 26) rfl rfl ?_; refine ⟨_, run_load_cell hS _ _ rfl _ _ rfl _ _ (.inl (.tail _ (.head _))) _ Tryz.underlying26 rfl _ (mgk_get' (by omega)), ?_⟩) | (go_at_call 98; (with_reducible refine Gives.use (div32_any _ _ _ hr hl hd) hS ?_); clear hS; intro _ hS) | (refine L_store (t := 26) hS rfl rfl ?_; refine ⟨_, _, mgk 32 (dq a d j), _, _, (.head), run_store_cell hS _ _ _ rfl _ _ rfl _ rfl _ _ _ (.head) size26 rfl rfl ?_ ?_, ?_⟩; (focus (rw [mgk_size]; omega)); (focus (exact (mgk_put' _ (quoL _ _ _) rfl HQ.out).trans (congrArg (mgk 32) HN.out))); clear hS; intro _ hS))
      go_roundw
      case rel => exact ⟨j, by omega, rfl, by rw [HR.out], hS⟩
      case measure => simp [intOf]

/-- What divide gives. -/
def DivGives (n m : Nat) : Prop := Gives Tryz.prog 67 #[.agg (mgk 32 n), .agg (mgk 32 m)] (.tuple #[.agg (mgk 32 (n / m)), .agg (mgk 32 (n % m))])
theorem nl_one {m : Nat} (h0 : 0 < m) (h : m < 4294967296) : nl m = 1 := by
  have : ∀ k, nlG (k + 1) m = 1 := fun k => by
    induction k with
    | zero => exact nlG_not (by rw [limb_small m h, if_pos rfl]; omega)
    | succ k ih => rw [nlG_zero (by rw [limb_small m h, if_neg (by omega)]), ih]
  exact this 31
set_option maxRecDepth 10000 in
set_option maxHeartbeats 1000000 in
theorem divide_one (n m : Nat) (hn : n < pw 32) (h0 : 0 < m) (h : m < 4294967296) : DivGives n m := by
  intro w
  have hS := St.start w
  have HN := Lib.hid hn
  have HL := Lib.hid (nl_one h0 h)
  have hl0 : limb m 0 = m := by rw [limb_small m h, if_pos rfl]
  have G : Gives Tryz.prog 84 #[.agg (mgk 32 m)] (.int .i64 1) := by
    have := limbCount_any m; rwa [HL.out] at this
  obtain ⟨q, hq⟩ : ∃ q, q = n / m := ⟨_, rfl⟩
  obtain ⟨r, hr⟩ : ∃ r, r = n % m := ⟨_, rfl⟩
  have hrb : r < 4294967296 := by have := Nat.mod_lt n h0; omega
  have G2 : Gives Tryz.prog 85 #[.agg (mgk 32 n), .int .u32 ((m : Nat) : Int)] (.tuple #[.agg (mgk 32 q), .int .u32 ((r : Nat) : Int)]) := by
    rw [hq, hr]; exact divideByLimb_any n m hn h0 h
  have HP : Hid (put 0 0 r = r) := by show put 0 0 r = r; rw [put_low r (by rw [pw_zero]; omega), pw_zero]; omega
  rw [← hq, ← hr]
  clear hn h0 h hq hr
  unfold DivGives at *
  go_enter Tryz.func67, Tryz.ntmps67
  go_wp2_with (first | (refine L_box_agg hS rfl rfl ?_; refine ⟨_, rfl, ?_⟩; clear hS; intro _ _ hS) | (refine L_alloc_agg hS rfl rfl ?_; refine ⟨_, zero74, ?_⟩; clear hS; intro _ _ hS) | (refine L_load (t := 74) rfl rfl ?_; refine ⟨_, run_load_row hS _ _ rfl _ rfl _ _ (.inl (.tail _ (.tail _ (.head _)))) _ Tryz.underlying74 rfl (size74_mg _), ?_⟩) | (refine L_load (t := 74) rfl rfl ?_; refine ⟨_, run_load_row hS _ _ rfl _ rfl _ _ (.inl (.tail _ (.tail _ (.tail _ (.head _))))) _ Tryz.underlying74 rfl (size74_mg _), ?_⟩) | (go_at_call 84; (with_reducible refine Gives.use (G) hS ?_); clear hS; intro _ hS) | (refine L_load (t := 26) rfl rfl ?_; refine ⟨_, run_load_cell hS _ _ rfl _ _ rfl _ _ (.inl (.tail _ (.tail _ (.head _)))) _ Tryz.underlying26 rfl _ (mgk_get' (by omega)), ?_⟩) | (go_at_call 85; (with_reducible refine Gives.use (G2) hS ?_); clear hS; intro _ hS) | (refine L_store (t := 74) hS rfl rfl ?_; refine ⟨_, _, _, _, _, (.tail .head), run_store_row hS _ _ _ rfl _ rfl _ _ rfl _ (.tail .head) (size74_mg _) (mg_sizes _ _ _) (oneCells _ _), ?_⟩; clear hS; intro _ hS) | (refine L_store (t := 26) hS rfl rfl ?_; refine ⟨_, _, mgk 32 r, _, _, (.head), run_store_cell hS _ _ _ rfl _ _ rfl _ rfl _ _ _ (.head) size26 rfl rfl ?_ ?_, ?_⟩; (focus (rw [mgk_size]; omega)); (focus (exact (mgk_put' 0 r rfl hrb).trans (congrArg (mgk 32) HP.out))); clear hS; intro _ hS))
  (try simp only [Act.put]); (try simp only [List.setIfInBounds_toArray, List.set_cons_succ, List.set_cons_zero]); refine wp_region_u2 hS 2 3 [1] (.tail (.head (o' := .cells (mgk 32 q) 74))) (.head (o' := .cells (mgk 32 r) 74)) (by kernel_rfl) (by kernel_rfl) ?_
  (refine S_load (t := 74) rfl rfl rfl rfl ?_; refine ⟨_, fun _ hS' => run_load_row hS' _ _ rfl _ rfl _ _ (.inl (.tail _ (.head _))) _ Tryz.underlying74 rfl (size74_mg _), ?_⟩; simp only [Act.put, List.setIfInBounds_toArray, List.set_cons_succ, List.set_cons_zero])
  (refine S_float (t := 74) rfl rfl rfl ?_ (by decide); refine ⟨.agg (mgk 32 (r)), fun q _ hq _ hS' => run_load_row hS' _ _ rfl _ rfl (mgk 32 (r)) 74 (by rcases q with _ | _ | _ | q; (focus exact .inl (.head _)); (focus exact .inl (.head _)); (focus exact .inl (.head _)); exact absurd hq (by simp)) _ Tryz.underlying74 rfl (size74_mg _), ?_⟩; simp only [Act.put, List.setIfInBounds_toArray, List.set_cons_succ, List.set_cons_zero])
  (refine S_store (t := 74) rfl rfl rfl ?_; refine ⟨_, _, _, _, (.tail .head), fun _ hS' => run_store_row hS' _ _ _ rfl _ rfl _ _ rfl _ (.tail .head) (size74_mg _) (mg_sizes _ _ _) (oneCells _ _), ?_⟩; simp only [Act.put])
  (refine S_store (t := 74) rfl rfl rfl ?_; refine ⟨_, _, _, _, (.head), fun _ hS' => run_store_row hS' _ _ _ rfl _ rfl _ _ rfl _ (.head) (size74_mg _) (mg_sizes _ _ _) (oneCells _ _), ?_⟩; simp only [Act.put])
  refine S_end2 ?_; clear hS; intro _ hS
  go_wp2
  (try simp only [Exit.inBlock, Exit.then])
  (try simp only [Exit.inBlock, Exit.then]); refine bodyPost_ret (res_cell_cell rfl _ _ _ _ _ (run_loadRow hS _ _ _ _ (.inl (.tail _ (.head _))) _ Tryz.underlying74 rfl (size74_mg _)) (run_loadRow hS _ _ _ _ (.inl (.head _)) _ Tryz.underlying74 rfl (size74_mg _)) rfl rfl) rfl ⟨?_, hS.below⟩
  rfl

/-- Euclid's quotient and remainder, out of what divide gives. -/
def divR (x y : Int) : Value := .tuple #[.agg (ivZ (x / y)), .agg (ivZ (x % y)), .int .i64 0]
set_option maxRecDepth 100000 in
set_option maxHeartbeats 1000000 in
theorem divMod_plain (s t : Bool) (n m : Nat) (hn : n < pw 32) (hm : m < pw 32) (h0 : 0 < m) (hs : s = false ∨ n % m = 0) (G : DivGives n m) : Gives Tryz.prog 69 #[.agg (iv s n), .agg (iv t m)] (divR (vz s n) (vz t m)) := by
  intro w
  have hS := St.start w
  have HM := Lib.hid hm
  unfold divR
  rw [(divZ_plain (t := t) h0 hs).1, (divZ_plain (t := t) h0 hs).2]
  unfold DivGives at G
  have HZ := isz_false (show m ≠ 0 by omega)
  have HQ : Hid (n / m < pw 32) := Nat.lt_of_le_of_lt (Nat.div_le_self _ _) hn
  have HR : Hid (n % m < pw 32) := Nat.lt_trans (Nat.mod_lt n h0) hm
  have HZ2 : s = false ∨ isz (n % m) = true := hs.imp id isz_true
  generalize n / m = q at *
  generalize n % m = r at *
  have GR : Gives Tryz.prog 68 #[.bool false, .agg (mgk 32 r)] (.agg (ivZ ((r : Nat) : Int))) := signed_any false r HR.out
  clear hn hm h0 hs
  cases s
  · have GQ : Gives Tryz.prog 68 #[.bool t, .agg (mgk 32 q)] (.agg (ivZ (vz (false != t) q))) := by
      have := signed_any t q HQ.out; simpa using this
    clear HZ2
    go_enter Tryz.func69, Tryz.ntmps69
    go_wp2_with (first | (refine L_box_agg hS rfl rfl ?_; refine ⟨_, rfl, ?_⟩; clear hS; intro _ _ hS) | (refine L_alloc_agg hS rfl rfl ?_; refine ⟨_, zero29, ?_⟩; clear hS; intro _ _ hS) | (refine L_alloc_agg hS rfl rfl ?_; refine ⟨_, zero74, ?_⟩; clear hS; intro _ _ hS) | (refine L_load (t := 27) rfl rfl ?_; refine ⟨_, run_load_mid hS _ _ rfl _ _ rfl _ _ (.inl (.tail _ (.tail _ (.head _)))) _ Tryz.underlying27 rfl (mgk 32 _) (size27_mg _) (fun k _ => iv_mag _ _ k), ?_⟩) | (refine L_load (t := 27) rfl rfl ?_; refine ⟨_, run_load_mid hS _ _ rfl _ _ rfl _ _ (.inl (.tail _ (.tail _ (.tail _ (.head _))))) _ Tryz.underlying27 rfl (mgk 32 _) (size27_mg _) (fun k _ => iv_mag _ _ k), ?_⟩) | (refine L_load (t := 4) rfl rfl ?_; refine ⟨_, run_load_cell hS _ _ rfl _ _ rfl _ _ (.inl (.tail _ (.tail _ (.tail _ (.tail _ (.tail _ (.head _))))))) _ Tryz.underlying4 rfl _ (iv_neg _ _), ?_⟩) | (refine L_store (t := 74) hS rfl rfl ?_; refine ⟨_, _, _, _, _, (.tail .head), run_store_row hS _ _ _ rfl _ rfl _ _ rfl _ (.tail .head) (size74_mg _) (mg_sizes _ _ _) (oneCells _ _), ?_⟩; clear hS; intro _ hS) | (refine L_store (t := 74) hS rfl rfl ?_; refine ⟨_, _, _, _, _, (.head), run_store_row hS _ _ _ rfl _ rfl _ _ rfl _ (.head) (size74_mg _) (mg_sizes _ _ _) (oneCells _ _), ?_⟩; clear hS; intro _ hS) | (go_at_call 65; (with_reducible refine Gives.use (isZero _ HM.out) hS ?_); clear hS; intro _ hS) | (go_at_call 67; (with_reducible refine Gives.use (G) hS ?_); clear hS; intro _ hS))
    (try simp only [Act.put]); (try simp only [List.setIfInBounds_toArray, List.set_cons_succ, List.set_cons_zero]); refine wp_region_u2 hS 9 10 [] (.tail (.tail (.tail (.head (o' := .cells (ivZ (vz (false != t) q)) 29))))) (.tail (.tail (.head (o' := .cells (ivZ ((r : Nat) : Int)) 29)))) (by kernel_rfl) (by kernel_rfl) ?_
    (refine S_run rfl rfl ?_; apply Exists.intro; refine ⟨fun _ => ?_, ?_⟩; (focus (go_simp; (try go_bits); exact rfl)); simp only [Act.put, List.setIfInBounds_toArray, List.set_cons_succ, List.set_cons_zero])
    (refine S_load (t := 4) rfl rfl rfl rfl ?_; refine ⟨_, fun _ hS' => run_load_cell hS' _ _ rfl _ _ rfl _ _ (.inl (.tail _ (.tail _ (.tail _ (.tail _ (.tail _ (.head _))))))) _ Tryz.underlying4 rfl _ (iv_neg _ _), ?_⟩; simp only [Act.put, List.setIfInBounds_toArray, List.set_cons_succ, List.set_cons_zero])
    (refine S_run rfl rfl ?_; apply Exists.intro; refine ⟨fun _ => ?_, ?_⟩; (focus (go_simp; (try go_bits); exact rfl)); simp only [Act.put, List.setIfInBounds_toArray, List.set_cons_succ, List.set_cons_zero])
    (refine S_load (t := 4) rfl rfl rfl rfl ?_; refine ⟨_, fun _ hS' => run_load_cell hS' _ _ rfl _ _ rfl _ _ (.inl (.tail _ (.tail _ (.tail _ (.tail _ (.head _)))))) _ Tryz.underlying4 rfl _ (iv_neg _ _), ?_⟩; simp only [Act.put, List.setIfInBounds_toArray, List.set_cons_succ, List.set_cons_zero])
    (refine S_run rfl rfl ?_; apply Exists.intro; refine ⟨fun _ => ?_, ?_⟩; (focus (go_simp; (try go_bits); exact rfl)); simp only [Act.put, List.setIfInBounds_toArray, List.set_cons_succ, List.set_cons_zero])
    (refine S_load (t := 74) rfl rfl rfl rfl ?_; refine ⟨_, fun _ hS' => run_load_row hS' _ _ rfl _ rfl _ _ (.inl (.tail _ (.head _))) _ Tryz.underlying74 rfl (size74_mg _), ?_⟩; simp only [Act.put, List.setIfInBounds_toArray, List.set_cons_succ, List.set_cons_zero])
    (refine S_call 68 rfl rfl rfl rfl ?_; apply Exists.intro; refine ⟨fun _ => ?_, ?_⟩; (focus (go_simp; exact rfl)); apply Exists.intro; (with_reducible refine ⟨GQ, ?_⟩); simp only [Act.put, List.setIfInBounds_toArray, List.set_cons_succ, List.set_cons_zero])
    (refine S_load (t := 74) rfl rfl rfl rfl ?_; refine ⟨_, fun _ hS' => run_load_row hS' _ _ rfl _ rfl _ _ (.inl (.head _)) _ Tryz.underlying74 rfl (size74_mg _), ?_⟩; simp only [Act.put, List.setIfInBounds_toArray, List.set_cons_succ, List.set_cons_zero])
    (refine S_call 68 rfl rfl rfl rfl ?_; apply Exists.intro; refine ⟨fun _ => ?_, ?_⟩; (focus (go_simp; exact rfl)); apply Exists.intro; (with_reducible refine ⟨GR, ?_⟩); simp only [Act.put, List.setIfInBounds_toArray, List.set_cons_succ, List.set_cons_zero])
    (refine S_store (t := 29) rfl rfl rfl ?_; refine ⟨_, _, _, _, (.tail (.tail (.tail .head))), fun _ hS' => run_store_row hS' _ _ _ rfl _ rfl _ _ rfl _ (.tail (.tail (.tail .head))) (size29_iv _ _) (iv_sizes _ _ _ _) (oneCells_iv _ _), ?_⟩; simp only [Act.put])
    (refine S_store (t := 29) rfl rfl rfl ?_; refine ⟨_, _, _, _, (.tail (.tail .head)), fun _ hS' => run_store_row hS' _ _ _ rfl _ rfl _ _ rfl _ (.tail (.tail .head)) (size29_iv _ _) (iv_sizes _ _ _ _) (oneCells_iv _ _), ?_⟩; simp only [Act.put])
    (refine S_run rfl rfl ?_; apply Exists.intro; refine ⟨fun _ => ?_, ?_⟩; (focus (go_simp; (try go_bits); exact rfl)); simp only [Act.put, List.setIfInBounds_toArray, List.set_cons_succ, List.set_cons_zero])
    refine S_end2 ?_; clear hS; intro _ hS
    go_wp2
    (try simp only [Exit.inBlock, Exit.then]); refine bodyPost_ret (res_cell_cell_tmp rfl _ _ _ _ _ (run_loadRow hS _ _ _ _ (.inl (.tail _ (.tail _ (.tail _ (.head _))))) _ Tryz.underlying29 rfl (size29_iv _ _)) (run_loadRow hS _ _ _ _ (.inl (.tail _ (.tail _ (.head _)))) _ Tryz.underlying29 rfl (size29_iv _ _)) rfl rfl _ rfl) rfl ⟨?_, hS.below⟩
    rfl
  · have GQ : Gives Tryz.prog 68 #[.bool !t, .agg (mgk 32 q)] (.agg (ivZ (vz (true != t) q))) := by
      have := signed_any (!t) q HQ.out; simpa using this
    have HZ3 : isz r = true := HZ2.resolve_left (by simp)
    clear HZ2
    go_enter Tryz.func69, Tryz.ntmps69
    go_wp2_with (first | (refine L_box_agg hS rfl rfl ?_; refine ⟨_, rfl, ?_⟩; clear hS; intro _ _ hS) | (refine L_alloc_agg hS rfl rfl ?_; refine ⟨_, zero29, ?_⟩; clear hS; intro _ _ hS) | (refine L_alloc_agg hS rfl rfl ?_; refine ⟨_, zero74, ?_⟩; clear hS; intro _ _ hS) | (refine L_load (t := 27) rfl rfl ?_; refine ⟨_, run_load_mid hS _ _ rfl _ _ rfl _ _ (.inl (.tail _ (.tail _ (.head _)))) _ Tryz.underlying27 rfl (mgk 32 _) (size27_mg _) (fun k _ => iv_mag _ _ k), ?_⟩) | (refine L_load (t := 27) rfl rfl ?_; refine ⟨_, run_load_mid hS _ _ rfl _ _ rfl _ _ (.inl (.tail _ (.tail _ (.tail _ (.head _))))) _ Tryz.underlying27 rfl (mgk 32 _) (size27_mg _) (fun k _ => iv_mag _ _ k), ?_⟩) | (refine L_load (t := 4) rfl rfl ?_; refine ⟨_, run_load_cell hS _ _ rfl _ _ rfl _ _ (.inl (.tail _ (.tail _ (.tail _ (.tail _ (.tail _ (.head _))))))) _ Tryz.underlying4 rfl _ (iv_neg _ _), ?_⟩) | (refine L_load (t := 74) rfl rfl ?_; refine ⟨_, run_load_row hS _ _ rfl _ rfl _ _ (.inl (.head _)) _ Tryz.underlying74 rfl (size74_mg _), ?_⟩) | (refine L_store (t := 74) hS rfl rfl ?_; refine ⟨_, _, _, _, _, (.tail .head), run_store_row hS _ _ _ rfl _ rfl _ _ rfl _ (.tail .head) (size74_mg _) (mg_sizes _ _ _) (oneCells _ _), ?_⟩; clear hS; intro _ hS) | (refine L_store (t := 74) hS rfl rfl ?_; refine ⟨_, _, _, _, _, (.head), run_store_row hS _ _ _ rfl _ rfl _ _ rfl _ (.head) (size74_mg _) (mg_sizes _ _ _) (oneCells _ _), ?_⟩; clear hS; intro _ hS) | (go_at_call 65; (with_reducible refine Gives.use (isZero _ HM.out) hS ?_); clear hS; intro _ hS) | (go_at_call 65; (with_reducible refine Gives.use (isZero _ HR.out) hS ?_); clear hS; intro _ hS) | (go_at_call 67; (with_reducible refine Gives.use (G) hS ?_); clear hS; intro _ hS))
    (try simp only [Act.put]); (try simp only [List.setIfInBounds_toArray, List.set_cons_succ, List.set_cons_zero]); refine wp_region_u2 hS 9 10 [] (.tail (.tail (.tail (.head (o' := .cells (ivZ (vz (true != t) q)) 29))))) (.tail (.tail (.head (o' := .cells (ivZ ((r : Nat) : Int)) 29)))) (by kernel_rfl) (by kernel_rfl) ?_
    (refine S_run rfl rfl ?_; apply Exists.intro; refine ⟨fun _ => ?_, ?_⟩; (focus (go_simp; (try go_bits); exact rfl)); simp only [Act.put, List.setIfInBounds_toArray, List.set_cons_succ, List.set_cons_zero])
    (refine S_load (t := 4) rfl rfl rfl rfl ?_; refine ⟨_, fun _ hS' => run_load_cell hS' _ _ rfl _ _ rfl _ _ (.inl (.tail _ (.tail _ (.tail _ (.tail _ (.tail _ (.head _))))))) _ Tryz.underlying4 rfl _ (iv_neg _ _), ?_⟩; simp only [Act.put, List.setIfInBounds_toArray, List.set_cons_succ, List.set_cons_zero])
    (refine S_run rfl rfl ?_; apply Exists.intro; refine ⟨fun _ => ?_, ?_⟩; (focus (go_simp; (try go_bits); exact rfl)); simp only [Act.put, List.setIfInBounds_toArray, List.set_cons_succ, List.set_cons_zero])
    (refine S_load (t := 4) rfl rfl rfl rfl ?_; refine ⟨_, fun _ hS' => run_load_cell hS' _ _ rfl _ _ rfl _ _ (.inl (.tail _ (.tail _ (.tail _ (.tail _ (.head _)))))) _ Tryz.underlying4 rfl _ (iv_neg _ _), ?_⟩; simp only [Act.put, List.setIfInBounds_toArray, List.set_cons_succ, List.set_cons_zero])
    (refine S_run rfl rfl ?_; apply Exists.intro; refine ⟨fun _ => ?_, ?_⟩; (focus (go_simp; (try go_bits); exact rfl)); simp only [Act.put, List.setIfInBounds_toArray, List.set_cons_succ, List.set_cons_zero])
    (refine S_load (t := 74) rfl rfl rfl rfl ?_; refine ⟨_, fun _ hS' => run_load_row hS' _ _ rfl _ rfl _ _ (.inl (.tail _ (.head _))) _ Tryz.underlying74 rfl (size74_mg _), ?_⟩; simp only [Act.put, List.setIfInBounds_toArray, List.set_cons_succ, List.set_cons_zero])
    (refine S_call 68 rfl rfl rfl rfl ?_; apply Exists.intro; refine ⟨fun _ => ?_, ?_⟩; (focus (go_simp; exact rfl)); apply Exists.intro; (with_reducible refine ⟨GQ, ?_⟩); simp only [Act.put, List.setIfInBounds_toArray, List.set_cons_succ, List.set_cons_zero])
    (refine S_load (t := 74) rfl rfl rfl rfl ?_; refine ⟨_, fun _ hS' => run_load_row hS' _ _ rfl _ rfl _ _ (.inl (.head _)) _ Tryz.underlying74 rfl (size74_mg _), ?_⟩; simp only [Act.put, List.setIfInBounds_toArray, List.set_cons_succ, List.set_cons_zero])
    (refine S_call 68 rfl rfl rfl rfl ?_; apply Exists.intro; refine ⟨fun _ => ?_, ?_⟩; (focus (go_simp; exact rfl)); apply Exists.intro; (with_reducible refine ⟨GR, ?_⟩); simp only [Act.put, List.setIfInBounds_toArray, List.set_cons_succ, List.set_cons_zero])
    (refine S_store (t := 29) rfl rfl rfl ?_; refine ⟨_, _, _, _, (.tail (.tail (.tail .head))), fun _ hS' => run_store_row hS' _ _ _ rfl _ rfl _ _ rfl _ (.tail (.tail (.tail .head))) (size29_iv _ _) (iv_sizes _ _ _ _) (oneCells_iv _ _), ?_⟩; simp only [Act.put])
    (refine S_store (t := 29) rfl rfl rfl ?_; refine ⟨_, _, _, _, (.tail (.tail .head)), fun _ hS' => run_store_row hS' _ _ _ rfl _ rfl _ _ rfl _ (.tail (.tail .head)) (size29_iv _ _) (iv_sizes _ _ _ _) (oneCells_iv _ _), ?_⟩; simp only [Act.put])
    (refine S_run rfl rfl ?_; apply Exists.intro; refine ⟨fun _ => ?_, ?_⟩; (focus (go_simp; (try go_bits); exact rfl)); simp only [Act.put, List.setIfInBounds_toArray, List.set_cons_succ, List.set_cons_zero])
    refine S_end2 ?_; clear hS; intro _ hS
    go_wp2
    (try simp only [Exit.inBlock, Exit.then]); refine bodyPost_ret (res_cell_cell_tmp rfl _ _ _ _ _ (run_loadRow hS _ _ _ _ (.inl (.tail _ (.tail _ (.tail _ (.head _))))) _ Tryz.underlying29 rfl (size29_iv _ _)) (run_loadRow hS _ _ _ _ (.inl (.tail _ (.tail _ (.head _)))) _ Tryz.underlying29 rfl (size29_iv _ _)) rfl rfl _ rfl) rfl ⟨?_, hS.below⟩
    rfl

set_option maxRecDepth 100000 in
set_option maxHeartbeats 1000000 in
theorem divMod_more (t : Bool) (n m : Nat) (hn : n < pw 32) (hm : m < pw 32) (h0 : 0 < m) (hr : n % m ≠ 0) (G : DivGives n m) : Gives Tryz.prog 69 #[.agg (iv true n), .agg (iv t m)] (divR (vz true n) (vz t m)) := by
  intro w
  have hS := St.start w
  have HM := Lib.hid hm
  unfold divR
  rw [(divZ_more (t := t) h0 hr).1, (divZ_more (t := t) h0 hr).2]
  unfold DivGives at G
  have HZ := isz_false (show m ≠ 0 by omega)
  have hq1 := div_room hn h0 hr
  have HQ := Lib.hid hq1
  have HR : Hid (n % m < pw 32) := Nat.lt_trans (Nat.mod_lt n h0) hm
  have HZ3 : isz (n % m) = false := isz_false hr
  have HE : Hid (n % m ≤ m) := Nat.le_of_lt (Nat.mod_lt n h0)
  have GP : Gives Tryz.prog 87 #[.agg (mgk 32 (n / m)), .agg (mgk 32 1)] (.tuple #[.agg (mgk 32 (n / m + 1)), .bool true]) := by
    have := plus (n / m) 1 (by omega) (by have := pw_lt (show 0 < 32 by omega); rw [pw_zero] at this; omega)
    rwa [Nat.mod_eq_of_lt hq1, decide_eq_true hq1] at this
  generalize n / m = q at *
  generalize n % m = r at *
  obtain ⟨q', hq'⟩ : ∃ q', q' = q + 1 := ⟨_, rfl⟩
  obtain ⟨r', hr'⟩ : ∃ r', r' = m - r := ⟨_, rfl⟩
  have GM : Gives Tryz.prog 88 #[.agg (mgk 32 m), .agg (mgk 32 r)] (.agg (mgk 32 r')) := by rw [hr']; exact minus m r HM.out HE.out
  have GR : Gives Tryz.prog 68 #[.bool false, .agg (mgk 32 r')] (.agg (ivZ ((r' : Nat) : Int))) := signed_any false r' (by have := HM.out; omega)
  have GQ : Gives Tryz.prog 68 #[.bool !t, .agg (mgk 32 q')] (.agg (ivZ (vz (true != t) q'))) := by
    have := signed_any (!t) q' (by rw [hq']; exact HQ.out); simpa using this
  rw [← hq'] at GP
  rw [← hq', ← hr']
  clear hn hm h0 hr hq1 HQ hq' hr' HE
  · go_enter Tryz.func69, Tryz.ntmps69
    go_wp2_with (first | (refine L_box_agg hS rfl rfl ?_; refine ⟨_, rfl, ?_⟩; clear hS; intro _ _ hS) | (refine L_alloc_agg hS rfl rfl ?_; refine ⟨_, zero29, ?_⟩; clear hS; intro _ _ hS) | (refine L_alloc_agg hS rfl rfl ?_; refine ⟨_, zero74, ?_⟩; clear hS; intro _ _ hS) | (refine L_load (t := 27) rfl rfl ?_; refine ⟨_, run_load_mid hS _ _ rfl _ _ rfl _ _ (.inl (.tail _ (.tail _ (.head _)))) _ Tryz.underlying27 rfl (mgk 32 _) (size27_mg _) (fun k _ => iv_mag _ _ k), ?_⟩) | (refine L_load (t := 27) rfl rfl ?_; refine ⟨_, run_load_mid hS _ _ rfl _ _ rfl _ _ (.inl (.tail _ (.tail _ (.tail _ (.head _))))) _ Tryz.underlying27 rfl (mgk 32 _) (size27_mg _) (fun k _ => iv_mag _ _ k), ?_⟩) | (refine L_load (t := 27) rfl rfl ?_; refine ⟨_, run_load_mid hS _ _ rfl _ _ rfl _ _ (.inl (.tail _ (.tail _ (.tail _ (.tail _ (.head _)))))) _ Tryz.underlying27 rfl (mgk 32 _) (size27_mg _) (fun k _ => iv_mag _ _ k), ?_⟩) | (refine L_load (t := 4) rfl rfl ?_; refine ⟨_, run_load_cell hS _ _ rfl _ _ rfl _ _ (.inl (.tail _ (.tail _ (.tail _ (.tail _ (.tail _ (.head _))))))) _ Tryz.underlying4 rfl _ (iv_neg _ _), ?_⟩) | (refine L_load (t := 74) rfl rfl ?_; refine ⟨_, run_load_row hS _ _ rfl _ rfl _ _ (.inl (.head _)) _ Tryz.underlying74 rfl (size74_mg _), ?_⟩) | (refine L_load (t := 74) rfl rfl ?_; refine ⟨_, run_load_row hS _ _ rfl _ rfl _ _ (.inl (.tail _ (.head _))) _ Tryz.underlying74 rfl (size74_mg _), ?_⟩) | (refine L_store (t := 74) hS rfl rfl ?_; refine ⟨_, _, _, _, _, (.tail .head), run_store_row hS _ _ _ rfl _ rfl _ _ rfl _ (.tail .head) (size74_mg _) (mg_sizes _ _ _) (oneCells _ _), ?_⟩; clear hS; intro _ hS) | (refine L_store (t := 74) hS rfl rfl ?_; refine ⟨_, _, _, _, _, (.head), run_store_row hS _ _ _ rfl _ rfl _ _ rfl _ (.head) (size74_mg _) (mg_sizes _ _ _) (oneCells _ _), ?_⟩; clear hS; intro _ hS) | (refine L_build rfl rfl ?_; refine ⟨_, built74_one 1 1 rfl (by omega), ?_⟩) | (go_at_call 65; (with_reducible refine Gives.use (isZero _ HM.out) hS ?_); clear hS; intro _ hS) | (go_at_call 65; (with_reducible refine Gives.use (isZero _ HR.out) hS ?_); clear hS; intro _ hS) | (go_at_call 67; (with_reducible refine Gives.use (G) hS ?_); clear hS; intro _ hS) | (go_at_call 87; (with_reducible refine Gives.use (GP) hS ?_); clear hS; intro _ hS) | (go_at_call 88; (with_reducible refine Gives.use (GM) hS ?_); clear hS; intro _ hS))
    (try simp only [Act.put]); (try simp only [List.setIfInBounds_toArray, List.set_cons_succ, List.set_cons_zero]); refine wp_region_u2 hS 9 10 [] (.tail (.tail (.tail (.head (o' := .cells (ivZ (vz (true != t) q')) 29))))) (.tail (.tail (.head (o' := .cells (ivZ ((r' : Nat) : Int)) 29)))) (by kernel_rfl) (by kernel_rfl) ?_
    (refine S_run rfl rfl ?_; apply Exists.intro; refine ⟨fun _ => ?_, ?_⟩; (focus (go_simp; (try go_bits); exact rfl)); simp only [Act.put, List.setIfInBounds_toArray, List.set_cons_succ, List.set_cons_zero])
    (refine S_load (t := 4) rfl rfl rfl rfl ?_; refine ⟨_, fun _ hS' => run_load_cell hS' _ _ rfl _ _ rfl _ _ (.inl (.tail _ (.tail _ (.tail _ (.tail _ (.tail _ (.head _))))))) _ Tryz.underlying4 rfl _ (iv_neg _ _), ?_⟩; simp only [Act.put, List.setIfInBounds_toArray, List.set_cons_succ, List.set_cons_zero])
    (refine S_run rfl rfl ?_; apply Exists.intro; refine ⟨fun _ => ?_, ?_⟩; (focus (go_simp; (try go_bits); exact rfl)); simp only [Act.put, List.setIfInBounds_toArray, List.set_cons_succ, List.set_cons_zero])
    (refine S_load (t := 4) rfl rfl rfl rfl ?_; refine ⟨_, fun _ hS' => run_load_cell hS' _ _ rfl _ _ rfl _ _ (.inl (.tail _ (.tail _ (.tail _ (.tail _ (.head _)))))) _ Tryz.underlying4 rfl _ (iv_neg _ _), ?_⟩; simp only [Act.put, List.setIfInBounds_toArray, List.set_cons_succ, List.set_cons_zero])
    (refine S_run rfl rfl ?_; apply Exists.intro; refine ⟨fun _ => ?_, ?_⟩; (focus (go_simp; (try go_bits); exact rfl)); simp only [Act.put, List.setIfInBounds_toArray, List.set_cons_succ, List.set_cons_zero])
    (refine S_load (t := 74) rfl rfl rfl rfl ?_; refine ⟨_, fun _ hS' => run_load_row hS' _ _ rfl _ rfl _ _ (.inl (.tail _ (.head _))) _ Tryz.underlying74 rfl (size74_mg _), ?_⟩; simp only [Act.put, List.setIfInBounds_toArray, List.set_cons_succ, List.set_cons_zero])
    (refine S_call 68 rfl rfl rfl rfl ?_; apply Exists.intro; refine ⟨fun _ => ?_, ?_⟩; (focus (go_simp; exact rfl)); apply Exists.intro; (with_reducible refine ⟨GQ, ?_⟩); simp only [Act.put, List.setIfInBounds_toArray, List.set_cons_succ, List.set_cons_zero])
    (refine S_load (t := 74) rfl rfl rfl rfl ?_; refine ⟨_, fun _ hS' => run_load_row hS' _ _ rfl _ rfl _ _ (.inl (.head _)) _ Tryz.underlying74 rfl (size74_mg _), ?_⟩; simp only [Act.put, List.setIfInBounds_toArray, List.set_cons_succ, List.set_cons_zero])
    (refine S_call 68 rfl rfl rfl rfl ?_; apply Exists.intro; refine ⟨fun _ => ?_, ?_⟩; (focus (go_simp; exact rfl)); apply Exists.intro; (with_reducible refine ⟨GR, ?_⟩); simp only [Act.put, List.setIfInBounds_toArray, List.set_cons_succ, List.set_cons_zero])
    (refine S_store (t := 29) rfl rfl rfl ?_; refine ⟨_, _, _, _, (.tail (.tail (.tail .head))), fun _ hS' => run_store_row hS' _ _ _ rfl _ rfl _ _ rfl _ (.tail (.tail (.tail .head))) (size29_iv _ _) (iv_sizes _ _ _ _) (oneCells_iv _ _), ?_⟩; simp only [Act.put])
    (refine S_store (t := 29) rfl rfl rfl ?_; refine ⟨_, _, _, _, (.tail (.tail .head)), fun _ hS' => run_store_row hS' _ _ _ rfl _ rfl _ _ rfl _ (.tail (.tail .head)) (size29_iv _ _) (iv_sizes _ _ _ _) (oneCells_iv _ _), ?_⟩; simp only [Act.put])
    (refine S_run rfl rfl ?_; apply Exists.intro; refine ⟨fun _ => ?_, ?_⟩; (focus (go_simp; (try go_bits); exact rfl)); simp only [Act.put, List.setIfInBounds_toArray, List.set_cons_succ, List.set_cons_zero])
    refine S_end2 ?_; clear hS; intro _ hS
    go_wp2
    (try simp only [Exit.inBlock, Exit.then]); refine bodyPost_ret (res_cell_cell_tmp rfl _ _ _ _ _ (run_loadRow hS _ _ _ _ (.inl (.tail _ (.tail _ (.tail _ (.head _))))) _ Tryz.underlying29 rfl (size29_iv _ _)) (run_loadRow hS _ _ _ _ (.inl (.tail _ (.tail _ (.head _)))) _ Tryz.underlying29 rfl (size29_iv _ _)) rfl rfl _ rfl) rfl ⟨?_, hS.below⟩
    rfl

theorem divMod_of (s t : Bool) (n m : Nat) (hn : n < pw 32) (hm : m < pw 32) (h0 : 0 < m) (G : DivGives n m) : Gives Tryz.prog 69 #[.agg (iv s n), .agg (iv t m)] (divR (vz s n) (vz t m)) := by
  by_cases hs : s = false ∨ n % m = 0
  · exact divMod_plain s t n m hn hm h0 hs G
  · have : s = true := by cases s <;> simp_all
    subst this
    exact divMod_more t n m hn hm h0 (fun h => hs (.inr h)) G
end Go.Proofs.YtfdlgeomaballaaGreat
