/- Merged: Tg, Th, Tu, Ty, Yq, Yx, Va, Hb, Hc, Hd, Hf, Hg, Hi, Sf, Hj, Hm, Hk, Tr, Ua, Ub, Vn, Vm, Vl. -/
import Derived.Test.YtkiefjbfepjcbaaGreatDoorDrf
import Derived.Test.YtkiefjbfepjcbaaGreatDoorProg
import Derived.Test.YtkiefjbfepjcbaaGreatDoorDrc
import Derived.Test.YtkiefjbfepjcbaaGreatDoorDrd
import Derived.Shelf.LaysM
import Derived.Shelf.Strconv.Itoa3
import Derived.Shelf.Strings.Search2
import Derived.Shelf.Bits.Mul64
import Derived.Shelf.Strings.Repeat
import Derived.LaidMore
import Derived.Stop.LaidErr
import Derived.Stop.Joined
import Derived.Test.YtkiefjbfepjcbaaGreatDoorDre
section
namespace Go.Proofs.YtkiefjbfepjcbaaGreatDoor
open Go.RowKit Go.Proofs.YtkiefjbfepjcbaaGreatDoor.Sx
set_option linter.unusedSimpArgs false
set_option linter.unusedVariables false

theorem sgn_lt (z : Int) : sgn z < 0 ↔ z < 0 := by unfold sgn; split <;> (try split) <;> omega
theorem quo_neg {y : Int} {g : Nat} (hg : 0 < g) (hd : (g : Int) ∣ y) : y / (g : Int) < 0 ↔ y < 0 := by
  obtain ⟨q, rfl⟩ := hd
  rw [Int.mul_ediv_cancel_left _ (by omega)]
  constructor
  · intro h; exact Int.mul_neg_of_pos_of_neg (by omega) h
  · intro h
    by_cases h2 : q < 0
    · exact h2
    · have := Int.mul_nonneg (show (0 : Int) ≤ (g : Int) by omega) (show 0 ≤ q by omega)
      omega
theorem dvd_vz {g n : Nat} (s : Bool) (h : g ∣ n) : ((g : Nat) : Int) ∣ vz s n := by
  have : ((g : Nat) : Int) ∣ (n : Int) := Int.natCast_dvd_natCast.2 h
  unfold vz; split
  · exact (Int.dvd_neg).2 this
  · exact this
theorem rsign_Z (z : Int) (hz : z.natAbs < pw 32) : Gives Tryz.prog 54 #[.agg (ivZ z)] (.int .i64 (sgn z)) := by
  have := rsign_any (decide (z < 0)) z.natAbs hz
  rwa [vz_self] at this
theorem rneg_Z (z : Int) (hz : z.natAbs < pw 32) : Gives Tryz.prog 123 #[.agg (ivZ z)] (.agg (ivZ (-z))) := by
  have := rneg_any (decide (z < 0)) z.natAbs hz
  rwa [vz_self] at this
theorem rbits_Z (z : Int) (hz : z.natAbs < pw 32) : Gives Tryz.prog 109 #[.agg (ivZ z)] (.int .i64 ((bl z.natAbs : Nat) : Int)) := rbits_any (decide (z < 0)) z.natAbs hz
set_option maxHeartbeats 2000000 in
theorem dMake (s t : Bool) (n m : Nat) (hn : n < pw 32) (hm : m < pw 32) : Gives Tryz.prog 65 #[.agg (iv s n), .agg (iv t m)] (mkv (vz s n) (vz t m) (Nat.gcd n m)) := by
  have hsg := rsign_any t m hm
  have hg := rgcd_any s t n m hn hm
  have hgl := gcd_lt hn hm
  have hz := vsgn_zero t m
  obtain ⟨k, hk⟩ : ∃ c, c = sgn (vz t m) := ⟨_, rfl⟩
  rw [← hk] at hsg hz
  have hmain : ∀ v, v = mkv (vz s n) (vz t m) (Nat.gcd n m) → tdMake.den Tryz.prog (fun ρ' ret => ∀ β, ret.val.den (env ρ') β = v) [.bool s, .agg (mgk 32 n), .bool t, .agg (mgk 32 m)] := by
    intro v hv
    unfold mkv at hv
    refine tree_ite ?_
    refine ev_zc [.int .i64 k] (pure_gives (hsg)) ?_
    refine ev_nil ⟨fun h => tree_leaf (ev_nil fun β => ?_), fun h => tree_ite ?_⟩
    · have h : k = 0 := by simpa [BTm.den, Tm.i, Tm.s, Tm.den, env, vInt, vBool, vStr, exI] using h
      have hm0 : m = 0 := hz.1 h
      have : vz t m = 0 := by rw [hm0]; cases t <;> rfl
      rw [if_pos this] at hv
      rw [hv, ← zero_rat]; simp [BTm.den, Tm.i, Tm.s, Tm.den, env, vInt, vBool, vStr, exI, SW.den, SV.den, Cell.den, densP, Piece.den, denV, denT]
    have h : k ≠ 0 := by simpa [BTm.den, Tm.i, Tm.s, Tm.den, env, vInt, vBool, vStr, exI] using h
    have hm0 : m ≠ 0 := fun h2 => h (hz.2 h2)
    have hy0 : vz t m ≠ 0 := vz_ne (by omega)
    rw [if_neg hy0] at hv
    have hgp : 0 < Nat.gcd n m := Nat.gcd_pos_of_pos_right _ (by omega)
    have hdx := dvd_vz s (Nat.gcd_dvd_left n m)
    have hdy := dvd_vz t (Nat.gcd_dvd_right n m)
    have hxl := quo_lt (by rw [vz_abs]; exact hn) hgp hdx
    have hyl := quo_lt (by rw [vz_abs]; exact hm) hgp hdy
    have hgl' : Nat.gcd n m < pw 32 := by simpa using hgl
    have ho1 := rdivMod_any s false n (Nat.gcd n m) hn hgl' hgp
    have ho2 := rdivMod_any t false m (Nat.gcd n m) hm hgl' hgp
    unfold divR at ho1 ho2
    have hneg := quo_neg hgp hdy
    obtain ⟨x, hx⟩ : ∃ c, c = vz s n := ⟨_, rfl⟩
    obtain ⟨y, hy⟩ : ∃ c, c = vz t m := ⟨_, rfl⟩
    rw [← hx] at hxl hdx ho1 hv
    rw [← hy] at hyl hdy ho2 hv hneg
    obtain ⟨g, hgg⟩ : ∃ c, c = Nat.gcd n m := ⟨_, rfl⟩
    rw [← hgg] at hg hxl hyl ho1 ho2 hv hgp hgl' hneg
    have e2 : vz false g = (g : Int) := rfl
    have hgd : decide ((g : Int) < 0) = false := decide_eq_false (by omega)
    have hgiv : ivZ ((g : Nat) : Int) = iv false g := by unfold ivZ; rw [hgd]; rfl
    rw [hgiv] at hg
    rw [e2] at ho1 ho2
    unfold mkN at hv
    obtain ⟨a, ha⟩ : ∃ c, c = (x / (g : Int)) := ⟨_, rfl⟩
    obtain ⟨b, hb⟩ : ∃ c, c = (y / (g : Int)) := ⟨_, rfl⟩
    obtain ⟨a', ha'⟩ : ∃ c, c = (x % (g : Int)) := ⟨_, rfl⟩
    obtain ⟨b', hb'⟩ : ∃ c, c = (y % (g : Int)) := ⟨_, rfl⟩
    rw [← ha, ← ha'] at ho1
    rw [← hb, ← hb'] at ho2
    rw [← ha] at hxl hv
    rw [← hb] at hyl hv hneg
    have hsb := rsign_Z b hyl
    have hsl := sgn_lt b
    obtain ⟨k2, hk2⟩ : ∃ c, c = sgn b := ⟨_, rfl⟩
    rw [← hk2] at hsb hsl
    refine ev_zc [.bool false, .agg (mgk 32 g)] (pure_gives (hg)) ?_
    refine ev_zc [.bool (decide (a < 0)), .agg (mgk 32 (a : Int).natAbs), .bool (decide (a' < 0)), .agg (mgk 32 (a' : Int).natAbs), .int .i64 0] (pure_gives (ho1)) ?_
    refine ev_zc [.bool (decide (b < 0)), .agg (mgk 32 (b : Int).natAbs), .bool (decide (b' < 0)), .agg (mgk 32 (b' : Int).natAbs), .int .i64 0] (pure_gives (ho2)) ?_
    refine ev_zc [.int .i64 k2] (pure_gives (hsb)) ?_
    refine ev_nil ⟨fun h2 => tree_ite ?_, fun h2 => tree_ite ?_⟩
    · have h2 : k2 < 0 := by simpa [BTm.den, Tm.i, Tm.s, Tm.den, env, vInt, vBool, vStr, exI] using h2
      have h3 : y < 0 := hneg.1 (hsl.1 h2)
      rw [if_pos h3, if_pos h3] at hv
      have hna := rneg_Z a hxl
      have hnb := rneg_Z b hyl
      have hxl' : (-a).natAbs < pw 32 := by rw [Int.natAbs_neg]; exact hxl
      have hyl' : (-b).natAbs < pw 32 := by rw [Int.natAbs_neg]; exact hyl
      obtain ⟨c, hc⟩ : ∃ c, c = -a := ⟨_, rfl⟩
      obtain ⟨d, hd⟩ : ∃ c, c = -b := ⟨_, rfl⟩
      rw [← hc] at hna hxl' hv
      rw [← hd] at hnb hyl' hv
      have hba := rbits_Z c hxl'
      have hbb := rbits_Z d hyl'
      unfold mkF at hv
      obtain ⟨p, hp⟩ : ∃ p, p = bl c.natAbs := ⟨_, rfl⟩
      obtain ⟨q, hq⟩ : ∃ p, p = bl d.natAbs := ⟨_, rfl⟩
      rw [← hp] at hba hv
      rw [← hq] at hbb hv
      refine ev_zc [.bool (decide (c < 0)), .agg (mgk 32 (c : Int).natAbs)] (pure_gives (hna)) ?_
      refine ev_zc [.bool (decide (d < 0)), .agg (mgk 32 (d : Int).natAbs)] (pure_gives (hnb)) ?_
      refine ev_zc [.int .i64 (p : Nat)] (pure_gives (hba)) ?_
      refine ev_nil ⟨fun h5 => tree_leaf (ev_nil fun β => ?_), fun h5 => tree_ite ?_⟩
      · have h5 : (480 : Int) < p := by simpa [BTm.den, Tm.i, Tm.s, Tm.den, env, vInt, vBool, vStr, exI] using h5
        rw [decide_eq_false (p := p ≤ 480) (by omega), if_neg (by simp)] at hv
        rw [hv, ← zero_rat]; simp [BTm.den, Tm.i, Tm.s, Tm.den, env, vInt, vBool, vStr, exI, SW.den, SV.den, Cell.den, densP, Piece.den, denV, denT]
      have h5 : ¬ (480 : Int) < p := by simpa [BTm.den, Tm.i, Tm.s, Tm.den, env, vInt, vBool, vStr, exI] using h5
      rw [decide_eq_true (p := p ≤ 480) (by omega)] at hv
      refine ev_zc [.int .i64 (q : Nat)] (pure_gives (hbb)) ?_
      refine ev_nil ⟨fun h6 => tree_leaf (ev_nil fun β => ?_), fun h6 => tree_leaf (ev_nil fun β => ?_)⟩
      · have h6 : (480 : Int) < q := by simpa [BTm.den, Tm.i, Tm.s, Tm.den, env, vInt, vBool, vStr, exI] using h6
        rw [decide_eq_false (p := q ≤ 480) (by omega), if_neg (by simp)] at hv
        rw [hv, ← zero_rat]; simp [BTm.den, Tm.i, Tm.s, Tm.den, env, vInt, vBool, vStr, exI, SW.den, SV.den, Cell.den, densP, Piece.den, denV, denT]
      · have h6 : ¬ (480 : Int) < q := by simpa [BTm.den, Tm.i, Tm.s, Tm.den, env, vInt, vBool, vStr, exI] using h6
        rw [decide_eq_true (p := q ≤ 480) (by omega), if_pos (by simp)] at hv
        rw [hv]; simp [BTm.den, Tm.i, Tm.s, Tm.den, env, vInt, vBool, vStr, exI, SW.den, SV.den, Cell.den, densP, Piece.den, denV, rowCells_mgk, iv_list, rv_list, ivZ, rvZ, mgl_agg]
    · have h2 : ¬ k2 < 0 := by simpa [BTm.den, Tm.i, Tm.s, Tm.den, env, vInt, vBool, vStr, exI] using h2
      have h3 : ¬ y < 0 := fun h => h2 (hsl.2 (hneg.2 h))
      rw [if_neg h3, if_neg h3] at hv
      have hba := rbits_Z a hxl
      have hbb := rbits_Z b hyl
      unfold mkF at hv
      obtain ⟨p, hp⟩ : ∃ p, p = bl a.natAbs := ⟨_, rfl⟩
      obtain ⟨q, hq⟩ : ∃ p, p = bl b.natAbs := ⟨_, rfl⟩
      rw [← hp] at hba hv
      rw [← hq] at hbb hv
      refine ev_zc [.int .i64 (p : Nat)] (pure_gives (hba)) ?_
      refine ev_nil ⟨fun h5 => tree_leaf (ev_nil fun β => ?_), fun h5 => tree_ite ?_⟩
      · have h5 : (480 : Int) < p := by simpa [BTm.den, Tm.i, Tm.s, Tm.den, env, vInt, vBool, vStr, exI] using h5
        rw [decide_eq_false (p := p ≤ 480) (by omega), if_neg (by simp)] at hv
        rw [hv, ← zero_rat]; simp [BTm.den, Tm.i, Tm.s, Tm.den, env, vInt, vBool, vStr, exI, SW.den, SV.den, Cell.den, densP, Piece.den, denV, denT]
      have h5 : ¬ (480 : Int) < p := by simpa [BTm.den, Tm.i, Tm.s, Tm.den, env, vInt, vBool, vStr, exI] using h5
      rw [decide_eq_true (p := p ≤ 480) (by omega)] at hv
      refine ev_zc [.int .i64 (q : Nat)] (pure_gives (hbb)) ?_
      refine ev_nil ⟨fun h6 => tree_leaf (ev_nil fun β => ?_), fun h6 => tree_leaf (ev_nil fun β => ?_)⟩
      · have h6 : (480 : Int) < q := by simpa [BTm.den, Tm.i, Tm.s, Tm.den, env, vInt, vBool, vStr, exI] using h6
        rw [decide_eq_false (p := q ≤ 480) (by omega), if_neg (by simp)] at hv
        rw [hv, ← zero_rat]; simp [BTm.den, Tm.i, Tm.s, Tm.den, env, vInt, vBool, vStr, exI, SW.den, SV.den, Cell.den, densP, Piece.den, denV, denT]
      · have h6 : ¬ (480 : Int) < q := by simpa [BTm.den, Tm.i, Tm.s, Tm.den, env, vInt, vBool, vStr, exI] using h6
        rw [decide_eq_true (p := q ≤ 480) (by omega), if_pos (by simp)] at hv
        rw [hv]; simp [BTm.den, Tm.i, Tm.s, Tm.den, env, vInt, vBool, vStr, exI, SW.den, SV.den, Cell.den, densP, Piece.den, denV, rowCells_mgk, iv_list, rv_list, ivZ, rvZ, mgl_agg]
  have h := pure_of plain [.bool s, .agg (mgk 32 n), .bool t, .agg (mgk 32 m)] tdMake_ok (by kernel_rfl) _ (hmain _ rfl)
  refine gives_pure ?_
  simpa [intB, BTm.den, Tm.i, Tm.s, Tm.den, env, vInt, vBool, vStr, exI, SW.den, SV.den, Cell.den, densP, Piece.den, denV, denT, rowCells_mgk, iv_list] using h
end Go.Proofs.YtkiefjbfepjcbaaGreatDoor
end
section
namespace Go.Proofs.YtkiefjbfepjcbaaGreatDoor
open Go.RowKit Go.Proofs.YtkiefjbfepjcbaaGreatDoor.Sx
set_option linter.unusedSimpArgs false
set_option linter.unusedVariables false

def mkZ (x y : Int) : Value := mkv x y (Nat.gcd x.natAbs y.natAbs)
theorem make_Z (x y : Int) (hx : x.natAbs < pw 32) (hy : y.natAbs < pw 32) : Gives Tryz.prog 62 #[.agg (ivZ x), .agg (ivZ y)] (mkZ x y) ∧ Gives Tryz.prog 65 #[.agg (ivZ x), .agg (ivZ y)] (mkZ x y) := by
  have h1 := pMake (decide (x < 0)) (decide (y < 0)) x.natAbs y.natAbs hx hy
  have h2 := dMake (decide (x < 0)) (decide (y < 0)) x.natAbs y.natAbs hx hy
  rw [vz_self, vz_self] at h1 h2
  exact ⟨h1, h2⟩
theorem pw_room : ∃ L : Nat, L * L * 4 ≤ pw 32 ∧ ∀ n, bl n ≤ 480 → n < L := by
  obtain ⟨k, hk⟩ : ∃ k : Nat, k = 480 := ⟨_, rfl⟩
  refine ⟨2 ^ k, ?_, fun n h => Nat.lt_of_lt_of_le (bl_lt n) (Nat.pow_le_pow_right (by omega) (by omega))⟩
  obtain ⟨K, hK, e⟩ := pw32_bits
  rw [e, ← Nat.pow_add, show (4 : Nat) = 2 ^ 2 by rfl, ← Nat.pow_add]
  exact Nat.pow_le_pow_right (by omega) (by omega)
theorem mul_room {L a b : Nat} (ha : a < L) (hb : b < L) : a * b < L * L := Nat.mul_lt_mul'' ha hb
theorem vz_mul_abs (s t : Bool) (n m : Nat) : (vz s n * vz t m).natAbs = n * m := by rw [Int.natAbs_mul, vz_abs, vz_abs]
theorem short_times {L : Nat} (hL : L * L * 4 ≤ pw 32) (s t : Bool) (n m : Nat) (hn : n < L) (hm : m < L) (hn' : n < pw 32) (hm' : m < pw 32) :
    (Gives Tryz.prog 133 #[.agg (iv s n), .agg (iv t m)] (.agg (ivZ (vz s n * vz t m))) ∧ Gives Tryz.prog 73 #[.agg (iv s n), .agg (iv t m)] (.agg (ivZ (vz s n * vz t m)))) ∧ (vz s n * vz t m).natAbs < L * L ∧ (vz s n * vz t m).natAbs < pw 32 := by
  have h := mul_room hn hm
  have h2 : (vz s n * vz t m).natAbs < L * L := by rw [vz_mul_abs]; exact h
  have h3 : (vz s n * vz t m).natAbs < pw 32 := by omega
  exact ⟨times_rat s t n m hn' hm' _ 0 (resZ_fits h3), h2, h3⟩
theorem vld_parts {s t : Bool} {n m : Nat} (h : vld s n t m = true) : (s && isz n) = false ∧ t = false ∧ m ≠ 0 ∧ bl n ≤ 480 ∧ bl m ≤ 480 ∧ Nat.gcd n m = 1 := by
  unfold vld at h
  simp only [Bool.and_eq_true, decide_eq_true_eq] at h
  obtain ⟨⟨⟨⟨⟨h1, h2⟩, h3⟩, h4⟩, h5⟩, h6⟩ := h
  refine ⟨by rwa [Bool.not_eq_true'] at h1, by simpa using h2, ?_, h4, h5, h6⟩
  intro h0; subst h0; simp [isz] at h3
def errV (e : Int) : Value := .tuple #[.agg (rvZ 0 0), .int .i64 e]
theorem mkZ_form (x y : Int) : ∃ a b e : Int, mkZ x y = .tuple #[.agg (rvZ a b), .int .i64 e] := by
  unfold mkZ mkv; split
  · exact ⟨_, _, _, rfl⟩
  · split
    · exact ⟨_, _, _, rfl⟩
    · exact ⟨_, _, _, rfl⟩
end Go.Proofs.YtkiefjbfepjcbaaGreatDoor
end
section
namespace Go.Proofs.YtkiefjbfepjcbaaGreatDoor
open Go.RowKit Go.Proofs.YtkiefjbfepjcbaaGreatDoor.Sx
set_option linter.unusedSimpArgs false
set_option linter.unusedVariables false

def quoR (s : Bool) (n : Nat) (t : Bool) (m : Nat) (s' : Bool) (n' : Nat) (t' : Bool) (m' : Nat) : Value :=
  if (vld s n t m && vld s' n' t' m') = true then mkZ (vz s n * vz t' m') (vz t m * vz s' n') else errV 20
set_option maxHeartbeats 2000000 in
theorem quo_rat (s t s' t' : Bool) (n m n' m' : Nat) (hn : n < pw 32) (hm : m < pw 32) (hn' : n' < pw 32) (hm' : m' < pw 32) :
    Gives Tryz.prog 87 #[.agg (rv s n t m), .agg (rv s' n' t' m')] (quoR s n t m s' n' t' m') ∧ Gives Tryz.prog 27 #[.agg (rv s n t m), .agg (rv s' n' t' m')] (quoR s n t m s' n' t' m') := by
  have p1 := pValid s t n m hn hm
  have p2 := pValid s' t' n' m' hn' hm'
  have d1 := dValid s t n m hn hm
  have d2 := dValid s' t' n' m' hn' hm'
  have hval : vld s n t m = true → vld s' n' t' m' = true → ∃ x y a b e : Int, quoR s n t m s' n' t' m' = .tuple #[.agg (rvZ a b), .int .i64 e] ∧
      Gives Tryz.prog 133 #[.agg (iv s n), .agg (iv t' m')] (.agg (ivZ x)) ∧ Gives Tryz.prog 73 #[.agg (iv s n), .agg (iv t' m')] (.agg (ivZ x)) ∧
      Gives Tryz.prog 133 #[.agg (iv t m), .agg (iv s' n')] (.agg (ivZ y)) ∧ Gives Tryz.prog 73 #[.agg (iv t m), .agg (iv s' n')] (.agg (ivZ y)) ∧
      Gives Tryz.prog 62 #[.agg (ivZ x), .agg (ivZ y)] (.tuple #[.agg (rvZ a b), .int .i64 e]) ∧ Gives Tryz.prog 65 #[.agg (ivZ x), .agg (ivZ y)] (.tuple #[.agg (rvZ a b), .int .i64 e]) := by
    intro h1 h2
    obtain ⟨L, hL, hb⟩ := pw_room
    obtain ⟨-, -, -, u1, u2, -⟩ := vld_parts h1
    obtain ⟨-, -, -, u3, u4, -⟩ := vld_parts h2
    obtain ⟨⟨a1, a2⟩, -, a3⟩ := short_times hL s t' n m' (hb _ u1) (hb _ u4) hn hm'
    obtain ⟨⟨b1, b2⟩, -, b3⟩ := short_times hL t s' m n' (hb _ u2) (hb _ u3) hm hn'
    obtain ⟨a, b, e, h⟩ := mkZ_form (vz s n * vz t' m') (vz t m * vz s' n')
    obtain ⟨c1, c2⟩ := make_Z _ _ a3 b3
    rw [h] at c1 c2
    refine ⟨_, _, a, b, e, ?_, a1, a2, b1, b2, c1, c2⟩
    unfold quoR
    rw [h1, h2, if_pos (by rfl), h]
  obtain ⟨v1, hv1⟩ : ∃ b, b = vld s n t m := ⟨_, rfl⟩
  obtain ⟨v2, hv2⟩ : ∃ b, b = vld s' n' t' m' := ⟨_, rfl⟩
  have hno : v1 = false ∨ v2 = false → quoR s n t m s' n' t' m' = errV 20 := fun h => by
    unfold quoR; rw [← hv1, ← hv2, if_neg]
    rcases h with rfl | rfl <;> simp
  rw [← hv1] at p1 d1 hval
  rw [← hv2] at p2 d2 hval
  obtain ⟨V, hV⟩ : ∃ V, V = quoR s n t m s' n' t' m' := ⟨_, rfl⟩
  rw [← hV] at hval hno ⊢
  have main1 : tpQuo.den Tryz.prog (fun ρ' ret => ∀ β, ret.val.den (env ρ') β = V) [.bool s, .agg (mgk 32 n), .bool t, .agg (mgk 32 m), .bool s', .agg (mgk 32 n'), .bool t', .agg (mgk 32 m')] := by
    refine tree_ite ?_
    refine ev_zc [.bool v1] (pure_gives (p1)) ?_
    refine ev_nil ⟨fun h => tree_ite ?_, fun h => tree_leaf (ev_nil fun β => ?_)⟩
    · have h1 : v1 = true := by simpa [BTm.den, Tm.i, Tm.s, Tm.den, env, vInt, vBool, vStr, exI] using h
      refine ev_zc [.bool v2] (pure_gives (p2)) ?_
      refine ev_nil ⟨fun h => tree_leaf ?_, fun h => tree_leaf (ev_nil fun β => ?_)⟩
      · have h2 : v2 = true := by simpa [BTm.den, Tm.i, Tm.s, Tm.den, env, vInt, vBool, vStr, exI] using h
        obtain ⟨x, y, a, b, e, hr, a1, -, b1, -, c1, -⟩ := hval h1 h2
        refine ev_zc [.bool (decide (x < 0)), .agg (mgk 32 (x : Int).natAbs)] (pure_gives (a1)) ?_
        refine ev_zc [.bool (decide (y < 0)), .agg (mgk 32 (y : Int).natAbs)] (pure_gives (b1)) ?_
        refine ev_zc [.bool (decide (a < 0)), .agg (mgk 32 (a : Int).natAbs), .bool (decide (b < 0)), .agg (mgk 32 (b : Int).natAbs), .int .i64 e] (pure_gives (c1)) ?_
        refine ev_nil fun β => ?_
        rw [hr]; simp [BTm.den, Tm.i, Tm.s, Tm.den, env, vInt, vBool, vStr, exI, SW.den, SV.den, Cell.den, densP, Piece.den, denV, rowCells_mgk, iv_list, rv_list, ivZ, rvZ, mgl_agg]
      · have h2 : v2 = false := by simpa [BTm.den, Tm.i, Tm.s, Tm.den, env, vInt, vBool, vStr, exI] using h
        rw [hno (.inr h2), errV, ← zero_rat]; simp [BTm.den, Tm.i, Tm.s, Tm.den, env, vInt, vBool, vStr, exI, SW.den, SV.den, Cell.den, densP, Piece.den, denV, denT]
    · have h1 : v1 = false := by simpa [BTm.den, Tm.i, Tm.s, Tm.den, env, vInt, vBool, vStr, exI] using h
      rw [hno (.inl h1), errV, ← zero_rat]; simp [BTm.den, Tm.i, Tm.s, Tm.den, env, vInt, vBool, vStr, exI, SW.den, SV.den, Cell.den, densP, Piece.den, denV, denT]
  have main2 : tdQuo.den Tryz.prog (fun ρ' ret => ∀ β, ret.val.den (env ρ') β = V) [.bool s, .agg (mgk 32 n), .bool t, .agg (mgk 32 m), .bool s', .agg (mgk 32 n'), .bool t', .agg (mgk 32 m')] := by
    refine tree_ite ?_
    refine ev_zc [.bool v1] (pure_gives (d1)) ?_
    refine ev_nil ⟨fun h => tree_ite ?_, fun h => tree_leaf (ev_nil fun β => ?_)⟩
    · have h1 : v1 = true := by simpa [BTm.den, Tm.i, Tm.s, Tm.den, env, vInt, vBool, vStr, exI] using h
      refine ev_zc [.bool v2] (pure_gives (d2)) ?_
      refine ev_nil ⟨fun h => tree_leaf ?_, fun h => tree_leaf (ev_nil fun β => ?_)⟩
      · have h2 : v2 = true := by simpa [BTm.den, Tm.i, Tm.s, Tm.den, env, vInt, vBool, vStr, exI] using h
        obtain ⟨x, y, a, b, e, hr, -, a1, -, b1, -, c1⟩ := hval h1 h2
        refine ev_zc [.bool (decide (x < 0)), .agg (mgk 32 (x : Int).natAbs)] (pure_gives (a1)) ?_
        refine ev_zc [.bool (decide (y < 0)), .agg (mgk 32 (y : Int).natAbs)] (pure_gives (b1)) ?_
        refine ev_zc [.bool (decide (a < 0)), .agg (mgk 32 (a : Int).natAbs), .bool (decide (b < 0)), .agg (mgk 32 (b : Int).natAbs), .int .i64 e] (pure_gives (c1)) ?_
        refine ev_nil fun β => ?_
        rw [hr]; simp [BTm.den, Tm.i, Tm.s, Tm.den, env, vInt, vBool, vStr, exI, SW.den, SV.den, Cell.den, densP, Piece.den, denV, rowCells_mgk, iv_list, rv_list, ivZ, rvZ, mgl_agg]
      · have h2 : v2 = false := by simpa [BTm.den, Tm.i, Tm.s, Tm.den, env, vInt, vBool, vStr, exI] using h
        rw [hno (.inr h2), errV, ← zero_rat]; simp [BTm.den, Tm.i, Tm.s, Tm.den, env, vInt, vBool, vStr, exI, SW.den, SV.den, Cell.den, densP, Piece.den, denV, denT]
    · have h1 : v1 = false := by simpa [BTm.den, Tm.i, Tm.s, Tm.den, env, vInt, vBool, vStr, exI] using h
      rw [hno (.inl h1), errV, ← zero_rat]; simp [BTm.den, Tm.i, Tm.s, Tm.den, env, vInt, vBool, vStr, exI, SW.den, SV.den, Cell.den, densP, Piece.den, denV, denT]
  have h1 := pure_of plain [.bool s, .agg (mgk 32 n), .bool t, .agg (mgk 32 m), .bool s', .agg (mgk 32 n'), .bool t', .agg (mgk 32 m')] tpQuo_ok (by kernel_rfl) _ main1
  have h2 := pure_of plain [.bool s, .agg (mgk 32 n), .bool t, .agg (mgk 32 m), .bool s', .agg (mgk 32 n'), .bool t', .agg (mgk 32 m')] tdQuo_ok (by kernel_rfl) _ main2
  refine ⟨gives_pure ?_, gives_pure ?_⟩
  · simpa [ratR, BTm.den, Tm.i, Tm.s, Tm.den, env, vInt, vBool, vStr, exI, SW.den, SV.den, Cell.den, densP, Piece.den, denV, denT, rowCells_mgk, rv_list] using h1
  · simpa [ratR, BTm.den, Tm.i, Tm.s, Tm.den, env, vInt, vBool, vStr, exI, SW.den, SV.den, Cell.den, densP, Piece.den, denV, denT, rowCells_mgk, rv_list] using h2
end Go.Proofs.YtkiefjbfepjcbaaGreatDoor
end
section
namespace Go.Proofs.YtkiefjbfepjcbaaGreatDoor
open Go.RowKit Go.Proofs.YtkiefjbfepjcbaaGreatDoor.Sx
set_option linter.unusedSimpArgs false
set_option linter.unusedVariables false

theorem zero_num : (Value.bool false :: List.replicate 32 (.int .u32 0)).toArray = ivZ 0 := by
  rw [← mgl_zero, iv_list]; rfl
theorem small_lt (x : Int) (h : -9223372036854775808 ≤ x ∧ x ≤ 9223372036854775807) : x.natAbs < pw 32 := by
  have := pw_le (show 2 ≤ 32 by omega)
  rw [show pw 2 = 18446744073709551616 by decide] at this
  omega
theorem whole_p (z : Int) (h : -9223372036854775808 ≤ z ∧ z ≤ 9223372036854775807) : Gives Tryz.prog 88 #[.int .i64 z] (.agg (rvZ z 1)) := by
  have g1 := fromInt_any z h
  have o1 := fromInt_any 1 (by omega)
  have main1 : tpWhole.den Tryz.prog (fun ρ' ret => ∀ β, ret.val.den (env ρ') β = .agg (rvZ z 1)) [.int .i64 z] := by
    refine tree_leaf ?_
    refine ev_zc [.bool (decide (z < 0)), .agg (mgk 32 (z : Int).natAbs)] (pure_gives (g1)) ?_
    refine ev_call [.bool (decide (1 < 0)), .agg (mgk 32 (1 : Int).natAbs)] rfl rfl (pure_gives o1) (fun β => by simp [BTm.den, Tm.i, Tm.s, Tm.den, env, vInt, vBool, vStr, exI, SW.den, SV.den, Cell.den, densP, Piece.den, denV, denT]) (fun β => by simp [BTm.den, Tm.i, Tm.s, Tm.den, env, vInt, vBool, vStr, exI, SW.den, SV.den, Cell.den, densP, Piece.den, denV, denT, rowCells_mgk, iv_list, ivZ]) ?_
    refine ev_nil fun β => ?_
    simp [BTm.den, Tm.i, Tm.s, Tm.den, env, vInt, vBool, vStr, exI, SW.den, SV.den, Cell.den, densP, Piece.den, denV, rowCells_mgk, iv_list, rv_list, ivZ, rvZ, mgl_agg]
  have h1 := pure_of plain [.int .i64 z] tpWhole_ok (by kernel_rfl) _ main1
  refine gives_pure ?_
  simpa [intW, BTm.den, Tm.i, Tm.s, Tm.den, env, vInt, vBool, vStr, exI, SW.den, SV.den, Cell.den, densP, Piece.den, denV, denT] using h1
theorem whole_d (z : Int) (h : -9223372036854775808 ≤ z ∧ z ≤ 9223372036854775807) : Gives Tryz.prog 28 #[.int .i64 z] (.agg (rvZ z 1)) := by
  have g1 := rfromInt_any z h
  have o1 := rfromInt_any 1 (by omega)
  have main1 : tdWhole.den Tryz.prog (fun ρ' ret => ∀ β, ret.val.den (env ρ') β = .agg (rvZ z 1)) [.int .i64 z] := by
    refine tree_leaf ?_
    refine ev_zc [.bool (decide (z < 0)), .agg (mgk 32 (z : Int).natAbs)] (pure_gives (g1)) ?_
    refine ev_call [.bool (decide (1 < 0)), .agg (mgk 32 (1 : Int).natAbs)] rfl rfl (pure_gives o1) (fun β => by simp [BTm.den, Tm.i, Tm.s, Tm.den, env, vInt, vBool, vStr, exI, SW.den, SV.den, Cell.den, densP, Piece.den, denV, denT]) (fun β => by simp [BTm.den, Tm.i, Tm.s, Tm.den, env, vInt, vBool, vStr, exI, SW.den, SV.den, Cell.den, densP, Piece.den, denV, denT, rowCells_mgk, iv_list, ivZ]) ?_
    refine ev_nil fun β => ?_
    simp [BTm.den, Tm.i, Tm.s, Tm.den, env, vInt, vBool, vStr, exI, SW.den, SV.den, Cell.den, densP, Piece.den, denV, rowCells_mgk, iv_list, rv_list, ivZ, rvZ, mgl_agg]
  have h1 := pure_of plain [.int .i64 z] tdWhole_ok (by kernel_rfl) _ main1
  refine gives_pure ?_
  simpa [intW, BTm.den, Tm.i, Tm.s, Tm.den, env, vInt, vBool, vStr, exI, SW.den, SV.den, Cell.den, densP, Piece.den, denV, denT] using h1
theorem of_rat (n d : Int) (hn : -9223372036854775808 ≤ n ∧ n ≤ 9223372036854775807) (hd : -9223372036854775808 ≤ d ∧ d ≤ 9223372036854775807) :
    Gives Tryz.prog 68 #[.int .i64 n, .int .i64 d] (mkZ n d) ∧ Gives Tryz.prog 72 #[.int .i64 n, .int .i64 d] (mkZ n d) := by
  have n1 := fromInt_any n hn
  have n2 := rfromInt_any n hn
  have d1 := fromInt_any d hd
  have d2 := rfromInt_any d hd
  obtain ⟨m1, m2⟩ := make_Z n d (small_lt n hn) (small_lt d hd)
  obtain ⟨V, hV⟩ : ∃ V, V = mkZ n d := ⟨_, rfl⟩
  obtain ⟨a, b, e, h⟩ := mkZ_form n d
  rw [← hV] at m1 m2 h ⊢
  rw [h] at m1 m2
  have main1 : tpOf.den Tryz.prog (fun ρ' ret => ∀ β, ret.val.den (env ρ') β = V) [.int .i64 n, .int .i64 d] := by
    refine tree_leaf ?_
    refine ev_zc [.bool (decide (n < 0)), .agg (mgk 32 (n : Int).natAbs)] (pure_gives (n1)) ?_
    refine ev_zc [.bool (decide (d < 0)), .agg (mgk 32 (d : Int).natAbs)] (pure_gives (d1)) ?_
    refine ev_zc [.bool (decide (a < 0)), .agg (mgk 32 (a : Int).natAbs), .bool (decide (b < 0)), .agg (mgk 32 (b : Int).natAbs), .int .i64 e] (pure_gives (m1)) ?_
    refine ev_nil fun β => ?_
    rw [h]; simp [BTm.den, Tm.i, Tm.s, Tm.den, env, vInt, vBool, vStr, exI, SW.den, SV.den, Cell.den, densP, Piece.den, denV, rowCells_mgk, iv_list, rv_list, ivZ, rvZ, mgl_agg]
  have main2 : tdOf.den Tryz.prog (fun ρ' ret => ∀ β, ret.val.den (env ρ') β = V) [.int .i64 n, .int .i64 d] := by
    refine tree_leaf ?_
    refine ev_zc [.bool (decide (n < 0)), .agg (mgk 32 (n : Int).natAbs)] (pure_gives (n2)) ?_
    refine ev_zc [.bool (decide (d < 0)), .agg (mgk 32 (d : Int).natAbs)] (pure_gives (d2)) ?_
    refine ev_zc [.bool (decide (a < 0)), .agg (mgk 32 (a : Int).natAbs), .bool (decide (b < 0)), .agg (mgk 32 (b : Int).natAbs), .int .i64 e] (pure_gives (m2)) ?_
    refine ev_nil fun β => ?_
    rw [h]; simp [BTm.den, Tm.i, Tm.s, Tm.den, env, vInt, vBool, vStr, exI, SW.den, SV.den, Cell.den, densP, Piece.den, denV, rowCells_mgk, iv_list, rv_list, ivZ, rvZ, mgl_agg]
  have h1 := pure_of plain [.int .i64 n, .int .i64 d] tpOf_ok (by kernel_rfl) _ main1
  have h2 := pure_of plain [.int .i64 n, .int .i64 d] tdOf_ok (by kernel_rfl) _ main2
  refine ⟨gives_pure ?_, gives_pure ?_⟩
  · simpa [intW, BTm.den, Tm.i, Tm.s, Tm.den, env, vInt, vBool, vStr, exI, SW.den, SV.den, Cell.den, densP, Piece.den, denV, denT] using h1
  · simpa [intW, BTm.den, Tm.i, Tm.s, Tm.den, env, vInt, vBool, vStr, exI, SW.den, SV.den, Cell.den, densP, Piece.den, denV, denT] using h2
end Go.Proofs.YtkiefjbfepjcbaaGreatDoor
end
section
namespace Go.Proofs.YtkiefjbfepjcbaaGreatDoor
open Go.RowKit Go.Proofs.YtkiefjbfepjcbaaGreatDoor.Sx
set_option linter.unusedSimpArgs false
set_option linter.unusedVariables false

theorem rv_x0 (s t : Bool) (n m : Nat) : (rv s n t m).extract 0 (0 + 33) = iv s n := by
  apply Array.toList_inj.1
  have := rv_left s t n m
  rw [List.drop_zero] at this
  rw [Array.toList_extract, ← this]
  try simp
theorem rv_x1 (s t : Bool) (n m : Nat) : (rv s n t m).extract 33 (33 + 33) = iv t m := by
  apply Array.toList_inj.1
  have := rv_right s t n m
  rw [Array.toList_extract, ← this]
  try simp
theorem size25' : (Tryz.prog.info? 25).map (·.size) = some 33 := by kernel_rfl
theorem stoodRat : Tryz.prog.stoodInHeld 27 = false := by kernel_rfl
theorem same_rv (s t s' t' : Bool) (n m n' m' : Nat) (hn : n < pw 32) (hm : m < pw 32) (hn' : n' < pw 32) (hm' : m' < pw 32) :
    SameFact Tryz.prog 27 (.agg (rv s n t m)) (.agg (rv s' n' t' m')) (decide ((s = s' ∧ n = n') ∧ (t = t' ∧ m = m'))) := fun w => by
  show (Op.equalIn (9999 + 1) 27 (.agg (rv s n t m)) (.agg (rv s' n' t' m'))).run Tryz.prog w = _
  have hu := Tryz.underlying27
  have hfs : Tryz.prog.fieldsOf 27 = #[⟨"Num", 25, 0, false, "", "", 0⟩, ⟨"Den", 25, 33, false, "", "", 132⟩] := by simp [Program.fieldsOf, hu]
  rw [run_equalIn_struct w 9999 27 _ _ (by rw [hfs]; exact hu) stoodRat, hfs]
  have hN : ¬ ("Num" = "_") := by decide
  have hD : ¬ ("Den" = "_") := by decide
  simp only [Op.eqFields, ne_eq, hN, hD, not_false_eq_true, if_true, Sem.run_bind]
  have e0 : ∀ (s t : Bool) (n m : Nat), (part 25 (rv s n t m) 0).run Tryz.prog w = .ok (.agg (iv s n)) w := fun s t n m => by
    rw [run_part_row w 25 _ Tryz.underlying25 rfl 33 size25', rv_x0]
  have e1 : ∀ (s t : Bool) (n m : Nat), (part 25 (rv s n t m) 33).run Tryz.prog w = .ok (.agg (iv t m)) w := fun s t n m => by
    rw [run_part_row w 25 _ Tryz.underlying25 rfl 33 size25', rv_x1]
  have q : ∀ (s s' : Bool) (n n' : Nat), n < pw 32 → n' < pw 32 → (Op.equalIn 9999 25 (.agg (iv s n)) (.agg (iv s' n'))).run Tryz.prog w = .ok (decide (s = s' ∧ n = n')) w := fun s s' n n' h h' =>
    run_equalIn_iv w 9996 25 4 23 22 .u32 _ _ s s' n n' Tryz.underlying25 (by kernel_rfl) (by decide) (by decide) rfl rfl rfl rfl Tryz.underlying4 Tryz.underlying23 size23 size22 Tryz.underlying22 h h'
  rw [show decide ((s = s' ∧ n = n') ∧ (t = t' ∧ m = m')) = (decide (s = s' ∧ n = n') && decide (t = t' ∧ m = m')) from Bool.decide_and _ _]
  have q2 := q t t' m m' hm hm'
  simp only [e0, Result.andThen_ok, q s s' n n' hn hn']
  obtain ⟨b1, hb1⟩ : ∃ b, b = decide (s = s' ∧ n = n') := ⟨_, rfl⟩
  obtain ⟨b2, hb2⟩ : ∃ b, b = decide (t = t' ∧ m = m') := ⟨_, rfl⟩
  rw [← hb1, ← hb2]
  rw [← hb2] at q2
  cases b1
  · simp
  · simp only [Bool.not_true, Bool.false_eq_true, if_false, Bool.true_and, Sem.run_bind, e1, Result.andThen_ok, q2]
    cases b2 <;> simp
theorem same_rZ (a b c d : Int) (ha : a.natAbs < pw 32) (hb : b.natAbs < pw 32) (hc : c.natAbs < pw 32) (hd : d.natAbs < pw 32) :
    SameFact Tryz.prog 27 (.agg (rvZ a b)) (.agg (rvZ c d)) (decide (a = c ∧ b = d)) := by
  have := same_rv (decide (a < 0)) (decide (b < 0)) (decide (c < 0)) (decide (d < 0)) _ _ _ _ ha hb hc hd
  rw [decide_eq_decide.2 (show _ ↔ (a = c ∧ b = d) from and_congr (ivZ_inj (x := a) (y := c)) (ivZ_inj (x := b) (y := d)))] at this
  exact this
theorem same_r1 (s t : Bool) (n m : Nat) (hn : n < pw 32) (hm : m < pw 32) : SameFact Tryz.prog 27 (.agg (rv s n t m)) (.agg (rv s n t m)) true := by
  have := same_rv s t s t n m n m hn hm hn hm
  rwa [decide_eq_true (show (s = s ∧ n = n) ∧ (t = t ∧ m = m) from ⟨⟨rfl, rfl⟩, rfl, rfl⟩)] at this
end Go.Proofs.YtkiefjbfepjcbaaGreatDoor
end
section
namespace Go.Proofs.YtkiefjbfepjcbaaGreatDoor
open Go.RowKit Go.Proofs.YtkiefjbfepjcbaaGreatDoor.Sx
set_option linter.unusedSimpArgs false
set_option linter.unusedVariables false

theorem short480 {n : Nat} (h : bl n ≤ 480) : n < pw 32 := by
  obtain ⟨L, hL, hb⟩ := pw_room
  have h1 := hb n h
  have h2 : L ≤ L * L * 4 := by
    have := Nat.le_mul_self L; omega
  omega
def RF (V : Value) : Prop := ∃ (s t : Bool) (n m : Nat) (e : Int), V = .tuple #[.agg (rv s n t m), .int .i64 e] ∧ n < pw 32 ∧ m < pw 32
theorem rf_err (e : Int) : RF (errV e) := ⟨false, false, 0, 0, e, rfl, pw_pos 32, pw_pos 32⟩
theorem rf_mkZ (x y : Int) : RF (mkZ x y) := by
  unfold mkZ mkv
  split
  · exact rf_err 11
  · split
    · rename_i h
      unfold mkF at h
      simp only [Bool.and_eq_true, decide_eq_true_eq] at h
      exact ⟨_, _, _, _, _, rfl, short480 h.1, short480 h.2⟩
    · exact rf_err 10
theorem rf_if {c : Prop} [Decidable c] {a b : Value} (ha : RF a) (hb : RF b) : RF (if c then a else b) := by
  split <;> assumption
theorem mkN_abs {x y : Int} {g : Nat} (hx : (g : Int) ∣ x) : (mkN x y g).natAbs = x.natAbs / g := by
  have : (x / (g : Int)).natAbs = x.natAbs / g := by rw [Int.natAbs_ediv_of_dvd hx, Int.natAbs_natCast]
  unfold mkN
  split
  · rw [Int.natAbs_neg]; exact this
  · exact this
theorem mkN_den {y : Int} {g : Nat} (h0 : y ≠ 0) (hg : 0 < g) (hy : (g : Int) ∣ y) : 0 < mkN y y g := by
  have h1 := quo_neg hg hy
  have h2 : y / (g : Int) ≠ 0 := fun h => h0 (by rw [← Int.mul_ediv_cancel' hy, h, Int.mul_zero])
  unfold mkN
  split <;> omega
theorem vldZ {a b : Int} (hb : 0 < b) (h1 : mkF a b = true) (h2 : Nat.gcd a.natAbs b.natAbs = 1) : vld (decide (a < 0)) a.natAbs (decide (b < 0)) b.natAbs = true := by
  unfold mkF at h1
  simp only [Bool.and_eq_true, decide_eq_true_eq] at h1
  unfold vld
  rw [decide_eq_true h1.1, decide_eq_true h1.2, decide_eq_true h2, decide_eq_false (show ¬ b < 0 by omega), isz_false (show b.natAbs ≠ 0 by omega)]
  by_cases ha : a < 0
  · rw [decide_eq_true ha, isz_false (show a.natAbs ≠ 0 by omega)]; rfl
  · rw [decide_eq_false ha]; rfl
end Go.Proofs.YtkiefjbfepjcbaaGreatDoor
end
section
namespace Go.Proofs.YtkiefjbfepjcbaaGreatDoor
open Go.RowKit Go.Proofs.YtkiefjbfepjcbaaGreatDoor.Sx
set_option linter.unusedSimpArgs false
set_option linter.unusedVariables false

structure Qf (n : Nat) (a b x y : Int) : Prop where
  pos : 0 < b
  co : Nat.gcd a.natAbs b.natAbs = 1
  ne : y ≠ 0
  eq : a * y = x * b
  la : a.natAbs < 2 ^ n
  lb : b.natAbs < 2 ^ n
variable {n m k : Nat} {a b c d x y z w : Int}
theorem Qf.fits (h : Qf n a b x y) (hn : n ≤ 480) : mkF a b = true := by
  unfold mkF
  rw [decide_eq_true (Nat.le_trans (bl_le h.la) hn), decide_eq_true (Nat.le_trans (bl_le h.lb) hn)]; rfl
theorem Qf.vld (h : Qf n a b x y) (hn : n ≤ 480) : Go.Proofs.YtkiefjbfepjcbaaGreatDoor.vld (decide (a < 0)) a.natAbs (decide (b < 0)) b.natAbs = true := vldZ h.pos (h.fits hn) h.co
theorem Qf.lta (h : Qf n a b x y) (hn : n ≤ 480) : a.natAbs < pw 32 := short480 (Nat.le_trans (bl_le h.la) hn)
theorem Qf.ltb (h : Qf n a b x y) (hn : n ≤ 480) : b.natAbs < pw 32 := short480 (Nat.le_trans (bl_le h.lb) hn)
theorem q_make (x y : Int) (n : Nat) (hy : y ≠ 0) (hx : x.natAbs < 2 ^ n) (hyn : y.natAbs < 2 ^ n) (hn : n ≤ 480) : ∃ a b, mkZ x y = .tuple #[.agg (rvZ a b), .int .i64 0] ∧ Qf n a b x y := by
  have hg : 0 < Nat.gcd x.natAbs y.natAbs := Nat.gcd_pos_of_pos_right _ (by omega)
  have h1 : ((Nat.gcd x.natAbs y.natAbs : Nat) : Int) ∣ x := Int.dvd_natAbs.1 (Int.natCast_dvd_natCast.2 (Nat.gcd_dvd_left _ _))
  have h2 : ((Nat.gcd x.natAbs y.natAbs : Nat) : Int) ∣ y := Int.dvd_natAbs.1 (Int.natCast_dvd_natCast.2 (Nat.gcd_dvd_right _ _))
  have hp := mkN_den hy hg h2
  have ha := mkN_abs (y := y) h1
  have hb := mkN_abs (y := y) h2
  have hco := Nat.coprime_div_gcd_div_gcd hg
  have hla : x.natAbs / Nat.gcd x.natAbs y.natAbs < 2 ^ n := Nat.lt_of_le_of_lt (Nat.div_le_self _ _) hx
  have hlb : y.natAbs / Nat.gcd x.natAbs y.natAbs < 2 ^ n := Nat.lt_of_le_of_lt (Nat.div_le_self _ _) hyn
  have heq : mkN x y (Nat.gcd x.natAbs y.natAbs) * y = x * mkN y y (Nat.gcd x.natAbs y.natAbs) := by
    have e1 := Int.mul_ediv_cancel' h1
    have e2 := Int.mul_ediv_cancel' h2
    unfold mkN
    generalize ((Nat.gcd x.natAbs y.natAbs : Nat) : Int) = g at e1 e2 ⊢
    generalize x / g = p at e1 ⊢
    generalize y / g = q at e2 ⊢
    split <;> grind
  have hmk : mkZ x y = if mkF (mkN x y (Nat.gcd x.natAbs y.natAbs)) (mkN y y (Nat.gcd x.natAbs y.natAbs)) = true then .tuple #[.agg (rvZ (mkN x y (Nat.gcd x.natAbs y.natAbs)) (mkN y y (Nat.gcd x.natAbs y.natAbs))), .int .i64 0] else .tuple #[.agg (rvZ 0 0), .int .i64 10] := by
    unfold mkZ mkv; rw [if_neg hy]
  generalize mkN x y (Nat.gcd x.natAbs y.natAbs) = a at *
  generalize mkN y y (Nat.gcd x.natAbs y.natAbs) = b at *
  have hQ : Qf n a b x y := ⟨hp, by rw [ha, hb]; exact hco, hy, heq, by rw [ha]; exact hla, by rw [hb]; exact hlb⟩
  exact ⟨a, b, by rw [hmk, if_pos (hQ.fits hn)], hQ⟩
theorem Qf.up (h : Qf n a b x y) (hn : n ≤ m) : Qf m a b x y :=
  ⟨h.pos, h.co, h.ne, h.eq, Nat.lt_of_lt_of_le h.la (Nat.pow_le_pow_right (by omega) hn), Nat.lt_of_lt_of_le h.lb (Nat.pow_le_pow_right (by omega) hn)⟩
theorem abs_dvd (hb : 0 < b) (hd : 0 < d) (h1 : Nat.gcd a.natAbs b.natAbs = 1) (h : a * d = c * b) : b.natAbs ∣ d.natAbs := by
  have e : a.natAbs * d.natAbs = c.natAbs * b.natAbs := by rw [← Int.natAbs_mul, h, Int.natAbs_mul]
  have h2 : Nat.Coprime b.natAbs a.natAbs := by rw [Nat.coprime_comm]; exact h1
  exact h2.dvd_of_dvd_mul_left (by rw [e]; exact Nat.dvd_mul_left _ _)
theorem low_eq (hb : 0 < b) (hd : 0 < d) (h1 : Nat.gcd a.natAbs b.natAbs = 1) (h2 : Nat.gcd c.natAbs d.natAbs = 1) (h : a * d = c * b) : a = c ∧ b = d := by
  have e1 := abs_dvd hb hd h1 h
  have e2 := abs_dvd hd hb h2 h.symm
  have e3 := Nat.dvd_antisymm e1 e2
  have e4 : b = d := by omega
  subst e4
  exact ⟨Int.eq_of_mul_eq_mul_right (by omega) h, rfl⟩
theorem Qf.same (h1 : Qf n a b x y) (h2 : Qf m c d z w) : (a = c ∧ b = d) ↔ x * w = z * y := by
  have e1 := h1.eq
  have e2 := h2.eq
  have p1 := h1.pos
  have p2 := h2.pos
  constructor
  · rintro ⟨rfl, rfl⟩
    refine Int.eq_of_mul_eq_mul_right (show b ≠ 0 by omega) ?_
    grind
  · intro h
    refine low_eq p1 p2 h1.co h2.co ?_
    refine Int.eq_of_mul_eq_mul_right h1.ne (Int.eq_of_mul_eq_mul_right h2.ne ?_)
    grind
theorem mul_bits {p q : Int} (hp : p.natAbs < 2 ^ n) (hq : q.natAbs < 2 ^ m) : (p * q).natAbs < 2 ^ (n + m) := by
  rw [Int.natAbs_mul, Nat.pow_add]; exact Nat.mul_lt_mul'' hp hq
theorem Qf.zero (h : Qf n a b x y) (hx : x = 0) : a = 0 ∧ b = 1 := by
  have e := h.eq
  rw [hx, Int.zero_mul] at e
  have ha : a = 0 := (Int.mul_eq_zero.1 e).resolve_right h.ne
  have hc := h.co
  rw [ha] at hc
  have hp := h.pos
  simp at hc
  exact ⟨ha, by omega⟩
theorem of_made (x y : Int) (n : Nat) (hx : -9223372036854775808 ≤ x ∧ x ≤ 9223372036854775807) (hy : -9223372036854775808 ≤ y ∧ y ≤ 9223372036854775807) (h0 : y ≠ 0) (h1 : x.natAbs < 2 ^ n) (h2 : y.natAbs < 2 ^ n) (hn : n ≤ 480) :
    ∃ a b, Gives Tryz.prog 23 #[.int .i64 x, .int .i64 y] (.agg (rvZ a b)) ∧ Qf n a b x y := by
  obtain ⟨a, b, he, hq⟩ := q_make x y n h0 h1 h2 hn
  have g := (of_rat x y hx hy).2
  rw [he] at g
  refine ⟨a, b, ?_, hq⟩
  have main : tmOf.den Tryz.prog (fun ρ' ret => ∀ β, ret.val.den (env ρ') β = .agg (rvZ a b)) [.int .i64 x, .int .i64 y] := by
    refine tree_leaf ?_
    refine ev_zc [.bool (decide (a < 0)), .agg (mgk 32 (a : Int).natAbs), .bool (decide (b < 0)), .agg (mgk 32 (b : Int).natAbs), .int .i64 0] (pure_gives (g)) ?_
    refine ev_nil fun β => ?_
    simp [BTm.den, Tm.i, Tm.s, Tm.den, env, vInt, vBool, vStr, exI, SW.den, SV.den, Cell.den, densP, Piece.den, denV, rowCells_mgk, iv_list, rv_list, ivZ, rvZ, mgl_agg]
  have h := pure_of plain [.int .i64 x, .int .i64 y] tmOf_ok (by kernel_rfl) _ main
  refine gives_pure ?_
  simpa [intW, BTm.den, Tm.i, Tm.s, Tm.den, env, vInt, vBool, vStr, exI, SW.den, SV.den, Cell.den, densP, Piece.den, denV, denT] using h
end Go.Proofs.YtkiefjbfepjcbaaGreatDoor
end
section
namespace Go.Proofs.YtkiefjbfepjcbaaGreatDoor
open Go.RowKit Go.Proofs.YtkiefjbfepjcbaaGreatDoor.Sx
set_option linter.unusedSimpArgs false
set_option linter.unusedVariables false

def ten (p : Nat) : Int := ((10 ^ p : Nat) : Int)
theorem ten_zero : ten 0 = 1 := rfl
theorem ten_succ (p : Nat) : ten (p + 1) = ten p * 10 := by unfold ten; rw [Nat.pow_succ, Int.natCast_mul]; rfl
theorem ten_pos (p : Nat) : 0 < ten p := by
  unfold ten
  have := Nat.pow_pos (n := p) (show 0 < 10 by omega)
  omega
theorem ten_le {p : Nat} (h : p ≤ 9) : ten p ≤ 1000000000 := by
  have h1 : 10 ^ p ≤ 10 ^ 9 := Nat.pow_le_pow_right (by omega) h
  have h2 : 10 ^ 9 = 1000000000 := by decide
  unfold ten; omega
theorem ten_bits {p : Nat} (h : p ≤ 9) : (ten p).natAbs < 2 ^ 30 := by
  have h1 := ten_le h
  have h2 := ten_pos p
  have h3 : 2 ^ 30 = 1073741824 := by decide
  omega

def upR (mode : Int) (neg : Bool) (half : Int) (odd : Bool) : Bool :=
  if mode = 1 then neg else if mode = 2 then !neg else if mode = 3 then false else if mode = 4 then true
  else if half ≠ 0 then decide (0 < half) else if mode = 5 then !neg else odd
def rndZ (mode N D : Int) : Int :=
  if N % D = 0 then N / D else if upR mode (decide (N < 0)) (cmpZ (N % D + N % D) D) (decide (N / D % 2 = 1)) = true then N / D + 1 else N / D
theorem rnd_whole {mode N D : Int} (h : N % D = 0) : rndZ mode N D = N / D := if_pos h
theorem rnd_up {mode N D : Int} (h : N % D ≠ 0) (hu : upR mode (decide (N < 0)) (cmpZ (N % D + N % D) D) (decide (N / D % 2 = 1)) = true) : rndZ mode N D = N / D + 1 := by
  unfold rndZ; rw [if_neg h, if_pos hu]
theorem rnd_down {mode N D : Int} (h : N % D ≠ 0) (hu : upR mode (decide (N < 0)) (cmpZ (N % D + N % D) D) (decide (N / D % 2 = 1)) = false) : rndZ mode N D = N / D := by
  unfold rndZ; rw [if_neg h, if_neg (by rw [hu]; simp)]
theorem rnd_beside (mode N D : Int) : rndZ mode N D = N / D ∨ rndZ mode N D = N / D + 1 ∧ N % D ≠ 0 := by
  unfold rndZ
  split
  · exact .inl rfl
  · rename_i h
    split
    · exact .inr ⟨rfl, h⟩
    · exact .inl rfl
theorem div_rest {D : Int} (N : Int) (hD : 0 < D) : N = D * (N / D) + N % D ∧ 0 ≤ N % D ∧ N % D < D :=
  ⟨(Int.mul_ediv_add_emod N D).symm, Int.emod_nonneg _ (by omega), Int.emod_lt_of_pos _ hD⟩
theorem abs_div_le {D : Int} (N : Int) (hD : 0 < D) : (N / D).natAbs ≤ N.natAbs := by
  rcases Int.lt_or_le N 0 with h | h
  · have h1 : N ≤ N / D := Int.le_ediv_of_mul_le hD (by
      have := Int.mul_le_mul_of_nonpos_left (a := N) (b := D) (c := 1) (by omega) (by omega)
      omega)
    have h2 : N / D < 0 := Int.ediv_neg_of_neg_of_pos h hD
    omega
  · have h1 : N / D ≤ N := Int.ediv_le_self _ h
    have h2 : 0 ≤ N / D := Int.ediv_nonneg h (by omega)
    omega
theorem lt_pw32 {x : Nat} {k : Nat} (h : x < 2 ^ k) (hk : k ≤ 1000) : x < pw 32 := by
  obtain ⟨K, hK, e⟩ := pw32_bits
  rw [e]
  exact Nat.lt_of_lt_of_le h (Nat.pow_le_pow_right (by omega) (by omega))
structure Rnd (N D : Int) : Prop where
  pos : 0 < D
  lN : N.natAbs < 2 ^ 510
  lD : D.natAbs < 2 ^ 480
variable {N D : Int}
theorem Rnd.pN (h : Rnd N D) : N.natAbs < pw 32 := lt_pw32 h.lN (by omega)
theorem Rnd.pD (h : Rnd N D) : D.natAbs < pw 32 := lt_pw32 h.lD (by omega)
theorem Rnd.pq (h : Rnd N D) : (N / D).natAbs < pw 32 := Nat.lt_of_le_of_lt (abs_div_le N h.pos) h.pN
theorem two_more {k a : Nat} (h : a < 2 ^ k) : a + 1 < 2 ^ (k + 1) := by
  have h1 := Nat.pow_succ 2 k
  have h2 := Nat.one_le_two_pow (n := k)
  generalize (2:Nat) ^ (k + 1) = B at *
  generalize (2:Nat) ^ k = A at *
  omega
theorem two_twice {k a : Nat} (h : a < 2 ^ k) : a + a < 2 ^ (k + 1) := by
  have h1 := Nat.pow_succ 2 k
  generalize (2:Nat) ^ (k + 1) = B at *
  generalize (2:Nat) ^ k = A at *
  omega
theorem bits_lt {m k : Nat} (h : bl m ≤ k) : m < 2 ^ k := Nat.lt_of_lt_of_le (bl_lt m) (Nat.pow_le_pow_right Nat.zero_lt_two h)
theorem Rnd.pq1 (h : Rnd N D) : (N / D + 1).natAbs < pw 32 := by
  have h1 := abs_div_le N h.pos
  have h2 := two_more h.lN
  have h3 : (N / D + 1).natAbs ≤ N.natAbs + 1 := by omega
  exact lt_pw32 (k := 510 + 1) (Nat.lt_of_le_of_lt h3 h2) (by omega)
theorem Rnd.pr (h : Rnd N D) : (N % D).natAbs < pw 32 := by
  have h1 := div_rest N h.pos
  have h2 := h.pD
  omega
theorem Rnd.prr (h : Rnd N D) : (N % D + N % D).natAbs < pw 32 := by
  have h1 := div_rest N h.pos
  have h2 := two_twice h.lD
  have h3 : (N % D + N % D).natAbs ≤ D.natAbs + D.natAbs := by clear h2; omega
  exact lt_pw32 (k := 480 + 1) (Nat.lt_of_le_of_lt h3 h2) (by omega)
theorem Rnd.pz (h : Rnd N D) (mode : Int) : (rndZ mode N D).natAbs < pw 32 := by
  rcases rnd_beside mode N D with e | ⟨e, -⟩ <;> rw [e]
  · exact h.pq
  · exact h.pq1
theorem Rnd.neg (h : Rnd N D) : N / D < 0 ↔ N < 0 := by
  constructor
  · intro h1
    rcases Int.lt_or_le N 0 with h2 | h2
    · exact h2
    · have := Int.ediv_nonneg h2 (Int.le_of_lt h.pos); omega
  · exact fun h1 => Int.ediv_neg_of_neg_of_pos h1 h.pos
theorem rnd_bits {x y : Int} {a b c : Nat} (h : a + b = c) (hx : x.natAbs < 2 ^ a) (hy : y.natAbs < 2 ^ b) : (x * y).natAbs < 2 ^ c := by
  subst h; exact mul_bits hx hy
theorem rnd_of {s t : Bool} {n m p : Nat} (h : vld s n t m = true) (hp : p ≤ 9) : Rnd (vz s n * ten p) (vz t m) ∧ t = false ∧ 0 < m := by
  obtain ⟨-, ht, h0, hn, hm, -⟩ := vld_parts h
  subst ht
  refine ⟨⟨?_, ?_, ?_⟩, rfl, Nat.pos_of_ne_zero h0⟩
  · show 0 < ((m : Nat) : Int)
    omega
  · have h1 : (vz s n).natAbs < 2 ^ 480 := Nat.lt_of_le_of_lt (Nat.le_of_eq (vz_abs s n)) (bits_lt (k := 480) hn)
    exact rnd_bits (a := 480) (b := 30) (c := 510) rfl h1 (ten_bits hp)
  · exact Nat.lt_of_le_of_lt (Nat.le_of_eq (vz_abs false m)) (bits_lt (k := 480) hm)

def rndE (s : Bool) (n : Nat) (t : Bool) (m : Nat) (p mode : Int) : Int :=
  if vld s n t m = false then 20 else if ¬ (0 ≤ p ∧ p ≤ 9) then 30 else if ¬ (1 ≤ mode ∧ mode ≤ 6) then 31 else 0
def rndQ (s : Bool) (n : Nat) (t : Bool) (m : Nat) (p mode : Int) : Int :=
  if rndE s n t m p mode = 0 then rndZ mode (vz s n * ten p.toNat) (vz t m) else 0
def roundR (s : Bool) (n : Nat) (t : Bool) (m : Nat) (p mode : Int) : Value := .tuple #[.agg (ivZ (rndQ s n t m p mode)), .int .i64 (rndE s n t m p mode)]
def intE (s : Bool) (n : Nat) (t : Bool) (m : Nat) (p mode : Int) : Int :=
  if rndE s n t m p mode = 0 then (if -1000000000000000 ≤ rndQ s n t m p mode ∧ rndQ s n t m p mode ≤ 1000000000000000 then 0 else 33) else rndE s n t m p mode
def roundIntR (s : Bool) (n : Nat) (t : Bool) (m : Nat) (p mode : Int) : Value := .tuple #[.int .i64 (if intE s n t m p mode = 0 then rndQ s n t m p mode else 0), .int .i64 (intE s n t m p mode)]
def quantR (s : Bool) (n : Nat) (t : Bool) (m : Nat) (p mode : Int) : Value :=
  if rndE s n t m p mode = 0 then mkZ (rndQ s n t m p mode) (ten p.toNat) else .tuple #[.agg (rvZ 0 0), .int .i64 (rndE s n t m p mode)]
def exactE (s : Bool) (n : Nat) (t : Bool) (m : Nat) (p : Int) : Int := if vld s n t m = false then 20 else if ¬ (0 ≤ p ∧ p ≤ 9) then 30 else 0
def exactR (s : Bool) (n : Nat) (t : Bool) (m : Nat) (p : Int) : Value :=
  .tuple #[.bool (decide (exactE s n t m p = 0) && decide (vz s n * ten p.toNat % vz t m = 0)), .int .i64 (exactE s n t m p)]
theorem rndE_none {s t : Bool} {n m : Nat} {p mode : Int} (h : rndE s n t m p mode = 0) : vld s n t m = true ∧ (0 ≤ p ∧ p ≤ 9) ∧ 1 ≤ mode ∧ mode ≤ 6 := by
  unfold rndE at h
  split at h
  · omega
  · rename_i hv
    split at h
    · omega
    · rename_i hp
      split at h
      · omega
      · rename_i hm
        exact ⟨by simpa using hv, by omega, by omega⟩
theorem rndQ_fits (s t : Bool) (n m : Nat) (p mode : Int) : (rndQ s n t m p mode).natAbs < pw 32 := by
  unfold rndQ
  split
  · rename_i h
    obtain ⟨hv, hp, -⟩ := rndE_none h
    exact (rnd_of hv (show p.toNat ≤ 9 by omega)).1.pz mode
  · exact pw_pos 32
end Go.Proofs.YtkiefjbfepjcbaaGreatDoor
end
section
namespace Go.Proofs.YtkiefjbfepjcbaaGreatDoor
open Go.RowKit Go.Proofs.YtkiefjbfepjcbaaGreatDoor.Sx
set_option linter.unusedSimpArgs false
set_option linter.unusedVariables false

theorem ten_loop_p (p : Nat) (hp : p ≤ 9) :
    Ev.holds Tryz.prog (env [.int .i64 (p : Nat), .int .i64 (ten p), .int .i64 (p : Nat)]) (.loop 64 0 decS64_0 decH64_0 (.exit 0) .none 2) := by
  refine loop_holds plain (m := 2) (x := .exit 0) (alt := none) [.int .i64 (p : Nat)] [.int .i64 (ten p), .int .i64 (p : Nat)] tpTenTo0_ok tpTenTo0_fine
    (fun vs => ∃ i : Nat, i ≤ p ∧ vs = [.int .i64 (ten i), .int .i64 (i : Nat)])
    (fun vs => p - (vInt (vs.getD 1 undef)).toNat) tpTenTo0_diff ?_ ?_
  · refine ⟨[.int .i64 (ten 0), .int .i64 (0 : Nat)], rfl, ⟨0, by omega, rfl⟩, ?_⟩
    rw [ten_zero]
    simp [tpTenTo0_d, BTm.den, Tm.i, Tm.s, Tm.den, env, vInt, vBool, vStr, exI, SW.den, SV.den, Cell.den, densP, Piece.den, denV, denT]
  · rintro vs hl ⟨i, hi, rfl⟩
    clear hl
    refine tree_ite (ev_nil ⟨fun hlt => tree_leaf ?_, fun hlt => tree_leaf (ev_nil ?_)⟩)
    · have hlt : i < p := by
        have : (i : Int) < p := by simpa [BTm.den, Tm.i, Tm.s, Tm.den, env, vInt, vBool, vStr, exI] using hlt
        omega
      have h1 := ten_le (show i + 1 ≤ 9 by omega)
      have h2 := ten_pos i
      have h3 := ten_succ i
      obtain ⟨T, hT⟩ : ∃ T, T = ten i := ⟨_, rfl⟩
      obtain ⟨T', hT'⟩ : ∃ T, T = ten (i + 1) := ⟨_, rfl⟩
      rw [← hT] at h2 h3 ⊢
      rw [← hT'] at h1 h3
      refine ev_fits (T * 10) (by simp [BTm.den, Tm.i, Tm.s, Tm.den, env, vInt, vBool, vStr, exI]) (rng_i64 _ (by omega)) ?_
      refine ev_fits ((i : Int) + 1) (by simp [BTm.den, Tm.i, Tm.s, Tm.den, env, vInt, vBool, vStr, exI]) (rng_i64 _ (by omega)) ?_
      refine ev_nil ⟨[.int .i64 T', .int .i64 (i + 1 : Nat)], rfl, ⟨i + 1, by omega, by rw [hT']⟩, by simp [vInt]; omega, ?_⟩
      simp [BTm.den, Tm.i, Tm.s, Tm.den, env, vInt, vBool, vStr, exI, SW.den, SV.den, Cell.den, densP, Piece.den, denV, denT, h3]
    · have hlt : ¬ (i : Int) < p := by simpa [BTm.den, Tm.i, Tm.s, Tm.den, env, vInt, vBool, vStr, exI] using hlt
      obtain rfl : i = p := by omega
      refine ⟨rfl, ?_⟩
      simp [BTm.den, Tm.i, Tm.s, Tm.den, env, vInt, vBool, vStr, exI, SW.den, SV.den, Cell.den, densP, Piece.den, denV, denT]
theorem ten_loop_d (p : Nat) (hp : p ≤ 9) :
    Ev.holds Tryz.prog (env [.int .i64 (p : Nat), .int .i64 (ten p), .int .i64 (p : Nat)]) (.loop 66 0 decS66_0 decH66_0 (.exit 0) .none 2) := by
  refine loop_holds plain (m := 2) (x := .exit 0) (alt := none) [.int .i64 (p : Nat)] [.int .i64 (ten p), .int .i64 (p : Nat)] tdPower0_ok tdPower0_fine
    (fun vs => ∃ i : Nat, i ≤ p ∧ vs = [.int .i64 (ten i), .int .i64 (i : Nat)])
    (fun vs => p - (vInt (vs.getD 1 undef)).toNat) tdPower0_diff ?_ ?_
  · refine ⟨[.int .i64 (ten 0), .int .i64 (0 : Nat)], rfl, ⟨0, by omega, rfl⟩, ?_⟩
    rw [ten_zero]
    simp [tdPower0_d, BTm.den, Tm.i, Tm.s, Tm.den, env, vInt, vBool, vStr, exI, SW.den, SV.den, Cell.den, densP, Piece.den, denV, denT]
  · rintro vs hl ⟨i, hi, rfl⟩
    clear hl
    refine tree_ite (ev_nil ⟨fun hlt => tree_leaf ?_, fun hlt => tree_leaf (ev_nil ?_)⟩)
    · have hlt : i < p := by
        have : (i : Int) < p := by simpa [BTm.den, Tm.i, Tm.s, Tm.den, env, vInt, vBool, vStr, exI] using hlt
        omega
      have h1 := ten_le (show i + 1 ≤ 9 by omega)
      have h2 := ten_pos i
      have h3 := ten_succ i
      obtain ⟨T, hT⟩ : ∃ T, T = ten i := ⟨_, rfl⟩
      obtain ⟨T', hT'⟩ : ∃ T, T = ten (i + 1) := ⟨_, rfl⟩
      rw [← hT] at h2 h3 ⊢
      rw [← hT'] at h1 h3
      refine ev_fits (T * 10) (by simp [BTm.den, Tm.i, Tm.s, Tm.den, env, vInt, vBool, vStr, exI]) (rng_i64 _ (by omega)) ?_
      refine ev_fits ((i : Int) + 1) (by simp [BTm.den, Tm.i, Tm.s, Tm.den, env, vInt, vBool, vStr, exI]) (rng_i64 _ (by omega)) ?_
      refine ev_nil ⟨[.int .i64 T', .int .i64 (i + 1 : Nat)], rfl, ⟨i + 1, by omega, by rw [hT']⟩, by simp [vInt]; omega, ?_⟩
      simp [BTm.den, Tm.i, Tm.s, Tm.den, env, vInt, vBool, vStr, exI, SW.den, SV.den, Cell.den, densP, Piece.den, denV, denT, h3]
    · have hlt : ¬ (i : Int) < p := by simpa [BTm.den, Tm.i, Tm.s, Tm.den, env, vInt, vBool, vStr, exI] using hlt
      obtain rfl : i = p := by omega
      refine ⟨rfl, ?_⟩
      simp [BTm.den, Tm.i, Tm.s, Tm.den, env, vInt, vBool, vStr, exI, SW.den, SV.den, Cell.den, densP, Piece.den, denV, denT]
theorem ten_p (p : Nat) (hp : p ≤ 9) : Gives Tryz.prog 64 #[.int .i64 (p : Nat)] (.int .i64 (ten p)) := by
  have main : tpTenTo.den Tryz.prog (fun ρ' ret => ∀ β, ret.val.den (env ρ') β = .int .i64 (ten p)) [.int .i64 (p : Nat)] := by
    refine tree_leaf ?_
    refine ev_loop [.int .i64 (ten p), .int .i64 (p : Nat)] rfl rfl (ten_loop_p p hp) ?_
    refine ev_nil fun β => ?_
    simp [BTm.den, Tm.i, Tm.s, Tm.den, env, vInt, vBool, vStr, exI, SW.den, SV.den, Cell.den, densP, Piece.den, denV, denT]
  have h := pure_of plain [.int .i64 ((p : Nat) : Int)] tpTenTo_ok (by kernel_rfl) _ main
  refine gives_pure ?_
  simpa [intW, BTm.den, Tm.i, Tm.s, Tm.den, env, vInt, vBool, vStr, exI, SW.den, SV.den, Cell.den, densP, Piece.den, denV, denT] using h
theorem ten_d (p : Nat) (hp : p ≤ 9) : Gives Tryz.prog 66 #[.int .i64 (p : Nat)] (.agg (rvZ (ten p) 1)) := by
  have h1 := ten_le hp
  have h2 := ten_pos p
  have g := whole_d (ten p) (by omega)
  have hl := ten_loop_d p hp
  obtain ⟨T, hT⟩ : ∃ T, T = ten p := ⟨_, rfl⟩
  rw [← hT] at g hl ⊢
  have main : tdPower.den Tryz.prog (fun ρ' ret => ∀ β, ret.val.den (env ρ') β = .agg (rvZ T 1)) [.int .i64 (p : Nat)] := by
    refine tree_leaf ?_
    refine ev_loop [.int .i64 T, .int .i64 (p : Nat)] rfl rfl hl ?_
    refine ev_zc [.bool (decide (T < 0)), .agg (mgk 32 (T : Int).natAbs), .bool (decide (1 < 0)), .agg (mgk 32 (1 : Int).natAbs)] (pure_gives (g)) ?_
    refine ev_nil fun β => ?_
    simp [BTm.den, Tm.i, Tm.s, Tm.den, env, vInt, vBool, vStr, exI, SW.den, SV.den, Cell.den, densP, Piece.den, denV, rowCells_mgk, iv_list, rv_list, ivZ, rvZ, mgl_agg]
  have h := pure_of plain [.int .i64 ((p : Nat) : Int)] tdPower_ok (by kernel_rfl) _ main
  refine gives_pure ?_
  simpa [intW, BTm.den, Tm.i, Tm.s, Tm.den, env, vInt, vBool, vStr, exI, SW.den, SV.den, Cell.den, densP, Piece.den, denV, denT] using h
end Go.Proofs.YtkiefjbfepjcbaaGreatDoor
end
section
namespace Go.Proofs.YtkiefjbfepjcbaaGreatDoor
open Go.RowKit Go.Proofs.YtkiefjbfepjcbaaGreatDoor.Sx
set_option linter.unusedSimpArgs false
set_option linter.unusedVariables false

theorem upR_1 (n o : Bool) (h : Int) : upR 1 n h o = n := rfl
theorem upR_2 (n o : Bool) (h : Int) : upR 2 n h o = !n := rfl
theorem upR_3 (n o : Bool) (h : Int) : upR 3 n h o = false := rfl
theorem upR_4 (n o : Bool) (h : Int) : upR 4 n h o = true := rfl
theorem upR_5 (n o : Bool) (h : Int) : upR 5 n h o = if h ≠ 0 then decide (0 < h) else !n := rfl
theorem upR_6 (n o : Bool) (h : Int) : upR 6 n h o = if h ≠ 0 then decide (0 < h) else o := rfl
theorem limb_odd (z : Int) : ((limb z.natAbs 0 : Nat) : Int).tmod 2 = (if z % 2 = 1 then 1 else 0 : Int) := by
  have h1 : limb z.natAbs 0 = z.natAbs % 4294967296 := by unfold limb; rw [pw_zero, Nat.div_one]
  have h2 : ((limb z.natAbs 0 : Nat) : Int).tmod 2 = ((limb z.natAbs 0 : Nat) : Int) % 2 := Int.tmod_eq_emod_of_nonneg (by omega)
  rw [h2, h1]
  split <;> omega
theorem sgq_neg {z : Int} : sgn z < 0 ↔ z < 0 := by unfold sgn; split <;> (try split) <;> omega
theorem sgq_zero {z : Int} : sgn z = 0 ↔ z = 0 := by unfold sgn; split <;> (try split) <;> omega
structure Steps (mode N D : Int) (q R q1 sq sR hf o z : Int) : Prop where
  hR : sR = 0 ↔ R = 0
  neg : sq < 0 ↔ N < 0
  whole : R = 0 → z = q
  up1 : R ≠ 0 → mode = 1 → sq < 0 → z = q1
  dn1 : R ≠ 0 → mode = 1 → ¬ sq < 0 → z = q
  up2 : R ≠ 0 → mode = 2 → ¬ sq < 0 → z = q1
  dn2 : R ≠ 0 → mode = 2 → sq < 0 → z = q
  dn3 : R ≠ 0 → mode = 3 → z = q
  up4 : R ≠ 0 → mode = 4 → z = q1
  upm : R ≠ 0 → mode = 5 ∨ mode = 6 → 0 < hf → z = q1
  dnm : R ≠ 0 → mode = 5 ∨ mode = 6 → hf < 0 → z = q
  up5 : R ≠ 0 → mode = 5 → hf = 0 → ¬ sq < 0 → z = q1
  dn5 : R ≠ 0 → mode = 5 → hf = 0 → sq < 0 → z = q
  up6 : R ≠ 0 → mode = 6 → hf = 0 → o = 1 → z = q1
  dn6 : R ≠ 0 → mode = 6 → hf = 0 → o = 0 → z = q
theorem steps_of {mode N D : Int} (h : Rnd N D) : Steps mode N D (N / D) (N % D) (N / D + 1) (sgn (N / D)) (sgn (N % D)) (cmpZ (N % D + N % D) D) (if N / D % 2 = 1 then 1 else 0) (rndZ mode N D) := by
  have hn : sgn (N / D) < 0 ↔ N < 0 := sgq_neg.trans h.neg
  have dT : ∀ {p : Prop} [Decidable p], p → decide p = true := fun hp => decide_eq_true hp
  have dF : ∀ {p : Prop} [Decidable p], ¬ p → decide p = false := fun hp => decide_eq_false hp
  refine ⟨sgq_zero, hn, rnd_whole, ?_, ?_, ?_, ?_, ?_, ?_, ?_, ?_, ?_, ?_, ?_, ?_⟩
  · intro hR hm hs; subst hm; exact rnd_up hR (by rw [upR_1]; exact dT (hn.1 hs))
  · intro hR hm hs; subst hm; exact rnd_down hR (by rw [upR_1]; exact dF fun e => hs (hn.2 e))
  · intro hR hm hs; subst hm; exact rnd_up hR (by rw [upR_2, dF fun e => hs (hn.2 e)]; rfl)
  · intro hR hm hs; subst hm; exact rnd_down hR (by rw [upR_2, dT (hn.1 hs)]; rfl)
  · intro hR hm; subst hm; exact rnd_down hR (upR_3 _ _ _)
  · intro hR hm; subst hm; exact rnd_up hR (upR_4 _ _ _)
  · intro hR hm hf; rcases hm with hm | hm <;> subst hm
    · exact rnd_up hR (by rw [upR_5, if_pos (by omega)]; exact dT hf)
    · exact rnd_up hR (by rw [upR_6, if_pos (by omega)]; exact dT hf)
  · intro hR hm hf; rcases hm with hm | hm <;> subst hm
    · exact rnd_down hR (by rw [upR_5, if_pos (by omega)]; exact dF (by omega))
    · exact rnd_down hR (by rw [upR_6, if_pos (by omega)]; exact dF (by omega))
  · intro hR hm hf hs; subst hm; exact rnd_up hR (by rw [upR_5, if_neg (by omega), dF fun e => hs (hn.2 e)]; rfl)
  · intro hR hm hf hs; subst hm; exact rnd_down hR (by rw [upR_5, if_neg (by omega), dT (hn.1 hs)]; rfl)
  · intro hR hm hf ho; subst hm; exact rnd_up hR (by rw [upR_6, if_neg (by omega)]; exact dT (by revert ho; split <;> omega))
  · intro hR hm hf ho; subst hm; exact rnd_down hR (by rw [upR_6, if_neg (by omega)]; exact dF (by revert ho; split <;> omega))
set_option maxHeartbeats 8000000 in
theorem round_p (s t : Bool) (n m : Nat) (p mode : Int) (hn : n < pw 32) (hm : m < pw 32) :
    Gives Tryz.prog 11 #[.agg (rv s n t m), .int .i64 p, .int .i64 mode] (roundR s n t m p mode) := by
  have p1 := pValid s t n m hn hm
  obtain ⟨V, hV⟩ : ∃ V, V = roundR s n t m p mode := ⟨_, rfl⟩
  rw [← hV]
  have err : ∀ e : Int, e ≠ 0 → rndE s n t m p mode = e → V = .tuple #[.agg (ivZ 0), .int .i64 e] := fun e he h => by
    rw [hV]; unfold roundR rndQ; rw [h, if_neg he]
  have main : tpRound.den Tryz.prog (fun ρ' ret => ∀ β, ret.val.den (env ρ') β = V) [.bool s, .agg (mgk 32 n), .bool t, .agg (mgk 32 m), .int .i64 p, .int .i64 mode] := by
    refine tree_ite ?_
    obtain ⟨v1, hv1⟩ : ∃ b, b = vld s n t m := ⟨_, rfl⟩
    rw [← hv1] at p1
    refine ev_zc [.bool v1] (pure_gives (p1)) ?_
    by_cases hv : v1 = true
    · rw [hv1] at hv
      refine ev_nil (way_true (by simp [BTm.den, Tm.i, Tm.s, Tm.den, env, vInt, vBool, vStr, exI, hv1, hv]) (tree_ite ?_))
      by_cases h0 : p < 0
      · refine ev_nil (way_true (by simp [BTm.den, Tm.i, Tm.s, Tm.den, env, vInt, vBool, vStr, exI] <;> omega) (tree_leaf ?_))
        refine ev_nil fun β => ?_
        rw [err 30 (by omega) (by unfold rndE; rw [hv, if_neg (by simp), if_pos (by omega)]), ← zero_num]; simp [BTm.den, Tm.i, Tm.s, Tm.den, env, vInt, vBool, vStr, exI, SW.den, SV.den, Cell.den, densP, Piece.den, denV, denT]
      refine ev_nil (way_false (by simp [BTm.den, Tm.i, Tm.s, Tm.den, env, vInt, vBool, vStr, exI] <;> omega) (tree_ite ?_))
      by_cases h9 : 9 < p
      · refine ev_nil (way_true (by simp [BTm.den, Tm.i, Tm.s, Tm.den, env, vInt, vBool, vStr, exI] <;> omega) (tree_leaf ?_))
        refine ev_nil fun β => ?_
        rw [err 30 (by omega) (by unfold rndE; rw [hv, if_neg (by simp), if_pos (by omega)]), ← zero_num]; simp [BTm.den, Tm.i, Tm.s, Tm.den, env, vInt, vBool, vStr, exI, SW.den, SV.den, Cell.den, densP, Piece.den, denV, denT]
      refine ev_nil (way_false (by simp [BTm.den, Tm.i, Tm.s, Tm.den, env, vInt, vBool, vStr, exI] <;> omega) (tree_ite ?_))
      obtain ⟨P, rfl⟩ : ∃ P : Nat, p = (P : Nat) := ⟨p.toNat, by omega⟩
      have hP : P ≤ 9 := by omega
      have e31 : mode < 1 ∨ 6 < mode → V = .tuple #[.agg (ivZ 0), .int .i64 31] := fun h => err 31 (by omega) (by unfold rndE; rw [hv, if_neg (by simp), if_neg (by omega), if_pos (by omega)])
      have eV : 1 ≤ mode ∧ mode ≤ 6 → V = .tuple #[.agg (ivZ (rndZ mode (vz s n * ten P) (vz t m))), .int .i64 0] := fun h => by
        have e0 : rndE s n t m (P : Nat) mode = 0 := by unfold rndE; rw [hv, if_neg (by simp), if_neg (by omega), if_neg (by omega)]
        rw [hV]; unfold roundR rndQ; rw [e0, if_pos rfl]; rfl
      obtain ⟨hr, ht, h0m⟩ := rnd_of (p := P) hv hP
      have hS := steps_of (mode := mode) hr
      have hpz := hr.pz mode
      have gT := ten_p P hP
      have t1 := ten_le hP
      have t2 := ten_pos P
      have gF := fromInt_any (ten P) (by omega)
      have gM := mul_any s (decide (ten P < 0)) n (ten P).natAbs hn (lt_pw32 (ten_bits hP) (by omega))
      rw [vz_self, resZ_fits hr.pN] at gM
      have gD := divMod_of (decide (vz s n * ten P < 0)) t (vz s n * ten P).natAbs m hr.pN hm h0m (divide_any _ m hr.pN hm h0m)
      rw [vz_self] at gD
      unfold divR at gD
      have gA := add_Z _ _ _ rfl hr.pr hr.pr hr.prr
      have gC := cmp_any (decide (vz s n * ten P % vz t m + vz s n * ten P % vz t m < 0)) t (vz s n * ten P % vz t m + vz s n * ten P % vz t m).natAbs m hr.prr hm
      rw [vz_self] at gC
      have gS := sign_Z _ hr.pr
      have gQ := sign_Z _ hr.pq
      have gO := fromInt_any 1 (by omega)
      have gI := add_Z _ 1 _ rfl hr.pq (lt_pw32 (k := 1) (by decide) (by omega)) hr.pq1
      have hod := limb_odd (vz s n * ten P / vz t m)
      have hxl := limb_lt (vz s n * ten P / vz t m).natAbs 0
      have hel : ((mgl 32 (vz s n * ten P / vz t m).natAbs).drop 0).take 1 = [.int .u32 ((limb (vz s n * ten P / vz t m).natAbs 0 : Nat) : Int)] := mgl_elem (by omega)
      obtain ⟨x, hx⟩ : ∃ x, x = limb (vz s n * ten P / vz t m).natAbs 0 := ⟨_, rfl⟩
      rw [← hx] at hod hel hxl
      generalize (if vz s n * ten P / vz t m % 2 = 1 then 1 else 0 : Int) = o at hod hS
      generalize rndZ mode (vz s n * ten P) (vz t m) = z at hS eV hpz
      generalize sgn (vz s n * ten P / vz t m) = sq at hS gQ
      generalize sgn (vz s n * ten P % vz t m) = sR at hS gS
      generalize cmpZ (vz s n * ten P % vz t m + vz s n * ten P % vz t m) (vz t m) = hf at hS gC
      generalize vz s n * ten P % vz t m + vz s n * ten P % vz t m = RR at gA gC
      generalize vz s n * ten P / vz t m + 1 = q1 at hS gI
      generalize vz s n * ten P / vz t m = q at hS gD gI gQ hel hx
      generalize vz s n * ten P % vz t m = R at hS gD gA gS
      generalize vz s n * ten P = N at hS gM gD
      generalize ten P = T at gT gF gM
      clear hr hv1 p1 err
      obtain ⟨s1, s2, s3, s4, s5, s6, s7, s8, s9, s10, s11, s12, s13, s14, s15⟩ := hS
      refine ev_zc [.int .i64 T] (pure_gives (gT)) ?_
      refine ev_zc [.bool (decide (T < 0)), .agg (mgk 32 (T : Int).natAbs)] (pure_gives (gF)) ?_
      refine ev_zc [.bool (decide (N < 0)), .agg (mgk 32 (N : Int).natAbs), .int .i64 0] (pure_gives (gM)) ?_
      refine ev_zc [.bool (decide (q < 0)), .agg (mgk 32 (q : Int).natAbs), .bool (decide (R < 0)), .agg (mgk 32 (R : Int).natAbs), .int .i64 0] (pure_gives (gD)) ?_
      refine ev_zc [.bool (decide (RR < 0)), .agg (mgk 32 (RR : Int).natAbs), .int .i64 0] (pure_gives (gA)) ?_
      refine ev_zc [.int .i64 hf] (pure_gives (gC)) ?_
      refine ev_zc [.int .i64 sR] (pure_gives (gS)) ?_
      have hrem : x % 2 < 4294967296 := by omega
      by_cases hR : R = 0
      · have hzq := s3 hR
        have hsR := s1.2 hR
        have leaf : ∀ e31' : 1 ≤ mode ∧ mode ≤ 6, V = .tuple #[.agg (ivZ q), .int .i64 0] := fun h => by rw [eV h, hzq]
        refine ev_nil (way_true (by simp [BTm.den, Tm.i, Tm.s, Tm.den, env, vInt, vBool, vStr, exI] <;> omega) (tree_ite ?_))
        by_cases m1 : mode = 1
        · refine ev_nil (way_true (by simp [BTm.den, Tm.i, Tm.s, Tm.den, env, vInt, vBool, vStr, exI] <;> omega) (tree_ite ?_))
          refine ev_zc [.int .i64 sq] (pure_gives (gQ)) ?_
          by_cases hs : sq < 0
          · refine ev_nil (way_true (by simp [BTm.den, Tm.i, Tm.s, Tm.den, env, vInt, vBool, vStr, exI] <;> omega) (tree_leaf ?_))
            refine ev_nil fun β => ?_
            rw [leaf (by omega)]; simp [BTm.den, Tm.i, Tm.s, Tm.den, env, vInt, vBool, vStr, exI, SW.den, SV.den, Cell.den, densP, Piece.den, denV, rowCells_mgk, iv_list, rv_list, ivZ, rvZ, mgl_agg]
          · refine ev_nil (way_false (by simp [BTm.den, Tm.i, Tm.s, Tm.den, env, vInt, vBool, vStr, exI] <;> omega) (tree_leaf ?_))
            refine ev_nil fun β => ?_
            rw [leaf (by omega)]; simp [BTm.den, Tm.i, Tm.s, Tm.den, env, vInt, vBool, vStr, exI, SW.den, SV.den, Cell.den, densP, Piece.den, denV, rowCells_mgk, iv_list, rv_list, ivZ, rvZ, mgl_agg]
        refine ev_nil (way_false (by simp [BTm.den, Tm.i, Tm.s, Tm.den, env, vInt, vBool, vStr, exI] <;> omega) (tree_ite ?_))
        by_cases m2 : mode = 2
        · refine ev_nil (way_true (by simp [BTm.den, Tm.i, Tm.s, Tm.den, env, vInt, vBool, vStr, exI] <;> omega) (tree_ite ?_))
          refine ev_zc [.int .i64 sq] (pure_gives (gQ)) ?_
          by_cases hs : sq < 0
          · refine ev_nil (way_true (by simp [BTm.den, Tm.i, Tm.s, Tm.den, env, vInt, vBool, vStr, exI] <;> omega) (tree_leaf ?_))
            refine ev_nil fun β => ?_
            rw [leaf (by omega)]; simp [BTm.den, Tm.i, Tm.s, Tm.den, env, vInt, vBool, vStr, exI, SW.den, SV.den, Cell.den, densP, Piece.den, denV, rowCells_mgk, iv_list, rv_list, ivZ, rvZ, mgl_agg]
          · refine ev_nil (way_false (by simp [BTm.den, Tm.i, Tm.s, Tm.den, env, vInt, vBool, vStr, exI] <;> omega) (tree_leaf ?_))
            refine ev_nil fun β => ?_
            rw [leaf (by omega)]; simp [BTm.den, Tm.i, Tm.s, Tm.den, env, vInt, vBool, vStr, exI, SW.den, SV.den, Cell.den, densP, Piece.den, denV, rowCells_mgk, iv_list, rv_list, ivZ, rvZ, mgl_agg]
        refine ev_nil (way_false (by simp [BTm.den, Tm.i, Tm.s, Tm.den, env, vInt, vBool, vStr, exI] <;> omega) (tree_ite ?_))
        by_cases m3 : mode = 3
        · refine ev_nil (way_true (by simp [BTm.den, Tm.i, Tm.s, Tm.den, env, vInt, vBool, vStr, exI] <;> omega) (tree_leaf ?_))
          refine ev_nil fun β => ?_
          rw [leaf (by omega)]; simp [BTm.den, Tm.i, Tm.s, Tm.den, env, vInt, vBool, vStr, exI, SW.den, SV.den, Cell.den, densP, Piece.den, denV, rowCells_mgk, iv_list, rv_list, ivZ, rvZ, mgl_agg]
        refine ev_nil (way_false (by simp [BTm.den, Tm.i, Tm.s, Tm.den, env, vInt, vBool, vStr, exI] <;> omega) (tree_ite ?_))
        by_cases m4 : mode = 4
        · refine ev_nil (way_true (by simp [BTm.den, Tm.i, Tm.s, Tm.den, env, vInt, vBool, vStr, exI] <;> omega) (tree_leaf ?_))
          refine ev_nil fun β => ?_
          rw [leaf (by omega)]; simp [BTm.den, Tm.i, Tm.s, Tm.den, env, vInt, vBool, vStr, exI, SW.den, SV.den, Cell.den, densP, Piece.den, denV, rowCells_mgk, iv_list, rv_list, ivZ, rvZ, mgl_agg]
        refine ev_nil (way_false (by simp [BTm.den, Tm.i, Tm.s, Tm.den, env, vInt, vBool, vStr, exI] <;> omega) (tree_ite ?_))
        by_cases m5 : mode = 5
        · refine ev_nil (way_true (by simp [BTm.den, Tm.i, Tm.s, Tm.den, env, vInt, vBool, vStr, exI] <;> omega) (tree_ite ?_))
          by_cases h1 : hf < 0
          · refine ev_nil (way_true (by simp [BTm.den, Tm.i, Tm.s, Tm.den, env, vInt, vBool, vStr, exI] <;> omega) (tree_leaf ?_))
            refine ev_nil fun β => ?_
            rw [leaf (by omega)]; simp [BTm.den, Tm.i, Tm.s, Tm.den, env, vInt, vBool, vStr, exI, SW.den, SV.den, Cell.den, densP, Piece.den, denV, rowCells_mgk, iv_list, rv_list, ivZ, rvZ, mgl_agg]
          refine ev_nil (way_false (by simp [BTm.den, Tm.i, Tm.s, Tm.den, env, vInt, vBool, vStr, exI] <;> omega) (tree_ite ?_))
          by_cases h2 : 0 < hf
          · refine ev_nil (way_true (by simp [BTm.den, Tm.i, Tm.s, Tm.den, env, vInt, vBool, vStr, exI] <;> omega) (tree_leaf ?_))
            refine ev_nil fun β => ?_
            rw [leaf (by omega)]; simp [BTm.den, Tm.i, Tm.s, Tm.den, env, vInt, vBool, vStr, exI, SW.den, SV.den, Cell.den, densP, Piece.den, denV, rowCells_mgk, iv_list, rv_list, ivZ, rvZ, mgl_agg]
          refine ev_nil (way_false (by simp [BTm.den, Tm.i, Tm.s, Tm.den, env, vInt, vBool, vStr, exI] <;> omega) (tree_ite ?_))
          refine ev_zc [.int .i64 sq] (pure_gives (gQ)) ?_
          by_cases hs : sq < 0
          · refine ev_nil (way_true (by simp [BTm.den, Tm.i, Tm.s, Tm.den, env, vInt, vBool, vStr, exI] <;> omega) (tree_leaf ?_))
            refine ev_nil fun β => ?_
            rw [leaf (by omega)]; simp [BTm.den, Tm.i, Tm.s, Tm.den, env, vInt, vBool, vStr, exI, SW.den, SV.den, Cell.den, densP, Piece.den, denV, rowCells_mgk, iv_list, rv_list, ivZ, rvZ, mgl_agg]
          · refine ev_nil (way_false (by simp [BTm.den, Tm.i, Tm.s, Tm.den, env, vInt, vBool, vStr, exI] <;> omega) (tree_leaf ?_))
            refine ev_nil fun β => ?_
            rw [leaf (by omega)]; simp [BTm.den, Tm.i, Tm.s, Tm.den, env, vInt, vBool, vStr, exI, SW.den, SV.den, Cell.den, densP, Piece.den, denV, rowCells_mgk, iv_list, rv_list, ivZ, rvZ, mgl_agg]
        refine ev_nil (way_false (by simp [BTm.den, Tm.i, Tm.s, Tm.den, env, vInt, vBool, vStr, exI] <;> omega) (tree_ite ?_))
        by_cases m6 : mode = 6
        · refine ev_nil (way_true (by simp [BTm.den, Tm.i, Tm.s, Tm.den, env, vInt, vBool, vStr, exI] <;> omega) (tree_ite ?_))
          by_cases h1 : hf < 0
          · refine ev_nil (way_true (by simp [BTm.den, Tm.i, Tm.s, Tm.den, env, vInt, vBool, vStr, exI] <;> omega) (tree_leaf ?_))
            refine ev_nil fun β => ?_
            rw [leaf (by omega)]; simp [BTm.den, Tm.i, Tm.s, Tm.den, env, vInt, vBool, vStr, exI, SW.den, SV.den, Cell.den, densP, Piece.den, denV, rowCells_mgk, iv_list, rv_list, ivZ, rvZ, mgl_agg]
          refine ev_nil (way_false (by simp [BTm.den, Tm.i, Tm.s, Tm.den, env, vInt, vBool, vStr, exI] <;> omega) (tree_ite ?_))
          by_cases h2 : 0 < hf
          · refine ev_nil (way_true (by simp [BTm.den, Tm.i, Tm.s, Tm.den, env, vInt, vBool, vStr, exI] <;> omega) (tree_leaf ?_))
            refine ev_nil fun β => ?_
            rw [leaf (by omega)]; simp [BTm.den, Tm.i, Tm.s, Tm.den, env, vInt, vBool, vStr, exI, SW.den, SV.den, Cell.den, densP, Piece.den, denV, rowCells_mgk, iv_list, rv_list, ivZ, rvZ, mgl_agg]
          refine ev_nil (way_false (by simp [BTm.den, Tm.i, Tm.s, Tm.den, env, vInt, vBool, vStr, exI] <;> omega) (tree_ite ?_))
          refine ev_elem [.int .u32 (x : Nat)] rfl rfl (l := mgl 32 q.natAbs) (m := [.int .u32 (x : Nat)]) (k := 0) (by simp [BTm.den, Tm.i, Tm.s, Tm.den, env, vInt, vBool, vStr, exI]) (fun β => rowCells_mgk 32 _) (fun β => rfl) hel ?_
          refine ev_fits o (by simp [BTm.den, Tm.i, Tm.s, Tm.den, env, vInt, vBool, vStr, exI, hod]) (rng_u32 _ (by rw [← hod, Int.tmod_eq_emod_of_nonneg (by omega)]; omega)) ?_
          by_cases ho : o = 0
          · refine ev_nil (way_true (by simp [BTm.den, Tm.i, Tm.s, Tm.den, env, vInt, vBool, vStr, exI, hod, ho]) (tree_leaf ?_))
            refine ev_nil fun β => ?_
            rw [leaf (by omega)]; simp [BTm.den, Tm.i, Tm.s, Tm.den, env, vInt, vBool, vStr, exI, SW.den, SV.den, Cell.den, densP, Piece.den, denV, rowCells_mgk, iv_list, rv_list, ivZ, rvZ, mgl_agg]
          · refine ev_nil (way_false (by simp [BTm.den, Tm.i, Tm.s, Tm.den, env, vInt, vBool, vStr, exI, hod, ho]) (tree_leaf ?_))
            refine ev_nil fun β => ?_
            rw [leaf (by omega)]; simp [BTm.den, Tm.i, Tm.s, Tm.den, env, vInt, vBool, vStr, exI, SW.den, SV.den, Cell.den, densP, Piece.den, denV, rowCells_mgk, iv_list, rv_list, ivZ, rvZ, mgl_agg]
        refine ev_nil (way_false (by simp [BTm.den, Tm.i, Tm.s, Tm.den, env, vInt, vBool, vStr, exI] <;> omega) (tree_leaf ?_))
        refine ev_nil fun β => ?_
        rw [e31 (by omega), ← zero_num]; simp [BTm.den, Tm.i, Tm.s, Tm.den, env, vInt, vBool, vStr, exI, SW.den, SV.den, Cell.den, densP, Piece.den, denV, denT]
      · have hsR : sR ≠ 0 := fun e => hR (s1.1 e)
        have up : 1 ≤ mode ∧ mode ≤ 6 → z = q1 → V = .tuple #[.agg (ivZ q1), .int .i64 0] := fun h e => by rw [eV h, e]
        have dn : 1 ≤ mode ∧ mode ≤ 6 → z = q → V = .tuple #[.agg (ivZ q), .int .i64 0] := fun h e => by rw [eV h, e]
        refine ev_nil (way_false (by simp [BTm.den, Tm.i, Tm.s, Tm.den, env, vInt, vBool, vStr, exI] <;> omega) (tree_ite ?_))
        refine ev_zc [.bool (decide (1 < 0)), .agg (mgk 32 (1 : Int).natAbs)] (pure_gives (gO)) ?_
        refine ev_zc [.bool (decide (q1 < 0)), .agg (mgk 32 (q1 : Int).natAbs), .int .i64 0] (pure_gives (gI)) ?_
        by_cases m1 : mode = 1
        · refine ev_nil (way_true (by simp [BTm.den, Tm.i, Tm.s, Tm.den, env, vInt, vBool, vStr, exI] <;> omega) (tree_ite ?_))
          refine ev_zc [.int .i64 sq] (pure_gives (gQ)) ?_
          by_cases hs : sq < 0
          · refine ev_nil (way_true (by simp [BTm.den, Tm.i, Tm.s, Tm.den, env, vInt, vBool, vStr, exI] <;> omega) (tree_leaf ?_))
            refine ev_nil fun β => ?_
            rw [up (by omega) (s4 hR m1 hs)]; simp [BTm.den, Tm.i, Tm.s, Tm.den, env, vInt, vBool, vStr, exI, SW.den, SV.den, Cell.den, densP, Piece.den, denV, rowCells_mgk, iv_list, rv_list, ivZ, rvZ, mgl_agg]
          · refine ev_nil (way_false (by simp [BTm.den, Tm.i, Tm.s, Tm.den, env, vInt, vBool, vStr, exI] <;> omega) (tree_leaf ?_))
            refine ev_nil fun β => ?_
            rw [dn (by omega) (s5 hR m1 hs)]; simp [BTm.den, Tm.i, Tm.s, Tm.den, env, vInt, vBool, vStr, exI, SW.den, SV.den, Cell.den, densP, Piece.den, denV, rowCells_mgk, iv_list, rv_list, ivZ, rvZ, mgl_agg]
        refine ev_nil (way_false (by simp [BTm.den, Tm.i, Tm.s, Tm.den, env, vInt, vBool, vStr, exI] <;> omega) (tree_ite ?_))
        by_cases m2 : mode = 2
        · refine ev_nil (way_true (by simp [BTm.den, Tm.i, Tm.s, Tm.den, env, vInt, vBool, vStr, exI] <;> omega) (tree_ite ?_))
          refine ev_zc [.int .i64 sq] (pure_gives (gQ)) ?_
          by_cases hs : sq < 0
          · refine ev_nil (way_true (by simp [BTm.den, Tm.i, Tm.s, Tm.den, env, vInt, vBool, vStr, exI] <;> omega) (tree_leaf ?_))
            refine ev_nil fun β => ?_
            rw [dn (by omega) (s7 hR m2 hs)]; simp [BTm.den, Tm.i, Tm.s, Tm.den, env, vInt, vBool, vStr, exI, SW.den, SV.den, Cell.den, densP, Piece.den, denV, rowCells_mgk, iv_list, rv_list, ivZ, rvZ, mgl_agg]
          · refine ev_nil (way_false (by simp [BTm.den, Tm.i, Tm.s, Tm.den, env, vInt, vBool, vStr, exI] <;> omega) (tree_leaf ?_))
            refine ev_nil fun β => ?_
            rw [up (by omega) (s6 hR m2 hs)]; simp [BTm.den, Tm.i, Tm.s, Tm.den, env, vInt, vBool, vStr, exI, SW.den, SV.den, Cell.den, densP, Piece.den, denV, rowCells_mgk, iv_list, rv_list, ivZ, rvZ, mgl_agg]
        refine ev_nil (way_false (by simp [BTm.den, Tm.i, Tm.s, Tm.den, env, vInt, vBool, vStr, exI] <;> omega) (tree_ite ?_))
        by_cases m3 : mode = 3
        · refine ev_nil (way_true (by simp [BTm.den, Tm.i, Tm.s, Tm.den, env, vInt, vBool, vStr, exI] <;> omega) (tree_leaf ?_))
          refine ev_nil fun β => ?_
          rw [dn (by omega) (s8 hR m3)]; simp [BTm.den, Tm.i, Tm.s, Tm.den, env, vInt, vBool, vStr, exI, SW.den, SV.den, Cell.den, densP, Piece.den, denV, rowCells_mgk, iv_list, rv_list, ivZ, rvZ, mgl_agg]
        refine ev_nil (way_false (by simp [BTm.den, Tm.i, Tm.s, Tm.den, env, vInt, vBool, vStr, exI] <;> omega) (tree_ite ?_))
        by_cases m4 : mode = 4
        · refine ev_nil (way_true (by simp [BTm.den, Tm.i, Tm.s, Tm.den, env, vInt, vBool, vStr, exI] <;> omega) (tree_leaf ?_))
          refine ev_nil fun β => ?_
          rw [up (by omega) (s9 hR m4)]; simp [BTm.den, Tm.i, Tm.s, Tm.den, env, vInt, vBool, vStr, exI, SW.den, SV.den, Cell.den, densP, Piece.den, denV, rowCells_mgk, iv_list, rv_list, ivZ, rvZ, mgl_agg]
        refine ev_nil (way_false (by simp [BTm.den, Tm.i, Tm.s, Tm.den, env, vInt, vBool, vStr, exI] <;> omega) (tree_ite ?_))
        by_cases m5 : mode = 5
        · refine ev_nil (way_true (by simp [BTm.den, Tm.i, Tm.s, Tm.den, env, vInt, vBool, vStr, exI] <;> omega) (tree_ite ?_))
          by_cases h1 : hf < 0
          · refine ev_nil (way_true (by simp [BTm.den, Tm.i, Tm.s, Tm.den, env, vInt, vBool, vStr, exI] <;> omega) (tree_leaf ?_))
            refine ev_nil fun β => ?_
            rw [dn (by omega) (s11 hR (.inl m5) h1)]; simp [BTm.den, Tm.i, Tm.s, Tm.den, env, vInt, vBool, vStr, exI, SW.den, SV.den, Cell.den, densP, Piece.den, denV, rowCells_mgk, iv_list, rv_list, ivZ, rvZ, mgl_agg]
          refine ev_nil (way_false (by simp [BTm.den, Tm.i, Tm.s, Tm.den, env, vInt, vBool, vStr, exI] <;> omega) (tree_ite ?_))
          by_cases h2 : 0 < hf
          · refine ev_nil (way_true (by simp [BTm.den, Tm.i, Tm.s, Tm.den, env, vInt, vBool, vStr, exI] <;> omega) (tree_leaf ?_))
            refine ev_nil fun β => ?_
            rw [up (by omega) (s10 hR (.inl m5) h2)]; simp [BTm.den, Tm.i, Tm.s, Tm.den, env, vInt, vBool, vStr, exI, SW.den, SV.den, Cell.den, densP, Piece.den, denV, rowCells_mgk, iv_list, rv_list, ivZ, rvZ, mgl_agg]
          refine ev_nil (way_false (by simp [BTm.den, Tm.i, Tm.s, Tm.den, env, vInt, vBool, vStr, exI] <;> omega) (tree_ite ?_))
          refine ev_zc [.int .i64 sq] (pure_gives (gQ)) ?_
          by_cases hs : sq < 0
          · refine ev_nil (way_true (by simp [BTm.den, Tm.i, Tm.s, Tm.den, env, vInt, vBool, vStr, exI] <;> omega) (tree_leaf ?_))
            refine ev_nil fun β => ?_
            rw [dn (by omega) (s13 hR m5 (by omega) hs)]; simp [BTm.den, Tm.i, Tm.s, Tm.den, env, vInt, vBool, vStr, exI, SW.den, SV.den, Cell.den, densP, Piece.den, denV, rowCells_mgk, iv_list, rv_list, ivZ, rvZ, mgl_agg]
          · refine ev_nil (way_false (by simp [BTm.den, Tm.i, Tm.s, Tm.den, env, vInt, vBool, vStr, exI] <;> omega) (tree_leaf ?_))
            refine ev_nil fun β => ?_
            rw [up (by omega) (s12 hR m5 (by omega) hs)]; simp [BTm.den, Tm.i, Tm.s, Tm.den, env, vInt, vBool, vStr, exI, SW.den, SV.den, Cell.den, densP, Piece.den, denV, rowCells_mgk, iv_list, rv_list, ivZ, rvZ, mgl_agg]
        refine ev_nil (way_false (by simp [BTm.den, Tm.i, Tm.s, Tm.den, env, vInt, vBool, vStr, exI] <;> omega) (tree_ite ?_))
        by_cases m6 : mode = 6
        · refine ev_nil (way_true (by simp [BTm.den, Tm.i, Tm.s, Tm.den, env, vInt, vBool, vStr, exI] <;> omega) (tree_ite ?_))
          by_cases h1 : hf < 0
          · refine ev_nil (way_true (by simp [BTm.den, Tm.i, Tm.s, Tm.den, env, vInt, vBool, vStr, exI] <;> omega) (tree_leaf ?_))
            refine ev_nil fun β => ?_
            rw [dn (by omega) (s11 hR (.inr m6) h1)]; simp [BTm.den, Tm.i, Tm.s, Tm.den, env, vInt, vBool, vStr, exI, SW.den, SV.den, Cell.den, densP, Piece.den, denV, rowCells_mgk, iv_list, rv_list, ivZ, rvZ, mgl_agg]
          refine ev_nil (way_false (by simp [BTm.den, Tm.i, Tm.s, Tm.den, env, vInt, vBool, vStr, exI] <;> omega) (tree_ite ?_))
          by_cases h2 : 0 < hf
          · refine ev_nil (way_true (by simp [BTm.den, Tm.i, Tm.s, Tm.den, env, vInt, vBool, vStr, exI] <;> omega) (tree_leaf ?_))
            refine ev_nil fun β => ?_
            rw [up (by omega) (s10 hR (.inr m6) h2)]; simp [BTm.den, Tm.i, Tm.s, Tm.den, env, vInt, vBool, vStr, exI, SW.den, SV.den, Cell.den, densP, Piece.den, denV, rowCells_mgk, iv_list, rv_list, ivZ, rvZ, mgl_agg]
          refine ev_nil (way_false (by simp [BTm.den, Tm.i, Tm.s, Tm.den, env, vInt, vBool, vStr, exI] <;> omega) (tree_ite ?_))
          refine ev_elem [.int .u32 (x : Nat)] rfl rfl (l := mgl 32 q.natAbs) (m := [.int .u32 (x : Nat)]) (k := 0) (by simp [BTm.den, Tm.i, Tm.s, Tm.den, env, vInt, vBool, vStr, exI]) (fun β => rowCells_mgk 32 _) (fun β => rfl) hel ?_
          refine ev_fits o (by simp [BTm.den, Tm.i, Tm.s, Tm.den, env, vInt, vBool, vStr, exI, hod]) (rng_u32 _ (by rw [← hod, Int.tmod_eq_emod_of_nonneg (by omega)]; omega)) ?_
          by_cases ho : o = 0
          · refine ev_nil (way_true (by simp [BTm.den, Tm.i, Tm.s, Tm.den, env, vInt, vBool, vStr, exI, hod, ho]) (tree_leaf ?_))
            refine ev_nil fun β => ?_
            rw [dn (by omega) (s15 hR m6 (by omega) ho)]; simp [BTm.den, Tm.i, Tm.s, Tm.den, env, vInt, vBool, vStr, exI, SW.den, SV.den, Cell.den, densP, Piece.den, denV, rowCells_mgk, iv_list, rv_list, ivZ, rvZ, mgl_agg]
          · refine ev_nil (way_false (by simp [BTm.den, Tm.i, Tm.s, Tm.den, env, vInt, vBool, vStr, exI, hod, ho]) (tree_leaf ?_))
            refine ev_nil fun β => ?_
            rw [up (by omega) (s14 hR m6 (by omega) (by rw [← hod, Int.tmod_eq_emod_of_nonneg (by omega)] at ho ⊢; omega))]; simp [BTm.den, Tm.i, Tm.s, Tm.den, env, vInt, vBool, vStr, exI, SW.den, SV.den, Cell.den, densP, Piece.den, denV, rowCells_mgk, iv_list, rv_list, ivZ, rvZ, mgl_agg]
        refine ev_nil (way_false (by simp [BTm.den, Tm.i, Tm.s, Tm.den, env, vInt, vBool, vStr, exI] <;> omega) (tree_leaf ?_))
        refine ev_nil fun β => ?_
        rw [e31 (by omega), ← zero_num]; simp [BTm.den, Tm.i, Tm.s, Tm.den, env, vInt, vBool, vStr, exI, SW.den, SV.den, Cell.den, densP, Piece.den, denV, denT]
    · refine ev_nil (way_false (by simp [BTm.den, Tm.i, Tm.s, Tm.den, env, vInt, vBool, vStr, exI, hv]) (tree_leaf ?_))
      refine ev_nil fun β => ?_
      rw [err 20 (by omega) (by unfold rndE; rw [← hv1, if_pos (by simpa using hv)]), ← zero_num]; simp [BTm.den, Tm.i, Tm.s, Tm.den, env, vInt, vBool, vStr, exI, SW.den, SV.den, Cell.den, densP, Piece.den, denV, denT]
  have h := pure_of plain [.bool s, .agg (mgk 32 n), .bool t, .agg (mgk 32 m), .int .i64 p, .int .i64 mode] tpRound_ok (by kernel_rfl) _ main
  refine gives_pure ?_
  simpa [ratR, intW, BTm.den, Tm.i, Tm.s, Tm.den, env, vInt, vBool, vStr, exI, SW.den, SV.den, Cell.den, densP, Piece.den, denV, denT, rowCells_mgk, rv_list] using h
end Go.Proofs.YtkiefjbfepjcbaaGreatDoor
end
section
namespace Go.Proofs.YtkiefjbfepjcbaaGreatDoor
open Go.RowKit Go.Proofs.YtkiefjbfepjcbaaGreatDoor.Sx
set_option linter.unusedSimpArgs false
set_option linter.unusedVariables false

theorem radd_z (x y z : Int) (e : x + y = z) (hx : x.natAbs < pw 32) (hy : y.natAbs < pw 32) (h : z.natAbs < pw 32) : Gives Tryz.prog 55 #[.agg (ivZ x), .agg (ivZ y)] (.tuple #[.agg (ivZ z), .int .i64 0]) := by
  have := radd_any (decide (x < 0)) (decide (y < 0)) x.natAbs y.natAbs hx hy
  rw [vz_self, vz_self, e, resZ_fits h] at this
  exact this
theorem rsign_z (x : Int) (hx : x.natAbs < pw 32) : Gives Tryz.prog 54 #[.agg (ivZ x)] (.int .i64 (sgn x)) := by
  have := rsign_any (decide (x < 0)) x.natAbs hx
  rwa [vz_self] at this
set_option maxHeartbeats 8000000 in
theorem round_d (s t : Bool) (n m : Nat) (p mode : Int) (hn : n < pw 32) (hm : m < pw 32) :
    Gives Tryz.prog 12 #[.agg (rv s n t m), .int .i64 p, .int .i64 mode] (roundR s n t m p mode) := by
  have p1 := dValid s t n m hn hm
  obtain ⟨V, hV⟩ : ∃ V, V = roundR s n t m p mode := ⟨_, rfl⟩
  rw [← hV]
  have err : ∀ e : Int, e ≠ 0 → rndE s n t m p mode = e → V = .tuple #[.agg (ivZ 0), .int .i64 e] := fun e he h => by
    rw [hV]; unfold roundR rndQ; rw [h, if_neg he]
  have main : tdRound.den Tryz.prog (fun ρ' ret => ∀ β, ret.val.den (env ρ') β = V) [.bool s, .agg (mgk 32 n), .bool t, .agg (mgk 32 m), .int .i64 p, .int .i64 mode] := by
    refine tree_ite ?_
    obtain ⟨v1, hv1⟩ : ∃ b, b = vld s n t m := ⟨_, rfl⟩
    rw [← hv1] at p1
    refine ev_zc [.bool v1] (pure_gives (p1)) ?_
    by_cases hv : v1 = true
    · rw [hv1] at hv
      refine ev_nil (way_true (by simp [BTm.den, Tm.i, Tm.s, Tm.den, env, vInt, vBool, vStr, exI, hv1, hv]) (tree_ite ?_))
      by_cases h0 : p < 0
      · refine ev_nil (way_true (by simp [BTm.den, Tm.i, Tm.s, Tm.den, env, vInt, vBool, vStr, exI] <;> omega) (tree_leaf ?_))
        refine ev_nil fun β => ?_
        rw [err 30 (by omega) (by unfold rndE; rw [hv, if_neg (by simp), if_pos (by omega)]), ← zero_num]; simp [BTm.den, Tm.i, Tm.s, Tm.den, env, vInt, vBool, vStr, exI, SW.den, SV.den, Cell.den, densP, Piece.den, denV, denT]
      refine ev_nil (way_false (by simp [BTm.den, Tm.i, Tm.s, Tm.den, env, vInt, vBool, vStr, exI] <;> omega) (tree_ite ?_))
      by_cases h9 : 9 < p
      · refine ev_nil (way_true (by simp [BTm.den, Tm.i, Tm.s, Tm.den, env, vInt, vBool, vStr, exI] <;> omega) (tree_leaf ?_))
        refine ev_nil fun β => ?_
        rw [err 30 (by omega) (by unfold rndE; rw [hv, if_neg (by simp), if_pos (by omega)]), ← zero_num]; simp [BTm.den, Tm.i, Tm.s, Tm.den, env, vInt, vBool, vStr, exI, SW.den, SV.den, Cell.den, densP, Piece.den, denV, denT]
      refine ev_nil (way_false (by simp [BTm.den, Tm.i, Tm.s, Tm.den, env, vInt, vBool, vStr, exI] <;> omega) (tree_ite ?_))
      obtain ⟨P, rfl⟩ : ∃ P : Nat, p = (P : Nat) := ⟨p.toNat, by omega⟩
      have hP : P ≤ 9 := by omega
      have e31 : mode < 1 ∨ 6 < mode → V = .tuple #[.agg (ivZ 0), .int .i64 31] := fun h => err 31 (by omega) (by unfold rndE; rw [hv, if_neg (by simp), if_neg (by omega), if_pos (by omega)])
      by_cases hm1 : mode < 1
      · refine ev_nil (way_true (by simp [BTm.den, Tm.i, Tm.s, Tm.den, env, vInt, vBool, vStr, exI] <;> omega) (tree_leaf ?_))
        refine ev_nil fun β => ?_
        rw [e31 (by omega), ← zero_num]; simp [BTm.den, Tm.i, Tm.s, Tm.den, env, vInt, vBool, vStr, exI, SW.den, SV.den, Cell.den, densP, Piece.den, denV, denT]
      refine ev_nil (way_false (by simp [BTm.den, Tm.i, Tm.s, Tm.den, env, vInt, vBool, vStr, exI] <;> omega) (tree_ite ?_))
      by_cases hm6 : 6 < mode
      · refine ev_nil (way_true (by simp [BTm.den, Tm.i, Tm.s, Tm.den, env, vInt, vBool, vStr, exI] <;> omega) (tree_leaf ?_))
        refine ev_nil fun β => ?_
        rw [e31 (by omega), ← zero_num]; simp [BTm.den, Tm.i, Tm.s, Tm.den, env, vInt, vBool, vStr, exI, SW.den, SV.den, Cell.den, densP, Piece.den, denV, denT]
      refine ev_nil (way_false (by simp [BTm.den, Tm.i, Tm.s, Tm.den, env, vInt, vBool, vStr, exI] <;> omega) (tree_ite ?_))
      have eV : V = .tuple #[.agg (ivZ (rndZ mode (vz s n * ten P) (vz t m))), .int .i64 0] := by
        have e0 : rndE s n t m (P : Nat) mode = 0 := by unfold rndE; rw [hv, if_neg (by simp), if_neg (by omega), if_neg (by omega)]
        rw [hV]; unfold roundR rndQ; rw [e0, if_pos rfl]; rfl
      obtain ⟨hr, ht, h0m⟩ := rnd_of (p := P) hv hP
      have hS := steps_of (mode := mode) hr
      have hpz := hr.pz mode
      have gT := ten_d P hP
      have t1 := ten_le hP
      have t2 := ten_pos P
      have gM := rmul_any s (decide (ten P < 0)) n (ten P).natAbs hn (lt_pw32 (ten_bits hP) (by omega))
      rw [vz_self, resZ_fits hr.pN] at gM
      have gD := rdivMod_any (decide (vz s n * ten P < 0)) t (vz s n * ten P).natAbs m hr.pN hm h0m
      rw [vz_self] at gD
      unfold divR at gD
      have gA := radd_z _ _ _ rfl hr.pr hr.pr hr.prr
      have gC := rcmp_any (decide (vz s n * ten P % vz t m + vz s n * ten P % vz t m < 0)) t (vz s n * ten P % vz t m + vz s n * ten P % vz t m).natAbs m hr.prr hm
      rw [vz_self] at gC
      have gS := rsign_z _ hr.pr
      have gQ := rsign_z _ hr.pN
      have gO := rfromInt_any 1 (by omega)
      have gI := radd_z _ 1 _ rfl hr.pq (lt_pw32 (k := 1) (by decide) (by omega)) hr.pq1
      have hsN : sgn (vz s n * ten P) < 0 ↔ sgn (vz s n * ten P / vz t m) < 0 := sgq_neg.trans (hr.neg.symm.trans sgq_neg.symm)
      have hod := limb_odd (vz s n * ten P / vz t m)
      have hxl := limb_lt (vz s n * ten P / vz t m).natAbs 0
      have hel : ((mgl 32 (vz s n * ten P / vz t m).natAbs).drop 0).take 1 = [.int .u32 ((limb (vz s n * ten P / vz t m).natAbs 0 : Nat) : Int)] := mgl_elem (by omega)
      obtain ⟨x, hx⟩ : ∃ x, x = limb (vz s n * ten P / vz t m).natAbs 0 := ⟨_, rfl⟩
      rw [← hx] at hod hel hxl
      generalize (if vz s n * ten P / vz t m % 2 = 1 then 1 else 0 : Int) = o at hod hS
      generalize rndZ mode (vz s n * ten P) (vz t m) = z at hS eV hpz
      generalize sgn (vz s n * ten P / vz t m) = sq at hS hsN
      generalize sgn (vz s n * ten P) = sN at gQ hsN
      generalize sgn (vz s n * ten P % vz t m) = sR at hS gS
      generalize cmpZ (vz s n * ten P % vz t m + vz s n * ten P % vz t m) (vz t m) = hf at hS gC
      generalize vz s n * ten P % vz t m + vz s n * ten P % vz t m = RR at gA gC
      generalize vz s n * ten P / vz t m + 1 = q1 at hS gI
      generalize vz s n * ten P / vz t m = q at hS gD gI hel hx
      generalize vz s n * ten P % vz t m = R at hS gD gA gS
      generalize vz s n * ten P = N at hS gM gD gQ
      generalize ten P = T at gT gM
      clear hr hv1 p1 err
      obtain ⟨s1, s2, s3, s4, s5, s6, s7, s8, s9, s10, s11, s12, s13, s14, s15⟩ := hS
      refine ev_zc [.bool (decide (T < 0)), .agg (mgk 32 (T : Int).natAbs), .bool (decide (1 < 0)), .agg (mgk 32 (1 : Int).natAbs)] (pure_gives (gT)) ?_
      refine ev_zc [.bool (decide (N < 0)), .agg (mgk 32 (N : Int).natAbs), .int .i64 0] (pure_gives (gM)) ?_
      refine ev_zc [.bool (decide (q < 0)), .agg (mgk 32 (q : Int).natAbs), .bool (decide (R < 0)), .agg (mgk 32 (R : Int).natAbs), .int .i64 0] (pure_gives (gD)) ?_
      refine ev_zc [.int .i64 sR] (pure_gives (gS)) ?_
      by_cases hR : R = 0
      · have hzq := s3 hR
        have hsR := s1.2 hR
        refine ev_nil (way_true (by simp [BTm.den, Tm.i, Tm.s, Tm.den, env, vInt, vBool, vStr, exI] <;> omega) (tree_leaf ?_))
        refine ev_nil fun β => ?_
        rw [eV, hzq]; simp [BTm.den, Tm.i, Tm.s, Tm.den, env, vInt, vBool, vStr, exI, SW.den, SV.den, Cell.den, densP, Piece.den, denV, rowCells_mgk, iv_list, rv_list, ivZ, rvZ, mgl_agg]
      · have hsR : sR ≠ 0 := fun e => hR (s1.1 e)
        have up : z = q1 → V = .tuple #[.agg (ivZ q1), .int .i64 0] := fun e => by rw [eV, e]
        have dn : z = q → V = .tuple #[.agg (ivZ q), .int .i64 0] := fun e => by rw [eV, e]
        have ho2 : o = 0 ∨ o = 1 := by rw [← hod, Int.tmod_eq_emod_of_nonneg (by omega)]; omega
        refine ev_nil (way_false (by simp [BTm.den, Tm.i, Tm.s, Tm.den, env, vInt, vBool, vStr, exI] <;> omega) (tree_ite ?_))
        refine ev_zc [.bool (decide (RR < 0)), .agg (mgk 32 (RR : Int).natAbs), .int .i64 0] (pure_gives (gA)) ?_
        refine ev_zc [.int .i64 sN] (pure_gives (gQ)) ?_
        refine ev_zc [.int .i64 hf] (pure_gives (gC)) ?_
        refine ev_elem [.int .u32 (x : Nat)] rfl rfl (l := mgl 32 q.natAbs) (m := [.int .u32 (x : Nat)]) (k := 0) (by simp [BTm.den, Tm.i, Tm.s, Tm.den, env, vInt, vBool, vStr, exI]) (fun β => rowCells_mgk 32 _) (fun β => rfl) hel ?_
        refine ev_fits o (by simp [BTm.den, Tm.i, Tm.s, Tm.den, env, vInt, vBool, vStr, exI, hod]) (rng_u32 _ (by omega)) ?_
        by_cases m1 : mode = 1
        · refine ev_nil (way_true (by simp [BTm.den, Tm.i, Tm.s, Tm.den, env, vInt, vBool, vStr, exI] <;> omega) (tree_ite ?_))
          by_cases hs : sN < 0
          · refine ev_nil (way_true (by simp [BTm.den, Tm.i, Tm.s, Tm.den, env, vInt, vBool, vStr, exI] <;> omega) (tree_leaf ?_))
            refine ev_zc [.bool (decide (1 < 0)), .agg (mgk 32 (1 : Int).natAbs)] (pure_gives (gO)) ?_
            refine ev_zc [.bool (decide (q1 < 0)), .agg (mgk 32 (q1 : Int).natAbs), .int .i64 0] (pure_gives (gI)) ?_
            refine ev_nil fun β => ?_
            rw [up (s4 hR m1 (hsN.1 hs))]; simp [BTm.den, Tm.i, Tm.s, Tm.den, env, vInt, vBool, vStr, exI, SW.den, SV.den, Cell.den, densP, Piece.den, denV, rowCells_mgk, iv_list, rv_list, ivZ, rvZ, mgl_agg]
          · refine ev_nil (way_false (by simp [BTm.den, Tm.i, Tm.s, Tm.den, env, vInt, vBool, vStr, exI] <;> omega) (tree_leaf ?_))
            refine ev_nil fun β => ?_
            rw [dn (s5 hR m1 fun e => hs (hsN.2 e))]; simp [BTm.den, Tm.i, Tm.s, Tm.den, env, vInt, vBool, vStr, exI, SW.den, SV.den, Cell.den, densP, Piece.den, denV, rowCells_mgk, iv_list, rv_list, ivZ, rvZ, mgl_agg]
        refine ev_nil (way_false (by simp [BTm.den, Tm.i, Tm.s, Tm.den, env, vInt, vBool, vStr, exI] <;> omega) (tree_ite ?_))
        by_cases m2 : mode = 2
        · refine ev_nil (way_true (by simp [BTm.den, Tm.i, Tm.s, Tm.den, env, vInt, vBool, vStr, exI] <;> omega) (tree_ite ?_))
          by_cases hs : sN < 0
          · refine ev_nil (way_true (by simp [BTm.den, Tm.i, Tm.s, Tm.den, env, vInt, vBool, vStr, exI] <;> omega) (tree_leaf ?_))
            refine ev_nil fun β => ?_
            rw [dn (s7 hR m2 (hsN.1 hs))]; simp [BTm.den, Tm.i, Tm.s, Tm.den, env, vInt, vBool, vStr, exI, SW.den, SV.den, Cell.den, densP, Piece.den, denV, rowCells_mgk, iv_list, rv_list, ivZ, rvZ, mgl_agg]
          · refine ev_nil (way_false (by simp [BTm.den, Tm.i, Tm.s, Tm.den, env, vInt, vBool, vStr, exI] <;> omega) (tree_leaf ?_))
            refine ev_zc [.bool (decide (1 < 0)), .agg (mgk 32 (1 : Int).natAbs)] (pure_gives (gO)) ?_
            refine ev_zc [.bool (decide (q1 < 0)), .agg (mgk 32 (q1 : Int).natAbs), .int .i64 0] (pure_gives (gI)) ?_
            refine ev_nil fun β => ?_
            rw [up (s6 hR m2 fun e => hs (hsN.2 e))]; simp [BTm.den, Tm.i, Tm.s, Tm.den, env, vInt, vBool, vStr, exI, SW.den, SV.den, Cell.den, densP, Piece.den, denV, rowCells_mgk, iv_list, rv_list, ivZ, rvZ, mgl_agg]
        refine ev_nil (way_false (by simp [BTm.den, Tm.i, Tm.s, Tm.den, env, vInt, vBool, vStr, exI] <;> omega) (tree_ite ?_))
        by_cases m3 : mode = 3
        · refine ev_nil (way_true (by simp [BTm.den, Tm.i, Tm.s, Tm.den, env, vInt, vBool, vStr, exI] <;> omega) (tree_leaf ?_))
          refine ev_nil fun β => ?_
          rw [dn (s8 hR m3)]; simp [BTm.den, Tm.i, Tm.s, Tm.den, env, vInt, vBool, vStr, exI, SW.den, SV.den, Cell.den, densP, Piece.den, denV, rowCells_mgk, iv_list, rv_list, ivZ, rvZ, mgl_agg]
        refine ev_nil (way_false (by simp [BTm.den, Tm.i, Tm.s, Tm.den, env, vInt, vBool, vStr, exI] <;> omega) (tree_ite ?_))
        by_cases m4 : mode = 4
        · refine ev_nil (way_true (by simp [BTm.den, Tm.i, Tm.s, Tm.den, env, vInt, vBool, vStr, exI] <;> omega) (tree_leaf ?_))
          refine ev_zc [.bool (decide (1 < 0)), .agg (mgk 32 (1 : Int).natAbs)] (pure_gives (gO)) ?_
          refine ev_zc [.bool (decide (q1 < 0)), .agg (mgk 32 (q1 : Int).natAbs), .int .i64 0] (pure_gives (gI)) ?_
          refine ev_nil fun β => ?_
          rw [up (s9 hR m4)]; simp [BTm.den, Tm.i, Tm.s, Tm.den, env, vInt, vBool, vStr, exI, SW.den, SV.den, Cell.den, densP, Piece.den, denV, rowCells_mgk, iv_list, rv_list, ivZ, rvZ, mgl_agg]
        refine ev_nil (way_false (by simp [BTm.den, Tm.i, Tm.s, Tm.den, env, vInt, vBool, vStr, exI] <;> omega) (tree_ite ?_))
        by_cases h1 : hf = 0
        · refine ev_nil (way_true (by simp [BTm.den, Tm.i, Tm.s, Tm.den, env, vInt, vBool, vStr, exI] <;> omega) (tree_ite ?_))
          by_cases m5 : mode = 5
          · refine ev_nil (way_true (by simp [BTm.den, Tm.i, Tm.s, Tm.den, env, vInt, vBool, vStr, exI] <;> omega) (tree_ite ?_))
            by_cases hs : sN < 0
            · refine ev_nil (way_true (by simp [BTm.den, Tm.i, Tm.s, Tm.den, env, vInt, vBool, vStr, exI] <;> omega) (tree_leaf ?_))
              refine ev_nil fun β => ?_
              rw [dn (s13 hR m5 h1 (hsN.1 hs))]; simp [BTm.den, Tm.i, Tm.s, Tm.den, env, vInt, vBool, vStr, exI, SW.den, SV.den, Cell.den, densP, Piece.den, denV, rowCells_mgk, iv_list, rv_list, ivZ, rvZ, mgl_agg]
            · refine ev_nil (way_false (by simp [BTm.den, Tm.i, Tm.s, Tm.den, env, vInt, vBool, vStr, exI] <;> omega) (tree_leaf ?_))
              refine ev_zc [.bool (decide (1 < 0)), .agg (mgk 32 (1 : Int).natAbs)] (pure_gives (gO)) ?_
              refine ev_zc [.bool (decide (q1 < 0)), .agg (mgk 32 (q1 : Int).natAbs), .int .i64 0] (pure_gives (gI)) ?_
              refine ev_nil fun β => ?_
              rw [up (s12 hR m5 h1 fun e => hs (hsN.2 e))]; simp [BTm.den, Tm.i, Tm.s, Tm.den, env, vInt, vBool, vStr, exI, SW.den, SV.den, Cell.den, densP, Piece.den, denV, rowCells_mgk, iv_list, rv_list, ivZ, rvZ, mgl_agg]
          · refine ev_nil (way_false (by simp [BTm.den, Tm.i, Tm.s, Tm.den, env, vInt, vBool, vStr, exI] <;> omega) (tree_ite ?_))
            by_cases ho : o = 1
            · refine ev_nil (way_true (by simp [BTm.den, Tm.i, Tm.s, Tm.den, env, vInt, vBool, vStr, exI, hod, ho]) (tree_leaf ?_))
              refine ev_zc [.bool (decide (1 < 0)), .agg (mgk 32 (1 : Int).natAbs)] (pure_gives (gO)) ?_
              refine ev_zc [.bool (decide (q1 < 0)), .agg (mgk 32 (q1 : Int).natAbs), .int .i64 0] (pure_gives (gI)) ?_
              refine ev_nil fun β => ?_
              rw [up (s14 hR (by omega) h1 ho)]; simp [BTm.den, Tm.i, Tm.s, Tm.den, env, vInt, vBool, vStr, exI, SW.den, SV.den, Cell.den, densP, Piece.den, denV, rowCells_mgk, iv_list, rv_list, ivZ, rvZ, mgl_agg]
            · refine ev_nil (way_false (by simp [BTm.den, Tm.i, Tm.s, Tm.den, env, vInt, vBool, vStr, exI, hod, ho]) (tree_leaf ?_))
              refine ev_nil fun β => ?_
              rw [dn (s15 hR (by omega) h1 (by omega))]; simp [BTm.den, Tm.i, Tm.s, Tm.den, env, vInt, vBool, vStr, exI, SW.den, SV.den, Cell.den, densP, Piece.den, denV, rowCells_mgk, iv_list, rv_list, ivZ, rvZ, mgl_agg]
        · refine ev_nil (way_false (by simp [BTm.den, Tm.i, Tm.s, Tm.den, env, vInt, vBool, vStr, exI] <;> omega) (tree_ite ?_))
          by_cases h2 : 0 < hf
          · refine ev_nil (way_true (by simp [BTm.den, Tm.i, Tm.s, Tm.den, env, vInt, vBool, vStr, exI] <;> omega) (tree_leaf ?_))
            refine ev_zc [.bool (decide (1 < 0)), .agg (mgk 32 (1 : Int).natAbs)] (pure_gives (gO)) ?_
            refine ev_zc [.bool (decide (q1 < 0)), .agg (mgk 32 (q1 : Int).natAbs), .int .i64 0] (pure_gives (gI)) ?_
            refine ev_nil fun β => ?_
            rw [up (s10 hR (by omega) h2)]; simp [BTm.den, Tm.i, Tm.s, Tm.den, env, vInt, vBool, vStr, exI, SW.den, SV.den, Cell.den, densP, Piece.den, denV, rowCells_mgk, iv_list, rv_list, ivZ, rvZ, mgl_agg]
          · refine ev_nil (way_false (by simp [BTm.den, Tm.i, Tm.s, Tm.den, env, vInt, vBool, vStr, exI] <;> omega) (tree_leaf ?_))
            refine ev_nil fun β => ?_
            rw [dn (s11 hR (by omega) (by omega))]; simp [BTm.den, Tm.i, Tm.s, Tm.den, env, vInt, vBool, vStr, exI, SW.den, SV.den, Cell.den, densP, Piece.den, denV, rowCells_mgk, iv_list, rv_list, ivZ, rvZ, mgl_agg]
    · refine ev_nil (way_false (by simp [BTm.den, Tm.i, Tm.s, Tm.den, env, vInt, vBool, vStr, exI, hv]) (tree_leaf ?_))
      refine ev_nil fun β => ?_
      rw [err 20 (by omega) (by unfold rndE; rw [← hv1, if_pos (by simpa using hv)]), ← zero_num]; simp [BTm.den, Tm.i, Tm.s, Tm.den, env, vInt, vBool, vStr, exI, SW.den, SV.den, Cell.den, densP, Piece.den, denV, denT]
  have h := pure_of plain [.bool s, .agg (mgk 32 n), .bool t, .agg (mgk 32 m), .int .i64 p, .int .i64 mode] tdRound_ok (by kernel_rfl) _ main
  refine gives_pure ?_
  simpa [ratR, intW, BTm.den, Tm.i, Tm.s, Tm.den, env, vInt, vBool, vStr, exI, SW.den, SV.den, Cell.den, densP, Piece.den, denV, denT, rowCells_mgk, rv_list] using h
end Go.Proofs.YtkiefjbfepjcbaaGreatDoor
end
section
namespace Go.Proofs.YtkiefjbfepjcbaaGreatDoor
open Go.RowKit Go.Proofs.YtkiefjbfepjcbaaGreatDoor.Sx
set_option linter.unusedSimpArgs false
set_option linter.unusedVariables false

theorem toI_in {z : Int} (h : -9223372036854775808 ≤ z ∧ z ≤ 9223372036854775807) : toI (decide (z < 0)) z.natAbs = .tuple #[.int .i64 z, .bool true] := by
  unfold toI; rw [vz_self, if_pos h]
theorem toI_out {z : Int} (h : ¬ (-9223372036854775808 ≤ z ∧ z ≤ 9223372036854775807)) : toI (decide (z < 0)) z.natAbs = .tuple #[.int .i64 0, .bool false] := by
  unfold toI; rw [vz_self, if_neg h]
set_option maxHeartbeats 2000000 in
theorem roundInt_p (s t : Bool) (n m : Nat) (p mode : Int) (hn : n < pw 32) (hm : m < pw 32) :
    Gives Tryz.prog 13 #[.agg (rv s n t m), .int .i64 p, .int .i64 mode] (roundIntR s n t m p mode) := by
  have g1 := round_p s t n m p mode hn hm
  have hf := rndQ_fits s t n m p mode
  have g2 := toInt_any (decide (rndQ s n t m p mode < 0)) (rndQ s n t m p mode).natAbs hf
  obtain ⟨V, hV⟩ : ∃ V, V = roundIntR s n t m p mode := ⟨_, rfl⟩
  rw [← hV]
  unfold roundR at g1
  unfold roundIntR intE at hV
  generalize rndQ s n t m p mode = z at g1 g2 hV hf
  generalize rndE s n t m p mode = e at g1 hV
  have main : tpRoundInt.den Tryz.prog (fun ρ' ret => ∀ β, ret.val.den (env ρ') β = V) [.bool s, .agg (mgk 32 n), .bool t, .agg (mgk 32 m), .int .i64 p, .int .i64 mode] := by
    refine tree_ite ?_
    refine ev_zc [.bool (decide (z < 0)), .agg (mgk 32 (z : Int).natAbs), .int .i64 e] (pure_gives (g1)) ?_
    by_cases he : e = 0
    · subst he
      refine ev_nil (way_true (by simp [BTm.den, Tm.i, Tm.s, Tm.den, env, vInt, vBool, vStr, exI] <;> omega) (tree_ite ?_))
      rw [if_pos rfl] at hV
      by_cases hi : -9223372036854775808 ≤ z ∧ z ≤ 9223372036854775807
      · rw [toI_in hi] at g2
        refine ev_zc [.int .i64 z, .bool true] (pure_gives (g2)) ?_
        refine ev_nil (way_true (by simp [BTm.den, Tm.i, Tm.s, Tm.den, env, vInt, vBool, vStr, exI] <;> omega) (tree_ite ?_))
        by_cases h1 : z < -1000000000000000
        · refine ev_nil (way_true (by simp [BTm.den, Tm.i, Tm.s, Tm.den, env, vInt, vBool, vStr, exI] <;> omega) (tree_leaf ?_))
          refine ev_nil fun β => ?_
          rw [hV, if_neg (show ¬ (-1000000000000000 ≤ z ∧ z ≤ 1000000000000000) by omega), if_neg (by omega)]; simp [BTm.den, Tm.i, Tm.s, Tm.den, env, vInt, vBool, vStr, exI, SW.den, SV.den, Cell.den, densP, Piece.den, denV, rowCells_mgk, iv_list, rv_list, ivZ, rvZ, mgl_agg]
        refine ev_nil (way_false (by simp [BTm.den, Tm.i, Tm.s, Tm.den, env, vInt, vBool, vStr, exI] <;> omega) (tree_ite ?_))
        by_cases h2 : 1000000000000000 < z
        · refine ev_nil (way_true (by simp [BTm.den, Tm.i, Tm.s, Tm.den, env, vInt, vBool, vStr, exI] <;> omega) (tree_leaf ?_))
          refine ev_nil fun β => ?_
          rw [hV, if_neg (show ¬ (-1000000000000000 ≤ z ∧ z ≤ 1000000000000000) by omega), if_neg (by omega)]; simp [BTm.den, Tm.i, Tm.s, Tm.den, env, vInt, vBool, vStr, exI, SW.den, SV.den, Cell.den, densP, Piece.den, denV, rowCells_mgk, iv_list, rv_list, ivZ, rvZ, mgl_agg]
        · refine ev_nil (way_false (by simp [BTm.den, Tm.i, Tm.s, Tm.den, env, vInt, vBool, vStr, exI] <;> omega) (tree_leaf ?_))
          refine ev_nil fun β => ?_
          rw [hV, if_pos (show (-1000000000000000 ≤ z ∧ z ≤ 1000000000000000) by omega), if_pos rfl]; simp [BTm.den, Tm.i, Tm.s, Tm.den, env, vInt, vBool, vStr, exI, SW.den, SV.den, Cell.den, densP, Piece.den, denV, rowCells_mgk, iv_list, rv_list, ivZ, rvZ, mgl_agg]
      · rw [toI_out hi] at g2
        refine ev_zc [.int .i64 0, .bool false] (pure_gives (g2)) ?_
        refine ev_nil (way_false (by simp [BTm.den, Tm.i, Tm.s, Tm.den, env, vInt, vBool, vStr, exI] <;> omega) (tree_leaf ?_))
        refine ev_nil fun β => ?_
        rw [hV, if_neg (show ¬ (-1000000000000000 ≤ z ∧ z ≤ 1000000000000000) by omega), if_neg (by omega)]; simp [BTm.den, Tm.i, Tm.s, Tm.den, env, vInt, vBool, vStr, exI, SW.den, SV.den, Cell.den, densP, Piece.den, denV, rowCells_mgk, iv_list, rv_list, ivZ, rvZ, mgl_agg]
    · refine ev_nil (way_false (by simp [BTm.den, Tm.i, Tm.s, Tm.den, env, vInt, vBool, vStr, exI] <;> omega) (tree_leaf ?_))
      refine ev_nil fun β => ?_
      rw [hV, if_neg he, if_neg he]; simp [BTm.den, Tm.i, Tm.s, Tm.den, env, vInt, vBool, vStr, exI, SW.den, SV.den, Cell.den, densP, Piece.den, denV, rowCells_mgk, iv_list, rv_list, ivZ, rvZ, mgl_agg]
  have h := pure_of plain [.bool s, .agg (mgk 32 n), .bool t, .agg (mgk 32 m), .int .i64 p, .int .i64 mode] tpRoundInt_ok (by kernel_rfl) _ main
  refine gives_pure ?_
  simpa [ratR, intW, BTm.den, Tm.i, Tm.s, Tm.den, env, vInt, vBool, vStr, exI, SW.den, SV.den, Cell.den, densP, Piece.den, denV, denT, rowCells_mgk, rv_list] using h
set_option maxHeartbeats 2000000 in
theorem quant_p (s t : Bool) (n m : Nat) (p mode : Int) (hn : n < pw 32) (hm : m < pw 32) :
    Gives Tryz.prog 15 #[.agg (rv s n t m), .int .i64 p, .int .i64 mode] (quantR s n t m p mode) := by
  have g1 := round_p s t n m p mode hn hm
  have hf := rndQ_fits s t n m p mode
  obtain ⟨V, hV⟩ : ∃ V, V = quantR s n t m p mode := ⟨_, rfl⟩
  rw [← hV]
  unfold roundR at g1
  unfold quantR at hV
  have hP : rndE s n t m p mode = 0 → ∃ P : Nat, p = (P : Nat) ∧ P ≤ 9 := fun h => by
    obtain ⟨-, h2, -⟩ := rndE_none h
    exact ⟨p.toNat, by omega, by omega⟩
  generalize rndQ s n t m p mode = z at g1 hV hf
  generalize rndE s n t m p mode = e at g1 hV hP
  have main : tpQuantize.den Tryz.prog (fun ρ' ret => ∀ β, ret.val.den (env ρ') β = V) [.bool s, .agg (mgk 32 n), .bool t, .agg (mgk 32 m), .int .i64 p, .int .i64 mode] := by
    refine tree_ite ?_
    refine ev_zc [.bool (decide (z < 0)), .agg (mgk 32 (z : Int).natAbs), .int .i64 e] (pure_gives (g1)) ?_
    by_cases he : e = 0
    · subst he
      obtain ⟨P, rfl, h9⟩ := hP rfl
      rw [if_pos rfl] at hV
      have t1 := ten_le h9
      have t2 := ten_pos P
      have gT := ten_p P h9
      have gF := fromInt_any (ten P) (by omega)
      have gM := (make_Z z (ten P) hf (lt_pw32 (ten_bits h9) (by omega))).1
      rw [show ((P : Nat) : Int).toNat = P from rfl] at hV
      obtain ⟨a, b, c, hmk⟩ := mkZ_form z (ten P)
      rw [hmk] at gM hV
      generalize ten P = T at gT gF gM
      refine ev_nil (way_true (by simp [BTm.den, Tm.i, Tm.s, Tm.den, env, vInt, vBool, vStr, exI] <;> omega) (tree_leaf ?_))
      refine ev_zc [.int .i64 T] (pure_gives (gT)) ?_
      refine ev_zc [.bool (decide (T < 0)), .agg (mgk 32 (T : Int).natAbs)] (pure_gives (gF)) ?_
      refine ev_zc [.bool (decide (a < 0)), .agg (mgk 32 (a : Int).natAbs), .bool (decide (b < 0)), .agg (mgk 32 (b : Int).natAbs), .int .i64 c] (pure_gives (gM)) ?_
      refine ev_nil fun β => ?_
      rw [hV]; simp [BTm.den, Tm.i, Tm.s, Tm.den, env, vInt, vBool, vStr, exI, SW.den, SV.den, Cell.den, densP, Piece.den, denV, rowCells_mgk, iv_list, rv_list, ivZ, rvZ, mgl_agg]
    · refine ev_nil (way_false (by simp [BTm.den, Tm.i, Tm.s, Tm.den, env, vInt, vBool, vStr, exI] <;> omega) (tree_leaf ?_))
      refine ev_nil fun β => ?_
      rw [hV, if_neg he, ← zero_rat]; simp [BTm.den, Tm.i, Tm.s, Tm.den, env, vInt, vBool, vStr, exI, SW.den, SV.den, Cell.den, densP, Piece.den, denV, denT]
  have h := pure_of plain [.bool s, .agg (mgk 32 n), .bool t, .agg (mgk 32 m), .int .i64 p, .int .i64 mode] tpQuantize_ok (by kernel_rfl) _ main
  refine gives_pure ?_
  simpa [ratR, intW, BTm.den, Tm.i, Tm.s, Tm.den, env, vInt, vBool, vStr, exI, SW.den, SV.den, Cell.den, densP, Piece.den, denV, denT, rowCells_mgk, rv_list] using h
set_option maxHeartbeats 2000000 in
theorem roundInt_d (s t : Bool) (n m : Nat) (p mode : Int) (hn : n < pw 32) (hm : m < pw 32) :
    Gives Tryz.prog 14 #[.agg (rv s n t m), .int .i64 p, .int .i64 mode] (roundIntR s n t m p mode) := by
  have g1 := round_d s t n m p mode hn hm
  have hf := rndQ_fits s t n m p mode
  have g2 := rtoInt_any (decide (rndQ s n t m p mode < 0)) (rndQ s n t m p mode).natAbs hf
  obtain ⟨V, hV⟩ : ∃ V, V = roundIntR s n t m p mode := ⟨_, rfl⟩
  rw [← hV]
  unfold roundR at g1
  unfold roundIntR intE at hV
  generalize rndQ s n t m p mode = z at g1 g2 hV hf
  generalize rndE s n t m p mode = e at g1 hV
  have main : tdRoundInt.den Tryz.prog (fun ρ' ret => ∀ β, ret.val.den (env ρ') β = V) [.bool s, .agg (mgk 32 n), .bool t, .agg (mgk 32 m), .int .i64 p, .int .i64 mode] := by
    refine tree_ite ?_
    refine ev_zc [.bool (decide (z < 0)), .agg (mgk 32 (z : Int).natAbs), .int .i64 e] (pure_gives (g1)) ?_
    by_cases he : e = 0
    · subst he
      refine ev_nil (way_true (by simp [BTm.den, Tm.i, Tm.s, Tm.den, env, vInt, vBool, vStr, exI] <;> omega) (tree_ite ?_))
      rw [if_pos rfl] at hV
      by_cases hi : -9223372036854775808 ≤ z ∧ z ≤ 9223372036854775807
      · rw [toI_in hi] at g2
        refine ev_zc [.int .i64 z, .bool true] (pure_gives (g2)) ?_
        refine ev_nil (way_true (by simp [BTm.den, Tm.i, Tm.s, Tm.den, env, vInt, vBool, vStr, exI] <;> omega) (tree_ite ?_))
        by_cases h1 : 1000000000000000 < z
        · refine ev_nil (way_true (by simp [BTm.den, Tm.i, Tm.s, Tm.den, env, vInt, vBool, vStr, exI] <;> omega) (tree_leaf ?_))
          refine ev_nil fun β => ?_
          rw [hV, if_neg (show ¬ (-1000000000000000 ≤ z ∧ z ≤ 1000000000000000) by omega), if_neg (by omega)]; simp [BTm.den, Tm.i, Tm.s, Tm.den, env, vInt, vBool, vStr, exI, SW.den, SV.den, Cell.den, densP, Piece.den, denV, rowCells_mgk, iv_list, rv_list, ivZ, rvZ, mgl_agg]
        refine ev_nil (way_false (by simp [BTm.den, Tm.i, Tm.s, Tm.den, env, vInt, vBool, vStr, exI] <;> omega) (tree_ite ?_))
        by_cases h2 : z < -1000000000000000
        · refine ev_nil (way_true (by simp [BTm.den, Tm.i, Tm.s, Tm.den, env, vInt, vBool, vStr, exI] <;> omega) (tree_leaf ?_))
          refine ev_nil fun β => ?_
          rw [hV, if_neg (show ¬ (-1000000000000000 ≤ z ∧ z ≤ 1000000000000000) by omega), if_neg (by omega)]; simp [BTm.den, Tm.i, Tm.s, Tm.den, env, vInt, vBool, vStr, exI, SW.den, SV.den, Cell.den, densP, Piece.den, denV, rowCells_mgk, iv_list, rv_list, ivZ, rvZ, mgl_agg]
        · refine ev_nil (way_false (by simp [BTm.den, Tm.i, Tm.s, Tm.den, env, vInt, vBool, vStr, exI] <;> omega) (tree_leaf ?_))
          refine ev_nil fun β => ?_
          rw [hV, if_pos (show (-1000000000000000 ≤ z ∧ z ≤ 1000000000000000) by omega), if_pos rfl]; simp [BTm.den, Tm.i, Tm.s, Tm.den, env, vInt, vBool, vStr, exI, SW.den, SV.den, Cell.den, densP, Piece.den, denV, rowCells_mgk, iv_list, rv_list, ivZ, rvZ, mgl_agg]
      · rw [toI_out hi] at g2
        refine ev_zc [.int .i64 0, .bool false] (pure_gives (g2)) ?_
        refine ev_nil (way_false (by simp [BTm.den, Tm.i, Tm.s, Tm.den, env, vInt, vBool, vStr, exI] <;> omega) (tree_leaf ?_))
        refine ev_nil fun β => ?_
        rw [hV, if_neg (show ¬ (-1000000000000000 ≤ z ∧ z ≤ 1000000000000000) by omega), if_neg (by omega)]; simp [BTm.den, Tm.i, Tm.s, Tm.den, env, vInt, vBool, vStr, exI, SW.den, SV.den, Cell.den, densP, Piece.den, denV, rowCells_mgk, iv_list, rv_list, ivZ, rvZ, mgl_agg]
    · refine ev_nil (way_false (by simp [BTm.den, Tm.i, Tm.s, Tm.den, env, vInt, vBool, vStr, exI] <;> omega) (tree_leaf ?_))
      refine ev_nil fun β => ?_
      rw [hV, if_neg he, if_neg he]; simp [BTm.den, Tm.i, Tm.s, Tm.den, env, vInt, vBool, vStr, exI, SW.den, SV.den, Cell.den, densP, Piece.den, denV, rowCells_mgk, iv_list, rv_list, ivZ, rvZ, mgl_agg]
  have h := pure_of plain [.bool s, .agg (mgk 32 n), .bool t, .agg (mgk 32 m), .int .i64 p, .int .i64 mode] tdRoundInt_ok (by kernel_rfl) _ main
  refine gives_pure ?_
  simpa [ratR, intW, BTm.den, Tm.i, Tm.s, Tm.den, env, vInt, vBool, vStr, exI, SW.den, SV.den, Cell.den, densP, Piece.den, denV, denT, rowCells_mgk, rv_list] using h
set_option maxHeartbeats 2000000 in
theorem quant_d (s t : Bool) (n m : Nat) (p mode : Int) (hn : n < pw 32) (hm : m < pw 32) :
    Gives Tryz.prog 16 #[.agg (rv s n t m), .int .i64 p, .int .i64 mode] (quantR s n t m p mode) := by
  have g1 := round_d s t n m p mode hn hm
  have hf := rndQ_fits s t n m p mode
  obtain ⟨V, hV⟩ : ∃ V, V = quantR s n t m p mode := ⟨_, rfl⟩
  rw [← hV]
  unfold roundR at g1
  unfold quantR at hV
  have hP : rndE s n t m p mode = 0 → ∃ P : Nat, p = (P : Nat) ∧ P ≤ 9 := fun h => by
    obtain ⟨-, h2, -⟩ := rndE_none h
    exact ⟨p.toNat, by omega, by omega⟩
  generalize rndQ s n t m p mode = z at g1 hV hf
  generalize rndE s n t m p mode = e at g1 hV hP
  have main : tdQuantize.den Tryz.prog (fun ρ' ret => ∀ β, ret.val.den (env ρ') β = V) [.bool s, .agg (mgk 32 n), .bool t, .agg (mgk 32 m), .int .i64 p, .int .i64 mode] := by
    refine tree_ite ?_
    refine ev_zc [.bool (decide (z < 0)), .agg (mgk 32 (z : Int).natAbs), .int .i64 e] (pure_gives (g1)) ?_
    by_cases he : e = 0
    · subst he
      obtain ⟨P, rfl, h9⟩ := hP rfl
      rw [if_pos rfl] at hV
      have t1 := ten_le h9
      have t2 := ten_pos P
      have gT := ten_d P h9
      have gF := fromInt_any (ten P) (by omega)
      have gM := (make_Z z (ten P) hf (lt_pw32 (ten_bits h9) (by omega))).2
      rw [show ((P : Nat) : Int).toNat = P from rfl] at hV
      obtain ⟨a, b, c, hmk⟩ := mkZ_form z (ten P)
      rw [hmk] at gM hV
      generalize ten P = T at gT gF gM
      refine ev_nil (way_true (by simp [BTm.den, Tm.i, Tm.s, Tm.den, env, vInt, vBool, vStr, exI] <;> omega) (tree_leaf ?_))
      refine ev_zc [.bool (decide (T < 0)), .agg (mgk 32 (T : Int).natAbs), .bool (decide (1 < 0)), .agg (mgk 32 (1 : Int).natAbs)] (pure_gives (gT)) ?_
      refine ev_zc [.bool (decide (a < 0)), .agg (mgk 32 (a : Int).natAbs), .bool (decide (b < 0)), .agg (mgk 32 (b : Int).natAbs), .int .i64 c] (pure_gives (gM)) ?_
      refine ev_nil fun β => ?_
      rw [hV]; simp [BTm.den, Tm.i, Tm.s, Tm.den, env, vInt, vBool, vStr, exI, SW.den, SV.den, Cell.den, densP, Piece.den, denV, rowCells_mgk, iv_list, rv_list, ivZ, rvZ, mgl_agg]
    · refine ev_nil (way_false (by simp [BTm.den, Tm.i, Tm.s, Tm.den, env, vInt, vBool, vStr, exI] <;> omega) (tree_leaf ?_))
      refine ev_nil fun β => ?_
      rw [hV, if_neg he, ← zero_rat]; simp [BTm.den, Tm.i, Tm.s, Tm.den, env, vInt, vBool, vStr, exI, SW.den, SV.den, Cell.den, densP, Piece.den, denV, denT]
  have h := pure_of plain [.bool s, .agg (mgk 32 n), .bool t, .agg (mgk 32 m), .int .i64 p, .int .i64 mode] tdQuantize_ok (by kernel_rfl) _ main
  refine gives_pure ?_
  simpa [ratR, intW, BTm.den, Tm.i, Tm.s, Tm.den, env, vInt, vBool, vStr, exI, SW.den, SV.den, Cell.den, densP, Piece.den, denV, denT, rowCells_mgk, rv_list] using h
set_option maxHeartbeats 2000000 in
theorem exact_p (s t : Bool) (n m : Nat) (p : Int) (hn : n < pw 32) (hm : m < pw 32) :
    Gives Tryz.prog 17 #[.agg (rv s n t m), .int .i64 p] (exactR s n t m p) := by
  have p1 := pValid s t n m hn hm
  obtain ⟨V, hV⟩ : ∃ V, V = exactR s n t m p := ⟨_, rfl⟩
  rw [← hV]
  have err : ∀ e : Int, e ≠ 0 → exactE s n t m p = e → V = .tuple #[.bool false, .int .i64 e] := fun e he h => by
    rw [hV]; unfold exactR; rw [h, decide_eq_false he]; rfl
  have main : tpExact.den Tryz.prog (fun ρ' ret => ∀ β, ret.val.den (env ρ') β = V) [.bool s, .agg (mgk 32 n), .bool t, .agg (mgk 32 m), .int .i64 p] := by
    refine tree_ite ?_
    obtain ⟨v1, hv1⟩ : ∃ b, b = vld s n t m := ⟨_, rfl⟩
    rw [← hv1] at p1
    refine ev_zc [.bool v1] (pure_gives (p1)) ?_
    by_cases hv : v1 = true
    · rw [hv1] at hv
      refine ev_nil (way_true (by simp [BTm.den, Tm.i, Tm.s, Tm.den, env, vInt, vBool, vStr, exI, hv1, hv]) (tree_ite ?_))
      by_cases h0 : p < 0
      · refine ev_nil (way_true (by simp [BTm.den, Tm.i, Tm.s, Tm.den, env, vInt, vBool, vStr, exI] <;> omega) (tree_leaf ?_))
        refine ev_nil fun β => ?_
        rw [err 30 (by omega) (by unfold exactE; rw [hv, if_neg (by simp), if_pos (by omega)])]; simp [BTm.den, Tm.i, Tm.s, Tm.den, env, vInt, vBool, vStr, exI, SW.den, SV.den, Cell.den, densP, Piece.den, denV, denT]
      refine ev_nil (way_false (by simp [BTm.den, Tm.i, Tm.s, Tm.den, env, vInt, vBool, vStr, exI] <;> omega) (tree_ite ?_))
      by_cases h9 : 9 < p
      · refine ev_nil (way_true (by simp [BTm.den, Tm.i, Tm.s, Tm.den, env, vInt, vBool, vStr, exI] <;> omega) (tree_leaf ?_))
        refine ev_nil fun β => ?_
        rw [err 30 (by omega) (by unfold exactE; rw [hv, if_neg (by simp), if_pos (by omega)])]; simp [BTm.den, Tm.i, Tm.s, Tm.den, env, vInt, vBool, vStr, exI, SW.den, SV.den, Cell.den, densP, Piece.den, denV, denT]
      refine ev_nil (way_false (by simp [BTm.den, Tm.i, Tm.s, Tm.den, env, vInt, vBool, vStr, exI] <;> omega) (tree_ite ?_))
      obtain ⟨P, rfl⟩ : ∃ P : Nat, p = (P : Nat) := ⟨p.toNat, by omega⟩
      have hP : P ≤ 9 := by omega
      have eV : V = .tuple #[.bool (decide (vz s n * ten P % vz t m = 0)), .int .i64 0] := by
        have e0 : exactE s n t m (P : Nat) = 0 := by unfold exactE; rw [hv, if_neg (by simp), if_neg (by omega)]
        rw [hV]; unfold exactR; rw [e0, decide_eq_true (show (0 : Int) = 0 from rfl), Bool.true_and]; rfl
      obtain ⟨hr, ht, h0m⟩ := rnd_of (p := P) hv hP
      have gT := ten_p P hP
      have t1 := ten_le hP
      have t2 := ten_pos P
      have gF := fromInt_any (ten P) (by omega)
      have gM := mul_any s (decide (ten P < 0)) n (ten P).natAbs hn (lt_pw32 (ten_bits hP) (by omega))
      rw [vz_self, resZ_fits hr.pN] at gM
      have gD := divMod_of (decide (vz s n * ten P < 0)) t (vz s n * ten P).natAbs m hr.pN hm h0m (divide_any _ m hr.pN hm h0m)
      rw [vz_self] at gD
      unfold divR at gD
      have gA := add_Z _ _ _ rfl hr.pr hr.pr hr.prr
      have gC := cmp_any (decide (vz s n * ten P % vz t m + vz s n * ten P % vz t m < 0)) t (vz s n * ten P % vz t m + vz s n * ten P % vz t m).natAbs m hr.prr hm
      rw [vz_self] at gC
      have gS := sign_Z _ hr.pr
      have gO := fromInt_any 1 (by omega)
      have gI := add_Z _ 1 _ rfl hr.pq (lt_pw32 (k := 1) (by decide) (by omega)) hr.pq1
      have sm1 := same_Z _ hr.pq
      have sm2 := same_ZZ _ _ hr.pq hr.pq1
      rw [decide_eq_false (by omega)] at sm2
      have hs0 : sgn (vz s n * ten P % vz t m) = 0 ↔ vz s n * ten P % vz t m = 0 := sgq_zero
      generalize sgn (vz s n * ten P % vz t m) = sR at gS hs0
      generalize cmpZ (vz s n * ten P % vz t m + vz s n * ten P % vz t m) (vz t m) = hf at gC
      generalize vz s n * ten P % vz t m + vz s n * ten P % vz t m = RR at gA gC
      generalize vz s n * ten P / vz t m + 1 = q1 at gI sm2
      generalize vz s n * ten P / vz t m = q at gD gI sm1 sm2
      generalize vz s n * ten P % vz t m = R at gD gA gS eV hs0
      generalize vz s n * ten P = N at gM gD
      generalize ten P = T at gT gF gM
      clear hr hv1 p1 err
      refine ev_zc [.int .i64 T] (pure_gives (gT)) ?_
      refine ev_zc [.bool (decide (T < 0)), .agg (mgk 32 (T : Int).natAbs)] (pure_gives (gF)) ?_
      refine ev_zc [.bool (decide (N < 0)), .agg (mgk 32 (N : Int).natAbs), .int .i64 0] (pure_gives (gM)) ?_
      refine ev_zc [.bool (decide (q < 0)), .agg (mgk 32 (q : Int).natAbs), .bool (decide (R < 0)), .agg (mgk 32 (R : Int).natAbs), .int .i64 0] (pure_gives (gD)) ?_
      refine ev_zc [.bool (decide (RR < 0)), .agg (mgk 32 (RR : Int).natAbs), .int .i64 0] (pure_gives (gA)) ?_
      refine ev_zc [.int .i64 hf] (pure_gives (gC)) ?_
      refine ev_zc [.int .i64 sR] (pure_gives (gS)) ?_
      by_cases hR : R = 0
      · have hsR := hs0.2 hR
        refine ev_nil (way_true (by simp [BTm.den, Tm.i, Tm.s, Tm.den, env, vInt, vBool, vStr, exI] <;> omega) (tree_leaf ?_))
        refine ev_same (true) rfl (fun β => by simp [BTm.den, Tm.i, Tm.s, Tm.den, env, vInt, vBool, vStr, exI, SW.den, SV.den, Cell.den, densP, Piece.den, denV, rowCells_mgk, iv_list, rv_list, ivZ, rvZ, mgl_agg]) (fun β => by simp [BTm.den, Tm.i, Tm.s, Tm.den, env, vInt, vBool, vStr, exI, SW.den, SV.den, Cell.den, densP, Piece.den, denV, rowCells_mgk, iv_list, rv_list, ivZ, rvZ, mgl_agg]) (sm1) ?_
        refine ev_nil fun β => ?_
        rw [eV, decide_eq_true hR]; simp [BTm.den, Tm.i, Tm.s, Tm.den, env, vInt, vBool, vStr, exI, SW.den, SV.den, Cell.den, densP, Piece.den, denV, rowCells_mgk, iv_list, rv_list, ivZ, rvZ, mgl_agg]
      · have hsR : sR ≠ 0 := fun e => hR (hs0.1 e)
        refine ev_nil (way_false (by simp [BTm.den, Tm.i, Tm.s, Tm.den, env, vInt, vBool, vStr, exI] <;> omega) (tree_leaf ?_))
        refine ev_zc [.bool (decide (1 < 0)), .agg (mgk 32 (1 : Int).natAbs)] (pure_gives (gO)) ?_
        refine ev_zc [.bool (decide (q1 < 0)), .agg (mgk 32 (q1 : Int).natAbs), .int .i64 0] (pure_gives (gI)) ?_
        refine ev_same (false) rfl (fun β => by simp [BTm.den, Tm.i, Tm.s, Tm.den, env, vInt, vBool, vStr, exI, SW.den, SV.den, Cell.den, densP, Piece.den, denV, rowCells_mgk, iv_list, rv_list, ivZ, rvZ, mgl_agg]) (fun β => by simp [BTm.den, Tm.i, Tm.s, Tm.den, env, vInt, vBool, vStr, exI, SW.den, SV.den, Cell.den, densP, Piece.den, denV, rowCells_mgk, iv_list, rv_list, ivZ, rvZ, mgl_agg]) (sm2) ?_
        refine ev_nil fun β => ?_
        rw [eV, decide_eq_false hR]; simp [BTm.den, Tm.i, Tm.s, Tm.den, env, vInt, vBool, vStr, exI, SW.den, SV.den, Cell.den, densP, Piece.den, denV, rowCells_mgk, iv_list, rv_list, ivZ, rvZ, mgl_agg]
    · refine ev_nil (way_false (by simp [BTm.den, Tm.i, Tm.s, Tm.den, env, vInt, vBool, vStr, exI, hv]) (tree_leaf ?_))
      refine ev_nil fun β => ?_
      rw [err 20 (by omega) (by unfold exactE; rw [← hv1, if_pos (by simpa using hv)])]; simp [BTm.den, Tm.i, Tm.s, Tm.den, env, vInt, vBool, vStr, exI, SW.den, SV.den, Cell.den, densP, Piece.den, denV, denT]
  have h := pure_of plain [.bool s, .agg (mgk 32 n), .bool t, .agg (mgk 32 m), .int .i64 p] tpExact_ok (by kernel_rfl) _ main
  refine gives_pure ?_
  simpa [ratR, intW, BTm.den, Tm.i, Tm.s, Tm.den, env, vInt, vBool, vStr, exI, SW.den, SV.den, Cell.den, densP, Piece.den, denV, denT, rowCells_mgk, rv_list] using h
set_option maxHeartbeats 2000000 in
theorem exact_d (s t : Bool) (n m : Nat) (p : Int) (hn : n < pw 32) (hm : m < pw 32) :
    Gives Tryz.prog 18 #[.agg (rv s n t m), .int .i64 p] (exactR s n t m p) := by
  have p1 := dValid s t n m hn hm
  obtain ⟨V, hV⟩ : ∃ V, V = exactR s n t m p := ⟨_, rfl⟩
  rw [← hV]
  have err : ∀ e : Int, e ≠ 0 → exactE s n t m p = e → V = .tuple #[.bool false, .int .i64 e] := fun e he h => by
    rw [hV]; unfold exactR; rw [h, decide_eq_false he]; rfl
  have main : tdExact.den Tryz.prog (fun ρ' ret => ∀ β, ret.val.den (env ρ') β = V) [.bool s, .agg (mgk 32 n), .bool t, .agg (mgk 32 m), .int .i64 p] := by
    refine tree_ite ?_
    obtain ⟨v1, hv1⟩ : ∃ b, b = vld s n t m := ⟨_, rfl⟩
    rw [← hv1] at p1
    refine ev_zc [.bool v1] (pure_gives (p1)) ?_
    by_cases hv : v1 = true
    · rw [hv1] at hv
      refine ev_nil (way_true (by simp [BTm.den, Tm.i, Tm.s, Tm.den, env, vInt, vBool, vStr, exI, hv1, hv]) (tree_ite ?_))
      by_cases h0 : p < 0
      · refine ev_nil (way_true (by simp [BTm.den, Tm.i, Tm.s, Tm.den, env, vInt, vBool, vStr, exI] <;> omega) (tree_leaf ?_))
        refine ev_nil fun β => ?_
        rw [err 30 (by omega) (by unfold exactE; rw [hv, if_neg (by simp), if_pos (by omega)])]; simp [BTm.den, Tm.i, Tm.s, Tm.den, env, vInt, vBool, vStr, exI, SW.den, SV.den, Cell.den, densP, Piece.den, denV, denT]
      refine ev_nil (way_false (by simp [BTm.den, Tm.i, Tm.s, Tm.den, env, vInt, vBool, vStr, exI] <;> omega) (tree_ite ?_))
      by_cases h9 : 9 < p
      · refine ev_nil (way_true (by simp [BTm.den, Tm.i, Tm.s, Tm.den, env, vInt, vBool, vStr, exI] <;> omega) (tree_leaf ?_))
        refine ev_nil fun β => ?_
        rw [err 30 (by omega) (by unfold exactE; rw [hv, if_neg (by simp), if_pos (by omega)])]; simp [BTm.den, Tm.i, Tm.s, Tm.den, env, vInt, vBool, vStr, exI, SW.den, SV.den, Cell.den, densP, Piece.den, denV, denT]
      refine ev_nil (way_false (by simp [BTm.den, Tm.i, Tm.s, Tm.den, env, vInt, vBool, vStr, exI] <;> omega) (tree_leaf ?_))
      obtain ⟨P, rfl⟩ : ∃ P : Nat, p = (P : Nat) := ⟨p.toNat, by omega⟩
      have hP : P ≤ 9 := by omega
      have eV : V = .tuple #[.bool (decide (vz s n * ten P % vz t m = 0)), .int .i64 0] := by
        have e0 : exactE s n t m (P : Nat) = 0 := by unfold exactE; rw [hv, if_neg (by simp), if_neg (by omega)]
        rw [hV]; unfold exactR; rw [e0, decide_eq_true (show (0 : Int) = 0 from rfl), Bool.true_and]; rfl
      obtain ⟨hr, ht, h0m⟩ := rnd_of (p := P) hv hP
      have gT := ten_d P hP
      have gM := rmul_any s (decide (ten P < 0)) n (ten P).natAbs hn (lt_pw32 (ten_bits hP) (by omega))
      rw [vz_self, resZ_fits hr.pN] at gM
      have gD := rdivMod_any (decide (vz s n * ten P < 0)) t (vz s n * ten P).natAbs m hr.pN hm h0m
      rw [vz_self] at gD
      unfold divR at gD
      have gS := rsign_z _ hr.pr
      have hs0 : sgn (vz s n * ten P % vz t m) = 0 ↔ vz s n * ten P % vz t m = 0 := sgq_zero
      generalize sgn (vz s n * ten P % vz t m) = sR at gS hs0
      generalize vz s n * ten P / vz t m = q at gD
      generalize vz s n * ten P % vz t m = R at gD gS eV hs0
      generalize vz s n * ten P = N at gM gD
      generalize ten P = T at gT gM
      clear hr hv1 p1 err
      refine ev_zc [.bool (decide (T < 0)), .agg (mgk 32 (T : Int).natAbs), .bool (decide (1 < 0)), .agg (mgk 32 (1 : Int).natAbs)] (pure_gives (gT)) ?_
      refine ev_zc [.bool (decide (N < 0)), .agg (mgk 32 (N : Int).natAbs), .int .i64 0] (pure_gives (gM)) ?_
      refine ev_zc [.bool (decide (q < 0)), .agg (mgk 32 (q : Int).natAbs), .bool (decide (R < 0)), .agg (mgk 32 (R : Int).natAbs), .int .i64 0] (pure_gives (gD)) ?_
      refine ev_zc [.int .i64 sR] (pure_gives (gS)) ?_
      refine ev_nil fun β => ?_
      have hb : (sR == 0) = decide (R = 0) := by
        rw [Bool.eq_iff_iff, beq_iff_eq, decide_eq_true_eq]; exact hs0
      rw [eV, ← hb]; simp [BTm.den, Tm.i, Tm.s, Tm.den, env, vInt, vBool, vStr, exI, SW.den, SV.den, Cell.den, densP, Piece.den, denV, rowCells_mgk, iv_list, rv_list, ivZ, rvZ, mgl_agg]
    · refine ev_nil (way_false (by simp [BTm.den, Tm.i, Tm.s, Tm.den, env, vInt, vBool, vStr, exI, hv]) (tree_leaf ?_))
      refine ev_nil fun β => ?_
      rw [err 20 (by omega) (by unfold exactE; rw [← hv1, if_pos (by simpa using hv)])]; simp [BTm.den, Tm.i, Tm.s, Tm.den, env, vInt, vBool, vStr, exI, SW.den, SV.den, Cell.den, densP, Piece.den, denV, denT]
  have h := pure_of plain [.bool s, .agg (mgk 32 n), .bool t, .agg (mgk 32 m), .int .i64 p] tdExact_ok (by kernel_rfl) _ main
  refine gives_pure ?_
  simpa [ratR, intW, BTm.den, Tm.i, Tm.s, Tm.den, env, vInt, vBool, vStr, exI, SW.den, SV.den, Cell.den, densP, Piece.den, denV, denT, rowCells_mgk, rv_list] using h
end Go.Proofs.YtkiefjbfepjcbaaGreatDoor
end
section
namespace Go.Proofs.YtkiefjbfepjcbaaGreatDoor
open Go.RowKit Go.Proofs.YtkiefjbfepjcbaaGreatDoor.Sx
set_option linter.unusedSimpArgs false
set_option linter.unusedVariables false

def byteN (s : ByteArray) (i : Nat) : Nat := (s.data.toList.getD i 0).toNat
def digB (s : ByteArray) (i : Nat) : Prop := 48 ≤ byteN s i ∧ byteN s i ≤ 57
theorem byteI_N (s : ByteArray) (i : Nat) : byteI s ((i : Nat) : Int) = ((byteN s i : Nat) : Int) := by
  unfold byteI byteN; rw [Int.toNat_natCast]
theorem dig_end (s : ByteArray) : ∃ (j : Nat) (bad : Bool), j ≤ s.size ∧ (∀ i, i < j → digB s i) ∧ (bad = true → j < s.size ∧ ¬ digB s j) ∧ (bad = false → j = s.size) := by
  classical
  by_cases h : ∃ i, i < s.size ∧ ¬ digB s i
  · obtain ⟨j, ⟨h1, h2⟩, h3⟩ := least h
    refine ⟨j, true, Nat.le_of_lt h1, fun i hi => ?_, fun _ => ⟨h1, h2⟩, fun h => by cases h⟩
    by_cases hd : digB s i
    · exact hd
    · exact absurd (h3 i ⟨by omega, hd⟩) (by omega)
  · refine ⟨s.size, false, Nat.le_refl _, fun i hi => ?_, (fun h => by cases h), fun _ => rfl⟩
    by_cases hd : digB s i
    · exact hd
    · exact absurd ⟨i, hi, hd⟩ h
set_option maxHeartbeats 4000000 in
theorem dig_loop (s : ByteArray) (most : Int) (hl : s.size ≤ 1152921504606846976) (j : Nat) (bad : Bool) (h1 : j ≤ s.size) (h2 : ∀ i, i < j → digB s i) (h3 : bad = true → j < s.size ∧ ¬ digB s j) (h4 : bad = false → j = s.size) :
    Ev.holds Tryz.prog (env [.string s, .int .i64 most, .int .i64 (j : Nat), .bool false, .bool bad]) (.loop 80 0 strS80_0 strH80_0 (.exit 0) (.some (4, .ret)) 3) := by
  refine loop_holds plain (m := 3) (x := .exit 0) (alt := .some (4, .ret)) [.string s, .int .i64 most] [.int .i64 (j : Nat), .bool false, .bool bad] tpIsDig0_ok tpIsDig0_fine
    (fun vs => ∃ i : Nat, i ≤ j ∧ vs = [.int .i64 (i : Nat), .bool false, .bool bad])
    (fun vs => s.size + 1 - (vInt (vs.getD 0 undef)).toNat) tpIsDig0_diff ?_ ?_
  · refine ⟨[.int .i64 (0 : Nat), .bool false, .bool bad], rfl, ⟨0, by omega, rfl⟩, ?_⟩
    simp [tpIsDig0_d, BTm.den, Tm.i, Tm.s, Tm.den, env, vInt, vBool, vStr, exI, SW.den, SV.den, Cell.den, densP, Piece.den, denV, denT]
  · rintro vs hlv ⟨i, hi, rfl⟩
    clear hlv
    have hb := byteI_N s i
    have hend : i < s.size → ¬ digB s i → bad = true ∧ i = j := fun h5 h6 => by
      have h7 : i = j := by
        rcases Nat.lt_or_ge i j with h | h
        · exact absurd (h2 i h) h6
        · omega
      subst h7
      cases hbad : bad with
      | true => exact ⟨rfl, rfl⟩
      | false => exact absurd (h4 hbad) (by omega)
    refine tree_ite (ev_nil ⟨fun hlt => tree_ite ?_, fun hlt => tree_leaf (ev_nil ?_)⟩)
    · have hlt : i < s.size := by simpa [BTm.den, Tm.i, Tm.s, Tm.den, env, vInt, vBool, vStr, exI] using hlt
      refine ev_need (by simp [BTm.den, Tm.i, Tm.s, Tm.den, env, vInt, vBool, vStr, exI]) ?_
      refine ev_need (by simp [BTm.den, Tm.i, Tm.s, Tm.den, env, vInt, vBool, vStr, exI, hlt]) ?_
      refine ev_nil ⟨fun h => tree_leaf (ev_nil ?_), fun h => tree_ite ?_⟩
      · have h : ((byteN s i : Nat) : Int) < 48 := by simpa [BTm.den, Tm.i, Tm.s, Tm.den, env, vInt, vBool, vStr, exI, hb] using h
        obtain ⟨hbad, rfl⟩ := hend hlt (fun hd => by have := hd.1; omega)
        subst hbad
        refine ⟨rfl, ?_⟩
        simp [BTm.den, Tm.i, Tm.s, Tm.den, env, vInt, vBool, vStr, exI, SW.den, SV.den, Cell.den, densP, Piece.den, denV, denT]
      · have h : ¬ ((byteN s i : Nat) : Int) < 48 := by simpa [BTm.den, Tm.i, Tm.s, Tm.den, env, vInt, vBool, vStr, exI, hb] using h
        refine ev_need (by simp [BTm.den, Tm.i, Tm.s, Tm.den, env, vInt, vBool, vStr, exI]) ?_
        refine ev_need (by simp [BTm.den, Tm.i, Tm.s, Tm.den, env, vInt, vBool, vStr, exI, hlt]) ?_
        refine ev_nil ⟨fun h' => tree_leaf (ev_nil ?_), fun h' => tree_leaf ?_⟩
        · have h' : 57 < ((byteN s i : Nat) : Int) := by simpa [BTm.den, Tm.i, Tm.s, Tm.den, env, vInt, vBool, vStr, exI, hb] using h'
          obtain ⟨hbad, rfl⟩ := hend hlt (fun hd => by have := hd.2; omega)
          subst hbad
          refine ⟨rfl, ?_⟩
          simp [BTm.den, Tm.i, Tm.s, Tm.den, env, vInt, vBool, vStr, exI, SW.den, SV.den, Cell.den, densP, Piece.den, denV, denT]
        · have h' : ¬ 57 < ((byteN s i : Nat) : Int) := by simpa [BTm.den, Tm.i, Tm.s, Tm.den, env, vInt, vBool, vStr, exI, hb] using h'
          have hij : i + 1 ≤ j := by
            rcases Nat.lt_or_ge i j with h8 | h8
            · omega
            · have h9 : i = j := by omega
              subst h9
              cases hbad : bad with
              | true => exact absurd ⟨by omega, by omega⟩ (h3 hbad).2
              | false => have := h4 hbad; omega
          refine ev_fits ((i + 1 : Nat) : Int) (by simp [BTm.den, Tm.i, Tm.s, Tm.den, env, vInt, vBool, vStr, exI]) (rng_i64 _ (by omega)) ?_
          refine ev_nil ⟨[.int .i64 (i + 1 : Nat), .bool false, .bool bad], rfl, ⟨i + 1, hij, rfl⟩, by simp [vInt]; omega, ?_⟩
          simp [BTm.den, Tm.i, Tm.s, Tm.den, env, vInt, vBool, vStr, exI, SW.den, SV.den, Cell.den, densP, Piece.den, denV, denT]
    · have hlt : ¬ i < s.size := by simpa [BTm.den, Tm.i, Tm.s, Tm.den, env, vInt, vBool, vStr, exI] using hlt
      obtain rfl : i = j := by omega
      have hbad : bad = false := by
        cases hb : bad with
        | true => have := (h3 hb).1; omega
        | false => rfl
      subst hbad
      refine ⟨rfl, ?_⟩
      simp [BTm.den, Tm.i, Tm.s, Tm.den, env, vInt, vBool, vStr, exI, SW.den, SV.den, Cell.den, densP, Piece.den, denV, denT]

def DigOk (s : ByteArray) (most : Int) : Prop := s.size ≠ 0 ∧ (s.size : Int) ≤ most ∧ ∀ i, i < s.size → digB s i
theorem dig_any (s : ByteArray) (most : Int) (hl : s.size ≤ 1152921504606846976) : ∃ b : Bool, (b = true ↔ DigOk s most) ∧ Gives Tryz.prog 80 #[.string s, .int .i64 most] (.bool b) := by
  obtain ⟨j, bad, h1, h2, h3, h4⟩ := dig_end s
  have hall : bad = false ↔ ∀ i, i < s.size → digB s i := by
    constructor
    · intro h i hi; exact h2 i (by have := h4 h; omega)
    · intro h
      cases hb : bad with
      | true => exact absurd (h j (h3 hb).1) (h3 hb).2
      | false => rfl
  have fin : ∀ b : Bool, (tpIsDig.den Tryz.prog (fun ρ' ret => ∀ β, ret.val.den (env ρ') β = .bool b) [.string s, .int .i64 most]) → Gives Tryz.prog 80 #[.string s, .int .i64 most] (.bool b) := fun b main => by
    have h := pure_of plain [.string s, .int .i64 most] tpIsDig_ok (by kernel_rfl) _ main
    refine gives_pure ?_
    simpa [strW, intW, BTm.den, Tm.i, Tm.s, Tm.den, env, vInt, vBool, vStr, exI, SW.den, SV.den, Cell.den, densP, Piece.den, denV, denT] using h
  by_cases e1 : s.size = 0
  · refine ⟨false, ⟨fun h => (by cases h), fun h => absurd e1 h.1⟩, fin _ ?_⟩
    refine tree_ite (ev_nil (way_true (by simp [BTm.den, Tm.i, Tm.s, Tm.den, env, vInt, vBool, vStr, exI, e1]) (tree_leaf (ev_nil fun β => ?_))))
    simp [BTm.den, Tm.i, Tm.s, Tm.den, env, vInt, vBool, vStr, exI, SW.den, SV.den, Cell.den, densP, Piece.den, denV, denT]
  by_cases e2 : most < s.size
  · refine ⟨false, ⟨fun h => (by cases h), fun h => absurd h.2.1 (by omega)⟩, fin _ ?_⟩
    refine tree_ite (ev_nil (way_false (by simp [BTm.den, Tm.i, Tm.s, Tm.den, env, vInt, vBool, vStr, exI, e1]) (tree_ite (ev_nil (way_true (by simp [BTm.den, Tm.i, Tm.s, Tm.den, env, vInt, vBool, vStr, exI]; omega) (tree_leaf (ev_nil fun β => ?_)))))))
    simp [BTm.den, Tm.i, Tm.s, Tm.den, env, vInt, vBool, vStr, exI, SW.den, SV.den, Cell.den, densP, Piece.den, denV, denT]
  have hlo := dig_loop s most hl j bad h1 h2 h3 h4
  refine ⟨!bad, ⟨fun h => ⟨e1, by omega, hall.1 (by simpa using h)⟩, fun h => by simpa using hall.2 h.2.2⟩, fin _ ?_⟩
  refine tree_ite (ev_nil (way_false (by simp [BTm.den, Tm.i, Tm.s, Tm.den, env, vInt, vBool, vStr, exI, e1]) (tree_ite (ev_nil (way_false (by simp [BTm.den, Tm.i, Tm.s, Tm.den, env, vInt, vBool, vStr, exI]; omega) (tree_ite ?_))))))
  refine ev_loop [.int .i64 (j : Nat), .bool false, .bool bad] rfl rfl hlo ?_
  refine ev_nil ⟨fun h => tree_leaf (ev_nil fun β => ?_), fun h => tree_leaf (ev_nil fun β => ?_)⟩
  · have h : bad = true := by simpa [BTm.den, Tm.i, Tm.s, Tm.den, env, vInt, vBool, vStr, exI] using h
    rw [h]; simp [BTm.den, Tm.i, Tm.s, Tm.den, env, vInt, vBool, vStr, exI, SW.den, SV.den, Cell.den, densP, Piece.den, denV, denT]
  · have h : bad = false := by simpa [BTm.den, Tm.i, Tm.s, Tm.den, env, vInt, vBool, vStr, exI] using h
    rw [h]; simp [BTm.den, Tm.i, Tm.s, Tm.den, env, vInt, vBool, vStr, exI, SW.den, SV.den, Cell.den, densP, Piece.den, denV, denT]
def numN (s : ByteArray) : Nat → Nat
  | 0 => 0
  | i + 1 => 10 * numN s i + (byteN s i - 48)
theorem numN_lt (s : ByteArray) : ∀ i, (∀ k, k < i → digB s k) → numN s i < 10 ^ i
  | 0, _ => by simp [numN]
  | i + 1, h => by
    have h1 := numN_lt s i fun k hk => h k (by omega)
    have h2 := (h i (by omega)).2
    rw [numN, Nat.pow_succ]; omega
theorem ten17 {i : Nat} (h : i ≤ 17) : 10 ^ i ≤ 100000000000000000 := by
  have h1 : 10 ^ i ≤ 10 ^ 17 := Nat.pow_le_pow_right (by omega) h
  have h2 : 10 ^ 17 = 100000000000000000 := by decide
  omega
set_option maxHeartbeats 4000000 in
theorem count_loop (s : ByteArray) (hs : s.size ≤ 17) (hd : ∀ k, k < s.size → digB s k) :
    Ev.holds Tryz.prog (env [.string s, .int .i64 (s.size : Nat), .int .i64 (numN s s.size : Nat)]) (.loop 126 0 strS126_0 strH126_0 (.exit 0) .none 2) := by
  refine loop_holds plain (m := 2) (x := .exit 0) (alt := none) [.string s] [.int .i64 (s.size : Nat), .int .i64 (numN s s.size : Nat)] tpCount0_ok tpCount0_fine
    (fun vs => ∃ i : Nat, i ≤ s.size ∧ vs = [.int .i64 (i : Nat), .int .i64 (numN s i : Nat)])
    (fun vs => s.size - (vInt (vs.getD 0 undef)).toNat) tpCount0_diff ?_ ?_
  · refine ⟨[.int .i64 (0 : Nat), .int .i64 (numN s 0 : Nat)], rfl, ⟨0, by omega, rfl⟩, ?_⟩
    simp [tpCount0_d, numN, BTm.den, Tm.i, Tm.s, Tm.den, env, vInt, vBool, vStr, exI, SW.den, SV.den, Cell.den, densP, Piece.den, denV, denT]
  · rintro vs hl ⟨i, hi, rfl⟩
    clear hl
    have hb := byteI_N s i
    refine tree_ite (ev_nil ⟨fun hlt => tree_leaf ?_, fun hlt => tree_leaf (ev_nil ?_)⟩)
    · have hlt : i < s.size := by simpa [BTm.den, Tm.i, Tm.s, Tm.den, env, vInt, vBool, vStr, exI] using hlt
      have h1 := numN_lt s (i + 1) fun k hk => hd k (by omega)
      have h2 := ten17 (show i + 1 ≤ 17 by omega)
      have h3 := hd i hlt
      have h4 : numN s (i + 1) = 10 * numN s i + (byteN s i - 48) := rfl
      unfold digB at h3
      obtain ⟨b, hbb⟩ : ∃ b, b = byteN s i := ⟨_, rfl⟩
      obtain ⟨x, hx⟩ : ∃ b, b = numN s i := ⟨_, rfl⟩
      obtain ⟨y, hy⟩ : ∃ b, b = numN s (i + 1) := ⟨_, rfl⟩
      rw [← hbb] at hb h3 h4
      rw [← hx] at h4 ⊢
      rw [← hy] at h4 h1
      have hw : ariI .sub .u8 (byteI s ((i : Nat) : Int)) 48 = ((b - 48 : Nat) : Int) := by
        rw [hb]; simp only [ariI, IntKind.wrap_u8]; omega
      refine ev_fits ((10 * x : Nat) : Int) (by simp [BTm.den, Tm.i, Tm.s, Tm.den, env, vInt, vBool, vStr, exI]) (rng_i64 _ (by omega)) ?_
      refine ev_need (by simp [BTm.den, Tm.i, Tm.s, Tm.den, env, vInt, vBool, vStr, exI]) ?_
      refine ev_need (by simp [BTm.den, Tm.i, Tm.s, Tm.den, env, vInt, vBool, vStr, exI, hlt]) ?_
      refine ev_fits ((b - 48 : Nat) : Int) (by simp [BTm.den, Tm.i, Tm.s, Tm.den, env, vInt, vBool, vStr, exI, hw]) (rng_i64 _ (by omega)) ?_
      refine ev_fits ((y : Nat) : Int) (by simp [BTm.den, Tm.i, Tm.s, Tm.den, env, vInt, vBool, vStr, exI, hw]; omega) (rng_i64 _ (by omega)) ?_
      refine ev_fits ((i + 1 : Nat) : Int) (by simp [BTm.den, Tm.i, Tm.s, Tm.den, env, vInt, vBool, vStr, exI]) (rng_i64 _ (by omega)) ?_
      refine ev_nil ⟨[.int .i64 (i + 1 : Nat), .int .i64 (y : Nat)], rfl, ⟨i + 1, by omega, by rw [hy]⟩, by simp [vInt]; omega, ?_⟩
      have e : (10 * (x : Int) + ((b - 48 : Nat) : Int)) = ((y : Nat) : Int) := by omega
      simp [BTm.den, Tm.i, Tm.s, Tm.den, env, vInt, vBool, vStr, exI, SW.den, SV.den, Cell.den, densP, Piece.den, denV, denT, hw, e]
    · have hlt : ¬ i < s.size := by simpa [BTm.den, Tm.i, Tm.s, Tm.den, env, vInt, vBool, vStr, exI] using hlt
      obtain rfl : i = s.size := by omega
      refine ⟨rfl, ?_⟩
      simp [BTm.den, Tm.i, Tm.s, Tm.den, env, vInt, vBool, vStr, exI, SW.den, SV.den, Cell.den, densP, Piece.den, denV, denT]
theorem count_any (s : ByteArray) (hs : s.size ≤ 17) (hd : ∀ k, k < s.size → digB s k) : Gives Tryz.prog 126 #[.string s] (.agg (ivZ (numN s s.size : Nat))) := by
  have hl := count_loop s hs hd
  have h1 := numN_lt s s.size hd
  have h2 := ten17 hs
  obtain ⟨x, hx⟩ : ∃ b : Int, b = ((numN s s.size : Nat) : Int) := ⟨_, rfl⟩
  have g := fromInt_any x (by omega)
  rw [← hx] at hl ⊢
  have main : tpCount.den Tryz.prog (fun ρ' ret => ∀ β, ret.val.den (env ρ') β = .agg (ivZ x)) [.string s] := by
    refine tree_leaf ?_
    refine ev_loop [.int .i64 (s.size : Nat), .int .i64 x] rfl rfl hl ?_
    refine ev_zc [.bool (decide (x < 0)), .agg (mgk 32 (x : Int).natAbs)] (pure_gives (g)) ?_
    refine ev_nil fun β => ?_
    simp [BTm.den, Tm.i, Tm.s, Tm.den, env, vInt, vBool, vStr, exI, SW.den, SV.den, Cell.den, densP, Piece.den, denV, rowCells_mgk, iv_list, rv_list, ivZ, rvZ, mgl_agg]
  have h := pure_of plain [.string s] tpCount_ok (by kernel_rfl) _ main
  refine gives_pure ?_
  simpa [strW, BTm.den, Tm.i, Tm.s, Tm.den, env, vInt, vBool, vStr, exI, SW.den, SV.den, Cell.den, densP, Piece.den, denV, denT] using h
end Go.Proofs.YtkiefjbfepjcbaaGreatDoor
end
section
namespace Go.Proofs
open Go.Shelf
def Tryz.laysM171_ren : Go.Shelf.Ren := ⟨fun | 171 => 90 | 243 => 135 | 246 => 168 | 283 => 188 | 284 => 189 | 285 => 190 | 286 => 191 | 129 => 208 | 317 => 207 | 318 => 209 | 319 => 210 | 320 => 211 | 337 => 215 | 338 => 216 | n => n, fun | 3 => 3 | 9 => 9 | 2 => 2 | 4 => 4 | 171 => 178 | 0 => 0 | 53 => 115 | 37 => 100 | 5 => 5 | 173 => 181 | 212 => 197 | 51 => 22 | 20 => 20 | 213 => 198 | 46 => 116 | 232 => 205 | 233 => 206 | n => n, fun | 17 => 2 | 18 => 5 | 19 => 6 | n => n⟩
theorem Tryz.laysM171 : Go.Proofs.LaysM.n171 Tryz.prog Tryz.laysM171_ren := {
  mixed := by kernel_rfl
  f129 := Tryz.func208.trans (congrArg some (by kernel_rfl))
  f171 := Tryz.func90.trans (congrArg some (by kernel_rfl))
  f243 := Tryz.func135.trans (congrArg some (by kernel_rfl))
  f246 := Tryz.func168.trans (congrArg some (by kernel_rfl))
  f283 := Tryz.func188.trans (congrArg some (by kernel_rfl))
  f284 := Tryz.func189.trans (congrArg some (by kernel_rfl))
  f285 := Tryz.func190.trans (congrArg some (by kernel_rfl))
  f286 := Tryz.func191.trans (congrArg some (by kernel_rfl))
  f317 := Tryz.func207.trans (congrArg some (by kernel_rfl))
  f318 := Tryz.func209.trans (congrArg some (by kernel_rfl))
  f319 := Tryz.func210.trans (congrArg some (by kernel_rfl))
  f320 := Tryz.func211.trans (congrArg some (by kernel_rfl))
  f337 := Tryz.func215.trans (congrArg some (by kernel_rfl))
  f338 := Tryz.func216.trans (congrArg some (by kernel_rfl))
  t0 := Tryz.underlying0
  a0 := Tryz.isAgg0
  z0 := Tryz.sizeOf0
  v0 := Tryz.zeroValue0
  t2 := Tryz.underlying2
  a2 := Tryz.isAgg2
  z2 := Tryz.sizeOf2
  v2 := Tryz.zeroValue2
  t3 := Tryz.underlying3
  a3 := Tryz.isAgg3
  z3 := Tryz.sizeOf3
  v3 := Tryz.zeroValue3
  t4 := Tryz.underlying4
  a4 := Tryz.isAgg4
  z4 := Tryz.sizeOf4
  v4 := Tryz.zeroValue4
  t5 := Tryz.underlying5
  a5 := Tryz.isAgg5
  z5 := Tryz.sizeOf5
  v5 := Tryz.zeroValue5
  t9 := Tryz.underlying9
  a9 := Tryz.isAgg9
  z9 := Tryz.sizeOf9
  v9 := Tryz.zeroValue9
  t20 := Tryz.underlying20
  a20 := Tryz.isAgg20
  z20 := Tryz.sizeOf20
  v20 := Tryz.zeroValue20
  t37 := Tryz.underlying100
  a37 := Tryz.isAgg100
  z37 := Tryz.sizeOf100
  v37 := Tryz.zeroValue100
  t46 := Tryz.underlying116
  a46 := Tryz.isAgg116
  z46 := Tryz.sizeOf116
  v46 := Tryz.zeroValue116
  t51 := Tryz.underlying22
  a51 := Tryz.isAgg22
  z51 := Tryz.sizeOf22
  v51 := Tryz.zeroValue22
  t53 := Tryz.underlying115
  a53 := Tryz.isAgg115
  z53 := Tryz.sizeOf115
  v53 := Tryz.zeroValue115
  t171 := Tryz.underlying178
  a171 := Tryz.isAgg178
  z171 := Tryz.sizeOf178
  v171 := Tryz.zeroValue178
  t173 := Tryz.underlying181
  a173 := Tryz.isAgg181
  z173 := Tryz.sizeOf181
  v173 := Tryz.zeroValue181
  t212 := Tryz.underlying197
  a212 := Tryz.isAgg197
  z212 := Tryz.sizeOf197
  v212 := Tryz.zeroValue197
  t213 := Tryz.underlying198
  a213 := Tryz.isAgg198
  z213 := Tryz.sizeOf198
  t232 := Tryz.underlying205
  a232 := Tryz.isAgg205
  z232 := Tryz.sizeOf205
  v232 := Tryz.zeroValue205
  t233 := Tryz.underlying206
  a233 := Tryz.isAgg206
  z233 := Tryz.sizeOf206
  v233 := Tryz.zeroValue206
  g17 := by kernel_rfl
  g18 := by kernel_rfl
  g19 := by kernel_rfl
  i0 := by kernel_rfl
  i2 := by kernel_rfl
  i3 := by kernel_rfl
  i4 := by kernel_rfl
  i5 := by kernel_rfl
  i9 := by kernel_rfl
  i20 := by kernel_rfl
  i37 := by kernel_rfl
  i46 := by kernel_rfl
  i51 := by kernel_rfl
  i53 := by kernel_rfl
  i171 := by kernel_rfl
  i173 := by kernel_rfl
  i212 := by kernel_rfl
  i232 := by kernel_rfl
  i233 := by kernel_rfl
  m17 := by kernel_rfl
  m18 := by kernel_rfl
  m19 := by kernel_rfl }
open Go.RowKit Go.Sort Go.Lib in
theorem Tryz.strconv_Itoa (n : Int) (h0 : -9223372036854775808 ≤ n) (h1 : n ≤ 9223372036854775807) (w : World) (htab : Lib.TabIs Tryz.prog w "internal/strconv.uint64pow10" .u64 Lib.pow10Tab) :
    Calls Tryz.prog 90 #[.int .i64 n] w fun e w' => e = .returned (.string ⟨(Lib.itoa n).toArray⟩) ∧ ∃ k os, w' = grow (w.drewN k) os := Any.strconv_Itoa Tryz.laysM171 n h0 h1 w htab
def Tryz.lays219_ren : Go.Shelf.Ren := ⟨fun | 219 => 161 | 217 => 180 | 225 => 181 | 224 => 182 | 267 => 183 | 266 => 203 | 314 => 204 | n => n, fun | 9 => 9 | 3 => 3 | 4 => 4 | 5 => 5 | 46 => 116 | 146 => 164 | 51 => 22 | n => n, fun | 1 => 0 | n => n⟩
theorem Tryz.lays219 : Go.Proofs.Lays.n219 Tryz.prog Tryz.lays219_ren := {
  mixed := by kernel_rfl
  f217 := Tryz.func180.trans (congrArg some (by kernel_rfl))
  f219 := Tryz.func161.trans (congrArg some (by kernel_rfl))
  f224 := Tryz.func182.trans (congrArg some (by kernel_rfl))
  f225 := Tryz.func181.trans (congrArg some (by kernel_rfl))
  f266 := Tryz.func203.trans (congrArg some (by kernel_rfl))
  f267 := Tryz.func183.trans (congrArg some (by kernel_rfl))
  f314 := Tryz.func204.trans (congrArg some (by kernel_rfl))
  t3 := Tryz.underlying3
  a3 := Tryz.isAgg3
  z3 := Tryz.sizeOf3
  v3 := Tryz.zeroValue3
  t4 := Tryz.underlying4
  a4 := Tryz.isAgg4
  z4 := Tryz.sizeOf4
  v4 := Tryz.zeroValue4
  t5 := Tryz.underlying5
  a5 := Tryz.isAgg5
  z5 := Tryz.sizeOf5
  v5 := Tryz.zeroValue5
  t9 := Tryz.underlying9
  a9 := Tryz.isAgg9
  z9 := Tryz.sizeOf9
  v9 := Tryz.zeroValue9
  t46 := Tryz.underlying116
  a46 := Tryz.isAgg116
  z46 := Tryz.sizeOf116
  v46 := Tryz.zeroValue116
  t51 := Tryz.underlying22
  a51 := Tryz.isAgg22
  z51 := Tryz.sizeOf22
  v51 := Tryz.zeroValue22
  t146 := Tryz.underlying164
  a146 := Tryz.isAgg164
  z146 := Tryz.sizeOf164
  v146 := Tryz.zeroValue164
  g1 := by kernel_rfl }
open Go.RowKit Go.Lib in
theorem Tryz.stringslite_Index_one (s : ByteArray) (c : UInt8) (w : World) :
    Calls Tryz.prog 161 #[.string s, .string ⟨#[c]⟩] w fun e w' => e = .returned (.int .i64 (Lib.indexByte s.data.toList c)) ∧ w' = w := Any.stringslite_Index_one Tryz.lays219 s c w
def Tryz.lays105_ren : Go.Shelf.Ren := ⟨fun | 105 => 134 | 212 => 163 | 99 => 86 | 165 => 164 | 166 => 165 | 170 => 166 | 169 => 167 | 263 => 184 | 264 => 185 | 206 => 130 | 240 => 186 | 241 => 187 | 276 => 205 | 277 => 206 | n => n, fun | 9 => 9 | 3 => 3 | 4 => 4 | 20 => 20 | 0 => 0 | 46 => 116 | 109 => 150 | 5 => 5 | 72 => 154 | 76 => 158 | 51 => 22 | 146 => 164 | 53 => 115 | 148 => 175 | 70 => 152 | 37 => 100 | 75 => 157 | 127 => 177 | 164 => 193 | 80 => 161 | n => n, fun | n => n⟩
theorem Tryz.lays105 : Go.Proofs.Lays.n105 Tryz.prog Tryz.lays105_ren := {
  mixed := by kernel_rfl
  f99 := Tryz.func86.trans (congrArg some (by kernel_rfl))
  f105 := Tryz.func134.trans (congrArg some (by kernel_rfl))
  f165 := Tryz.func164.trans (congrArg some (by kernel_rfl))
  f166 := Tryz.func165.trans (congrArg some (by kernel_rfl))
  f169 := Tryz.func167.trans (congrArg some (by kernel_rfl))
  f170 := Tryz.func166.trans (congrArg some (by kernel_rfl))
  f206 := Tryz.func130.trans (congrArg some (by kernel_rfl))
  f212 := Tryz.func163.trans (congrArg some (by kernel_rfl))
  f240 := Tryz.func186.trans (congrArg some (by kernel_rfl))
  f241 := Tryz.func187.trans (congrArg some (by kernel_rfl))
  f263 := Tryz.func184.trans (congrArg some (by kernel_rfl))
  f264 := Tryz.func185.trans (congrArg some (by kernel_rfl))
  f276 := Tryz.func205.trans (congrArg some (by kernel_rfl))
  f277 := Tryz.func206.trans (congrArg some (by kernel_rfl))
  t0 := Tryz.underlying0
  a0 := Tryz.isAgg0
  z0 := Tryz.sizeOf0
  v0 := Tryz.zeroValue0
  t3 := Tryz.underlying3
  a3 := Tryz.isAgg3
  z3 := Tryz.sizeOf3
  v3 := Tryz.zeroValue3
  t4 := Tryz.underlying4
  a4 := Tryz.isAgg4
  z4 := Tryz.sizeOf4
  v4 := Tryz.zeroValue4
  t5 := Tryz.underlying5
  a5 := Tryz.isAgg5
  z5 := Tryz.sizeOf5
  v5 := Tryz.zeroValue5
  t9 := Tryz.underlying9
  a9 := Tryz.isAgg9
  z9 := Tryz.sizeOf9
  v9 := Tryz.zeroValue9
  t20 := Tryz.underlying20
  a20 := Tryz.isAgg20
  z20 := Tryz.sizeOf20
  v20 := Tryz.zeroValue20
  t37 := Tryz.underlying100
  a37 := Tryz.isAgg100
  z37 := Tryz.sizeOf100
  v37 := Tryz.zeroValue100
  t46 := Tryz.underlying116
  a46 := Tryz.isAgg116
  z46 := Tryz.sizeOf116
  v46 := Tryz.zeroValue116
  t51 := Tryz.underlying22
  a51 := Tryz.isAgg22
  z51 := Tryz.sizeOf22
  v51 := Tryz.zeroValue22
  t53 := Tryz.underlying115
  a53 := Tryz.isAgg115
  z53 := Tryz.sizeOf115
  v53 := Tryz.zeroValue115
  t70 := Tryz.underlying152
  a70 := Tryz.isAgg152
  z70 := Tryz.sizeOf152
  v70 := Tryz.zeroValue152
  t72 := Tryz.underlying154
  a72 := Tryz.isAgg154
  z72 := Tryz.sizeOf154
  v72 := Tryz.zeroValue154
  t75 := Tryz.underlying157
  a75 := Tryz.isAgg157
  z75 := Tryz.sizeOf157
  v75 := Tryz.zeroValue157
  t76 := Tryz.underlying158
  a76 := Tryz.isAgg158
  z76 := Tryz.sizeOf158
  v76 := Tryz.zeroValue158
  t109 := Tryz.underlying150
  a109 := Tryz.isAgg150
  z109 := Tryz.sizeOf150
  v109 := Tryz.zeroValue150
  t127 := Tryz.underlying177
  a127 := Tryz.isAgg177
  z127 := Tryz.sizeOf177
  v127 := Tryz.zeroValue177
  t146 := Tryz.underlying164
  a146 := Tryz.isAgg164
  z146 := Tryz.sizeOf164
  v146 := Tryz.zeroValue164
  t148 := Tryz.underlying175
  a148 := Tryz.isAgg175
  z148 := Tryz.sizeOf175
  v148 := Tryz.zeroValue175
  t164 := Tryz.underlying193
  a164 := Tryz.isAgg193
  z164 := Tryz.sizeOf193
  v164 := Tryz.zeroValue193 }
theorem Tryz.Builder_Extra_105 : Builder.Extra Tryz.prog Tryz.lays105_ren := {
  sizeBuilder := by kernel_rfl
  liesBuilder := by kernel_rfl
  t5 := Tryz.underlying5
  a5 := Tryz.isAgg5
  z5 := Tryz.sizeOf5
  v5 := Tryz.zeroValue5
  infoByte := by kernel_rfl
  cellsByte := by kernel_rfl
  sizeByte := by kernel_rfl
  neB5 := by decide }
open Go.RowKit Go.Lib in
theorem Tryz.strings_Repeat (s : ByteArray) (c : Nat) (w : World) (hc : c ≤ 9223372036854775807) (hlen : s.size * c ≤ 140737488355328) :
    Calls Tryz.prog 134 #[.string s, .int .i64 c] w fun e w' => e = .returned (.string ⟨(Lib.repeatL s.data.toList c).toArray⟩) ∧ Below w.heap.size w w' := Any.strings_Repeat Tryz.lays105 Tryz.Builder_Extra_105 s c w hc hlen
end Go.Proofs
end
section
namespace Go.Proofs.YtkiefjbfepjcbaaGreatDoor
open Go.RowKit Go.Proofs.YtkiefjbfepjcbaaGreatDoor.Sx
set_option linter.unusedSimpArgs false
set_option linter.unusedVariables false

def Reads [Outer] (P : Program) (f : FuncId) (args : Array Value) (v : Value) : Prop :=
  ∀ w : World, (∀ x ∈ Outer.r, w.heap[x.1]? = some x.2) → Calls P f args w fun e w' => e = .returned v ∧ Below w.heap.size w w'
theorem Reads.turns [Outer] {P : Program} {f : FuncId} {args : Array Value} {v : Value} (h : Reads P f args v) {ρ : Nat → Value} {β : Nat → Nat} {nx : Nat} {res : SW} (hr : res.den ρ β = v) : Turns P ρ β nx f args [] [] [] res := fun w hro _ =>
  (h w fun x hx => (hro x hx).1).mono fun e w' ⟨he, hb⟩ => ⟨β, fun _ _ => rfl, by rw [hr]; exact he, ⟨hb.os, hb.tape, hb.output, hb.size, fun k hk _ => hb.block k hk⟩, fun x hx => absurd hx (by simp), fun x hx => absurd hx (by simp), fun x hx => absurd hx (by simp)⟩
def HasTab [Outer] : Prop := ∃ g o, (g, o) ∈ Outer.r ∧ ∀ w : World, w.heap[g]? = some o → Lib.TabIs Tryz.prog w "internal/strconv.uint64pow10" .u64 Lib.pow10Tab
theorem itoa_reads [Outer] (hT : HasTab) (n : Int) (h : -9223372036854775808 ≤ n ∧ n ≤ 9223372036854775807) : Reads Tryz.prog 90 #[.int .i64 n] (.string ⟨(Lib.itoa n).toArray⟩) := fun w hr => by
  obtain ⟨g, o, hm, hg⟩ := hT
  refine (Tryz.strconv_Itoa n h.1 h.2 w (hg w (hr _ hm))).mono fun e w' ⟨he, k, os, hw⟩ => ⟨he, ?_⟩
  subst hw
  exact ⟨rfl, rfl, rfl, by simp [Go.Sort.grow, World.drewN], fun k hk => by simp only [Go.Sort.grow, World.drewN]; rw [Array.getElem?_append_left hk]⟩
theorem repeat_any (s : ByteArray) (c : Nat) (hc : c ≤ 9223372036854775807) (hl : s.size * c ≤ 140737488355328) : Gives Tryz.prog 134 #[.string s, .int .i64 (c : Nat)] (.string ⟨(Lib.repeatL s.data.toList c).toArray⟩) := fun w => Tryz.strings_Repeat s c w hc hl
theorem index_any (s : ByteArray) (c : UInt8) : Gives Tryz.prog 161 #[.string s, .string ⟨#[c]⟩] (.int .i64 (Lib.indexByte s.data.toList c)) := fun w =>
  (Tryz.stringslite_Index_one s c w).mono fun e w' ⟨he, hw⟩ => ⟨he, hw ▸ Below.refl _ _⟩
def digC (s : ByteArray) (most : Int) : Bool := (s.size != 0) && decide ((s.size : Int) ≤ most) && (List.range s.size).all fun i => decide (48 ≤ byteN s i) && decide (byteN s i ≤ 57)
theorem digC_ok {s : ByteArray} {most : Int} (h : digC s most = true) : DigOk s most := by
  unfold digC at h
  simp only [Bool.and_eq_true, bne_iff_ne, decide_eq_true_eq, List.all_eq_true, List.mem_range] at h
  exact ⟨h.1.1, h.1.2, fun i hi => h.2 i hi⟩
theorem dig_yes (s : ByteArray) (most : Int) (h : (digC s most && decide (s.size ≤ 1152921504606846976)) = true) : Gives Tryz.prog 80 #[.string s, .int .i64 most] (.bool true) := by
  rw [Bool.and_eq_true, decide_eq_true_eq] at h
  obtain ⟨b, hb, hg⟩ := dig_any s most h.2
  rwa [hb.2 (digC_ok h.1)] at hg
theorem count_yes (s : ByteArray) (z most : Int) (h : digC s most = true) (hs : decide (s.size ≤ 17) = true) (hz : ((numN s s.size : Nat) : Int) = z) : Gives Tryz.prog 126 #[.string s] (.agg (ivZ z)) := by
  have := count_any s (of_decide_eq_true hs) (digC_ok h).2.2
  rwa [hz] at this
set_option maxHeartbeats 4000000 in
theorem parse_050 : Gives Tryz.prog 35 #[.string ⟨#[48, 46, 53, 48]⟩, .int .i64 2] (.tuple #[.agg (rvZ 1 2), .int .i64 0]) := by
  have g1 := index_any ⟨#[48, 46, 53, 48]⟩ 46
  rw [show Lib.indexByte (ByteArray.mk #[48, 46, 53, 48]).data.toList 46 = 1 by decide +kernel] at g1
  have g2 := dig_yes ⟨#[48]⟩ 15 (by decide +kernel)
  have g3 := dig_yes ⟨#[53, 48]⟩ 2 (by decide +kernel)
  have g4 := ten_p 2 (by omega)
  rw [show ten 2 = 100 by decide] at g4
  have g5 := fromInt_any 100 (by omega)
  have g6 := count_yes ⟨#[48]⟩ 0 15 (by decide +kernel) (by decide +kernel) (by decide +kernel)
  have g7 := mul_Z 0 100 (0 * 100) rfl (by decide +kernel) (by decide +kernel) (by decide +kernel)
  have g8 := count_yes ⟨#[53, 48]⟩ 50 2 (by decide +kernel) (by decide +kernel) (by decide +kernel)
  have g9 := add_Z (0 * 100) 50 50 (by decide) (by decide +kernel) (by decide +kernel) (by decide +kernel)
  have g10 := (make_Z 50 100 (by decide +kernel) (by decide +kernel)).1
  rw [show mkZ 50 100 = .tuple #[.agg (rvZ 1 2), .int .i64 0] by kernel_rfl] at g10
  have main : tpParse.den Tryz.prog (fun ρ' ret => ∀ β, ret.val.den (env ρ') β = .tuple #[.agg (rvZ 1 2), .int .i64 0]) [.string ⟨#[48, 46, 53, 48]⟩, .int .i64 2] := by
    unfold tpParse
    repeat (first | with_reducible refine tree_ite ?_ | with_reducible refine tree_leaf ?_ | with_reducible refine ev_need (by decide +kernel) ?_ | with_reducible refine ev_fits _ rfl (by decide +kernel) ?_ | with_reducible refine ev_nil (way_true (by decide +kernel) ?_) | with_reducible refine ev_nil (way_false (by decide +kernel) ?_))
    refine ev_call [.int .i64 1] rfl rfl (pure_gives (g1)) (fun β => by kernel_rfl) (fun β => by kernel_rfl) ?_
    repeat (first | with_reducible refine tree_ite ?_ | with_reducible refine tree_leaf ?_ | with_reducible refine ev_need (by decide +kernel) ?_ | with_reducible refine ev_fits _ rfl (by decide +kernel) ?_ | with_reducible refine ev_nil (way_true (by decide +kernel) ?_) | with_reducible refine ev_nil (way_false (by decide +kernel) ?_))
    refine ev_call [.bool true] rfl rfl (pure_gives (g2)) (fun β => by kernel_rfl) (fun β => by kernel_rfl) ?_
    repeat (first | with_reducible refine tree_ite ?_ | with_reducible refine tree_leaf ?_ | with_reducible refine ev_need (by decide +kernel) ?_ | with_reducible refine ev_fits _ rfl (by decide +kernel) ?_ | with_reducible refine ev_nil (way_true (by decide +kernel) ?_) | with_reducible refine ev_nil (way_false (by decide +kernel) ?_))
    refine ev_call [.bool true] rfl rfl (pure_gives (g3)) (fun β => by kernel_rfl) (fun β => by kernel_rfl) ?_
    repeat (first | with_reducible refine tree_ite ?_ | with_reducible refine tree_leaf ?_ | with_reducible refine ev_need (by decide +kernel) ?_ | with_reducible refine ev_fits _ rfl (by decide +kernel) ?_ | with_reducible refine ev_nil (way_true (by decide +kernel) ?_) | with_reducible refine ev_nil (way_false (by decide +kernel) ?_))
    refine ev_call [.int .i64 100] rfl rfl (pure_gives (g4)) (fun β => by kernel_rfl) (fun β => by kernel_rfl) ?_
    repeat (first | with_reducible refine tree_ite ?_ | with_reducible refine tree_leaf ?_ | with_reducible refine ev_need (by decide +kernel) ?_ | with_reducible refine ev_fits _ rfl (by decide +kernel) ?_ | with_reducible refine ev_nil (way_true (by decide +kernel) ?_) | with_reducible refine ev_nil (way_false (by decide +kernel) ?_))
    refine ev_call [.bool (decide ((100 : Int) < 0)), .agg (mgk 32 (100 : Int).natAbs)] rfl rfl (pure_gives (g5)) (fun β => by kernel_rfl) (fun β => by kernel_rfl) ?_
    repeat (first | with_reducible refine tree_ite ?_ | with_reducible refine tree_leaf ?_ | with_reducible refine ev_need (by decide +kernel) ?_ | with_reducible refine ev_fits _ rfl (by decide +kernel) ?_ | with_reducible refine ev_nil (way_true (by decide +kernel) ?_) | with_reducible refine ev_nil (way_false (by decide +kernel) ?_))
    refine ev_call [.bool (decide ((0 : Int) < 0)), .agg (mgk 32 (0 : Int).natAbs)] rfl rfl (pure_gives (g6)) (fun β => by kernel_rfl) (fun β => by kernel_rfl) ?_
    repeat (first | with_reducible refine tree_ite ?_ | with_reducible refine tree_leaf ?_ | with_reducible refine ev_need (by decide +kernel) ?_ | with_reducible refine ev_fits _ rfl (by decide +kernel) ?_ | with_reducible refine ev_nil (way_true (by decide +kernel) ?_) | with_reducible refine ev_nil (way_false (by decide +kernel) ?_))
    refine ev_call [.bool (decide ((0 * 100 : Int) < 0)), .agg (mgk 32 (0 * 100 : Int).natAbs), .int .i64 0] rfl rfl (pure_gives (g7)) (fun β => by kernel_rfl) (fun β => by kernel_rfl) ?_
    repeat (first | with_reducible refine tree_ite ?_ | with_reducible refine tree_leaf ?_ | with_reducible refine ev_need (by decide +kernel) ?_ | with_reducible refine ev_fits _ rfl (by decide +kernel) ?_ | with_reducible refine ev_nil (way_true (by decide +kernel) ?_) | with_reducible refine ev_nil (way_false (by decide +kernel) ?_))
    refine ev_call [.bool (decide ((50 : Int) < 0)), .agg (mgk 32 (50 : Int).natAbs)] rfl rfl (pure_gives (g8)) (fun β => by kernel_rfl) (fun β => by kernel_rfl) ?_
    repeat (first | with_reducible refine tree_ite ?_ | with_reducible refine tree_leaf ?_ | with_reducible refine ev_need (by decide +kernel) ?_ | with_reducible refine ev_fits _ rfl (by decide +kernel) ?_ | with_reducible refine ev_nil (way_true (by decide +kernel) ?_) | with_reducible refine ev_nil (way_false (by decide +kernel) ?_))
    refine ev_call [.bool (decide ((50 : Int) < 0)), .agg (mgk 32 (50 : Int).natAbs), .int .i64 0] rfl rfl (pure_gives (g9)) (fun β => by kernel_rfl) (fun β => by kernel_rfl) ?_
    repeat (first | with_reducible refine tree_ite ?_ | with_reducible refine tree_leaf ?_ | with_reducible refine ev_need (by decide +kernel) ?_ | with_reducible refine ev_fits _ rfl (by decide +kernel) ?_ | with_reducible refine ev_nil (way_true (by decide +kernel) ?_) | with_reducible refine ev_nil (way_false (by decide +kernel) ?_))
    refine ev_call [.bool (decide ((1 : Int) < 0)), .agg (mgk 32 (1 : Int).natAbs), .bool (decide ((2 : Int) < 0)), .agg (mgk 32 (2 : Int).natAbs), .int .i64 0] rfl rfl (pure_gives (g10)) (fun β => by kernel_rfl) (fun β => by kernel_rfl) ?_
    repeat (first | with_reducible refine tree_ite ?_ | with_reducible refine tree_leaf ?_ | with_reducible refine ev_need (by decide +kernel) ?_ | with_reducible refine ev_fits _ rfl (by decide +kernel) ?_ | with_reducible refine ev_nil (way_true (by decide +kernel) ?_) | with_reducible refine ev_nil (way_false (by decide +kernel) ?_))
    exact ev_nil fun β => by kernel_rfl
  have h := pure_of plain [.string ⟨#[48, 46, 53, 48]⟩, .int .i64 2] tpParse_ok (by kernel_rfl) _ main
  refine gives_pure ?_
  simpa [strW, intW, BTm.den, Tm.i, Tm.s, Tm.den, env, vInt, vBool, vStr, exI, SW.den, SV.den, Cell.den, densP, Piece.den, denV, denT] using h
set_option maxHeartbeats 4000000 in
theorem parse_15 : Gives Tryz.prog 35 #[.string ⟨#[49, 46, 53]⟩, .int .i64 6] (.tuple #[.agg (rvZ 3 2), .int .i64 0]) := by
  have g1 := index_any ⟨#[49, 46, 53]⟩ 46
  rw [show Lib.indexByte (ByteArray.mk #[49, 46, 53]).data.toList 46 = 1 by decide +kernel] at g1
  have g2 := dig_yes ⟨#[49]⟩ 15 (by decide +kernel)
  have g3 := dig_yes ⟨#[53]⟩ 6 (by decide +kernel)
  have g4 := ten_p 1 (by omega)
  rw [show ten 1 = 10 by decide] at g4
  have g5 := fromInt_any 10 (by omega)
  have g6 := count_yes ⟨#[49]⟩ 1 15 (by decide +kernel) (by decide +kernel) (by decide +kernel)
  have g7 := mul_Z 1 10 (1 * 10) rfl (by decide +kernel) (by decide +kernel) (by decide +kernel)
  have g8 := count_yes ⟨#[53]⟩ 5 6 (by decide +kernel) (by decide +kernel) (by decide +kernel)
  have g9 := add_Z (1 * 10) 5 15 (by decide) (by decide +kernel) (by decide +kernel) (by decide +kernel)
  have g10 := (make_Z 15 10 (by decide +kernel) (by decide +kernel)).1
  rw [show mkZ 15 10 = .tuple #[.agg (rvZ 3 2), .int .i64 0] by kernel_rfl] at g10
  have main : tpParse.den Tryz.prog (fun ρ' ret => ∀ β, ret.val.den (env ρ') β = .tuple #[.agg (rvZ 3 2), .int .i64 0]) [.string ⟨#[49, 46, 53]⟩, .int .i64 6] := by
    unfold tpParse
    repeat (first | with_reducible refine tree_ite ?_ | with_reducible refine tree_leaf ?_ | with_reducible refine ev_need (by decide +kernel) ?_ | with_reducible refine ev_fits _ rfl (by decide +kernel) ?_ | with_reducible refine ev_nil (way_true (by decide +kernel) ?_) | with_reducible refine ev_nil (way_false (by decide +kernel) ?_))
    refine ev_call [.int .i64 1] rfl rfl (pure_gives (g1)) (fun β => by kernel_rfl) (fun β => by kernel_rfl) ?_
    repeat (first | with_reducible refine tree_ite ?_ | with_reducible refine tree_leaf ?_ | with_reducible refine ev_need (by decide +kernel) ?_ | with_reducible refine ev_fits _ rfl (by decide +kernel) ?_ | with_reducible refine ev_nil (way_true (by decide +kernel) ?_) | with_reducible refine ev_nil (way_false (by decide +kernel) ?_))
    refine ev_call [.bool true] rfl rfl (pure_gives (g2)) (fun β => by kernel_rfl) (fun β => by kernel_rfl) ?_
    repeat (first | with_reducible refine tree_ite ?_ | with_reducible refine tree_leaf ?_ | with_reducible refine ev_need (by decide +kernel) ?_ | with_reducible refine ev_fits _ rfl (by decide +kernel) ?_ | with_reducible refine ev_nil (way_true (by decide +kernel) ?_) | with_reducible refine ev_nil (way_false (by decide +kernel) ?_))
    refine ev_call [.bool true] rfl rfl (pure_gives (g3)) (fun β => by kernel_rfl) (fun β => by kernel_rfl) ?_
    repeat (first | with_reducible refine tree_ite ?_ | with_reducible refine tree_leaf ?_ | with_reducible refine ev_need (by decide +kernel) ?_ | with_reducible refine ev_fits _ rfl (by decide +kernel) ?_ | with_reducible refine ev_nil (way_true (by decide +kernel) ?_) | with_reducible refine ev_nil (way_false (by decide +kernel) ?_))
    refine ev_call [.int .i64 10] rfl rfl (pure_gives (g4)) (fun β => by kernel_rfl) (fun β => by kernel_rfl) ?_
    repeat (first | with_reducible refine tree_ite ?_ | with_reducible refine tree_leaf ?_ | with_reducible refine ev_need (by decide +kernel) ?_ | with_reducible refine ev_fits _ rfl (by decide +kernel) ?_ | with_reducible refine ev_nil (way_true (by decide +kernel) ?_) | with_reducible refine ev_nil (way_false (by decide +kernel) ?_))
    refine ev_call [.bool (decide ((10 : Int) < 0)), .agg (mgk 32 (10 : Int).natAbs)] rfl rfl (pure_gives (g5)) (fun β => by kernel_rfl) (fun β => by kernel_rfl) ?_
    repeat (first | with_reducible refine tree_ite ?_ | with_reducible refine tree_leaf ?_ | with_reducible refine ev_need (by decide +kernel) ?_ | with_reducible refine ev_fits _ rfl (by decide +kernel) ?_ | with_reducible refine ev_nil (way_true (by decide +kernel) ?_) | with_reducible refine ev_nil (way_false (by decide +kernel) ?_))
    refine ev_call [.bool (decide ((1 : Int) < 0)), .agg (mgk 32 (1 : Int).natAbs)] rfl rfl (pure_gives (g6)) (fun β => by kernel_rfl) (fun β => by kernel_rfl) ?_
    repeat (first | with_reducible refine tree_ite ?_ | with_reducible refine tree_leaf ?_ | with_reducible refine ev_need (by decide +kernel) ?_ | with_reducible refine ev_fits _ rfl (by decide +kernel) ?_ | with_reducible refine ev_nil (way_true (by decide +kernel) ?_) | with_reducible refine ev_nil (way_false (by decide +kernel) ?_))
    refine ev_call [.bool (decide ((1 * 10 : Int) < 0)), .agg (mgk 32 (1 * 10 : Int).natAbs), .int .i64 0] rfl rfl (pure_gives (g7)) (fun β => by kernel_rfl) (fun β => by kernel_rfl) ?_
    repeat (first | with_reducible refine tree_ite ?_ | with_reducible refine tree_leaf ?_ | with_reducible refine ev_need (by decide +kernel) ?_ | with_reducible refine ev_fits _ rfl (by decide +kernel) ?_ | with_reducible refine ev_nil (way_true (by decide +kernel) ?_) | with_reducible refine ev_nil (way_false (by decide +kernel) ?_))
    refine ev_call [.bool (decide ((5 : Int) < 0)), .agg (mgk 32 (5 : Int).natAbs)] rfl rfl (pure_gives (g8)) (fun β => by kernel_rfl) (fun β => by kernel_rfl) ?_
    repeat (first | with_reducible refine tree_ite ?_ | with_reducible refine tree_leaf ?_ | with_reducible refine ev_need (by decide +kernel) ?_ | with_reducible refine ev_fits _ rfl (by decide +kernel) ?_ | with_reducible refine ev_nil (way_true (by decide +kernel) ?_) | with_reducible refine ev_nil (way_false (by decide +kernel) ?_))
    refine ev_call [.bool (decide ((15 : Int) < 0)), .agg (mgk 32 (15 : Int).natAbs), .int .i64 0] rfl rfl (pure_gives (g9)) (fun β => by kernel_rfl) (fun β => by kernel_rfl) ?_
    repeat (first | with_reducible refine tree_ite ?_ | with_reducible refine tree_leaf ?_ | with_reducible refine ev_need (by decide +kernel) ?_ | with_reducible refine ev_fits _ rfl (by decide +kernel) ?_ | with_reducible refine ev_nil (way_true (by decide +kernel) ?_) | with_reducible refine ev_nil (way_false (by decide +kernel) ?_))
    refine ev_call [.bool (decide ((3 : Int) < 0)), .agg (mgk 32 (3 : Int).natAbs), .bool (decide ((2 : Int) < 0)), .agg (mgk 32 (2 : Int).natAbs), .int .i64 0] rfl rfl (pure_gives (g10)) (fun β => by kernel_rfl) (fun β => by kernel_rfl) ?_
    repeat (first | with_reducible refine tree_ite ?_ | with_reducible refine tree_leaf ?_ | with_reducible refine ev_need (by decide +kernel) ?_ | with_reducible refine ev_fits _ rfl (by decide +kernel) ?_ | with_reducible refine ev_nil (way_true (by decide +kernel) ?_) | with_reducible refine ev_nil (way_false (by decide +kernel) ?_))
    exact ev_nil fun β => by kernel_rfl
  have h := pure_of plain [.string ⟨#[49, 46, 53]⟩, .int .i64 6] tpParse_ok (by kernel_rfl) _ main
  refine gives_pure ?_
  simpa [strW, intW, BTm.den, Tm.i, Tm.s, Tm.den, env, vInt, vBool, vStr, exI, SW.den, SV.den, Cell.den, densP, Piece.den, denV, denT] using h
theorem Reads.ev [Outer] {P : Program} {f : FuncId} {args A : Array Value} {v : Value} (h : Reads P f args v) {ρ : Nat → Value} {β : Nat → Nat} {nx : Nat} {res : SW} (hA : A = args) (hr : res.den ρ β = v) : Turns P ρ β nx f A [] [] [] res := by
  subst hA; exact h.turns hr
theorem reads_gives [Outer] {f : FuncId} {args : Array Value} {v : Value} (h : Gives Tryz.prog f args v) : Reads Tryz.prog f args v := fun w _ => pure_gives h w
theorem of_closed (x y a b : Int) (hx : -9223372036854775808 ≤ x ∧ x ≤ 9223372036854775807) (hy : -9223372036854775808 ≤ y ∧ y ≤ 9223372036854775807) (he : mkZ x y = .tuple #[.agg (rvZ a b), .int .i64 0]) : Gives Tryz.prog 23 #[.int .i64 x, .int .i64 y] (.agg (rvZ a b)) := by
  have g := (of_rat x y hx hy).2
  rw [he] at g
  have main : tmOf.den Tryz.prog (fun ρ' ret => ∀ β, ret.val.den (env ρ') β = .agg (rvZ a b)) [.int .i64 x, .int .i64 y] := by
    refine tree_leaf ?_
    refine ev_zc [.bool (decide (a < 0)), .agg (mgk 32 (a : Int).natAbs), .bool (decide (b < 0)), .agg (mgk 32 (b : Int).natAbs), .int .i64 0] (pure_gives (g)) ?_
    refine ev_nil fun β => ?_
    simp [BTm.den, Tm.i, Tm.s, Tm.den, env, vInt, vBool, vStr, exI, SW.den, SV.den, Cell.den, densP, Piece.den, denV, rowCells_mgk, iv_list, rv_list, ivZ, rvZ, mgl_agg]
  have h := pure_of plain [.int .i64 x, .int .i64 y] tmOf_ok (by kernel_rfl) _ main
  refine gives_pure ?_
  simpa [intW, BTm.den, Tm.i, Tm.s, Tm.den, env, vInt, vBool, vStr, exI, SW.den, SV.den, Cell.den, densP, Piece.den, denV, denT] using h
set_option maxHeartbeats 4000000 in
theorem percent_15 : Gives Tryz.prog 37 #[.string ⟨#[49, 46, 53, 37]⟩] (.tuple #[.agg (rvZ 3 200), .int .i64 0]) := by
  have g1 := parse_15
  have g2 := whole_p 100 (by omega)
  have g3 := (quo_rat false false false false 3 2 100 1 (by decide +kernel) (by decide +kernel) (by decide +kernel) (by decide +kernel)).1
  rw [show quoR false 3 false 2 false 100 false 1 = .tuple #[.agg (rvZ 3 200), .int .i64 0] by kernel_rfl] at g3
  have main : tpPercent.den Tryz.prog (fun ρ' ret => ∀ β, ret.val.den (env ρ') β = .tuple #[.agg (rvZ 3 200), .int .i64 0]) [.string ⟨#[49, 46, 53, 37]⟩] := by
    unfold tpPercent
    repeat (first | with_reducible refine tree_ite ?_ | with_reducible refine tree_leaf ?_ | with_reducible refine ev_need (by decide +kernel) ?_ | with_reducible refine ev_fits _ rfl (by decide +kernel) ?_ | with_reducible refine ev_nil (way_true (by decide +kernel) ?_) | with_reducible refine ev_nil (way_false (by decide +kernel) ?_))
    refine ev_call [.bool (decide ((3 : Int) < 0)), .agg (mgk 32 (3 : Int).natAbs), .bool (decide ((2 : Int) < 0)), .agg (mgk 32 (2 : Int).natAbs), .int .i64 0] rfl rfl (pure_gives (g1)) (fun β => by kernel_rfl) (fun β => by kernel_rfl) ?_
    repeat (first | with_reducible refine tree_ite ?_ | with_reducible refine tree_leaf ?_ | with_reducible refine ev_need (by decide +kernel) ?_ | with_reducible refine ev_fits _ rfl (by decide +kernel) ?_ | with_reducible refine ev_nil (way_true (by decide +kernel) ?_) | with_reducible refine ev_nil (way_false (by decide +kernel) ?_))
    refine ev_call [.bool (decide ((100 : Int) < 0)), .agg (mgk 32 (100 : Int).natAbs), .bool (decide ((1 : Int) < 0)), .agg (mgk 32 (1 : Int).natAbs)] rfl rfl (pure_gives (g2)) (fun β => by kernel_rfl) (fun β => by kernel_rfl) ?_
    repeat (first | with_reducible refine tree_ite ?_ | with_reducible refine tree_leaf ?_ | with_reducible refine ev_need (by decide +kernel) ?_ | with_reducible refine ev_fits _ rfl (by decide +kernel) ?_ | with_reducible refine ev_nil (way_true (by decide +kernel) ?_) | with_reducible refine ev_nil (way_false (by decide +kernel) ?_))
    refine ev_call [.bool (decide ((3 : Int) < 0)), .agg (mgk 32 (3 : Int).natAbs), .bool (decide ((200 : Int) < 0)), .agg (mgk 32 (200 : Int).natAbs), .int .i64 0] rfl rfl (pure_gives (g3)) (fun β => by kernel_rfl) (fun β => by kernel_rfl) ?_
    repeat (first | with_reducible refine tree_ite ?_ | with_reducible refine tree_leaf ?_ | with_reducible refine ev_need (by decide +kernel) ?_ | with_reducible refine ev_fits _ rfl (by decide +kernel) ?_ | with_reducible refine ev_nil (way_true (by decide +kernel) ?_) | with_reducible refine ev_nil (way_false (by decide +kernel) ?_))
    exact ev_nil fun β => by kernel_rfl
  have h := pure_of plain [.string ⟨#[49, 46, 53, 37]⟩] tpPercent_ok (by kernel_rfl) _ main
  refine gives_pure ?_
  simpa [strW, BTm.den, Tm.i, Tm.s, Tm.den, env, vInt, vBool, vStr, exI, SW.den, SV.den, Cell.den, densP, Piece.den, denV, denT] using h
theorem itoa_5 : Lib.itoa (-5) = [45, 53] := by
  unfold Lib.itoa
  rw [if_pos (by omega), Lib.decDigits, dif_pos (by decide)]
  rfl
set_option maxHeartbeats 4000000 in
theorem format_5 [Outer] (hT : HasTab) : Reads Tryz.prog 41 #[.int .i64 (-5), .int .i64 2] (.tuple #[.string ⟨#[45, 48, 46, 48, 53]⟩, .int .i64 0]) := fun w hr => by
  have g1 := itoa_reads hT (-5) (by omega)
  rw [itoa_5] at g1
  have g2 := reads_gives (repeat_any ⟨#[48]⟩ 2 (by decide) (by decide))
  rw [show (Lib.repeatL (ByteArray.mk #[48]).data.toList 2).toArray = #[48, 48] by decide +kernel] at g2
  have main : tpFormat.den Tryz.prog (fun ρ' ret => ∀ β, ret.val.den (env ρ') β = .tuple #[.string ⟨#[45, 48, 46, 48, 53]⟩, .int .i64 0]) [.int .i64 (-5), .int .i64 2] := by
    unfold tpFormat
    repeat (first | with_reducible refine tree_ite ?_ | with_reducible refine tree_leaf ?_ | with_reducible refine ev_need (by decide +kernel) ?_ | with_reducible refine ev_fits _ rfl (by decide +kernel) ?_ | with_reducible refine ev_nil (way_true (by decide +kernel) ?_) | with_reducible refine ev_nil (way_false (by decide +kernel) ?_))
    refine ev_turn [.string ⟨#[45, 53]⟩] rfl rfl (fun β _ => Reads.ev (g1) (by kernel_rfl) (by kernel_rfl)) ?_
    repeat (first | with_reducible refine tree_ite ?_ | with_reducible refine tree_leaf ?_ | with_reducible refine ev_need (by decide +kernel) ?_ | with_reducible refine ev_fits _ rfl (by decide +kernel) ?_ | with_reducible refine ev_nil (way_true (by decide +kernel) ?_) | with_reducible refine ev_nil (way_false (by decide +kernel) ?_))
    refine ev_turn [.string ⟨#[48, 48]⟩] rfl rfl (fun β _ => Reads.ev (g2) (by kernel_rfl) (by kernel_rfl)) ?_
    repeat (first | with_reducible refine tree_ite ?_ | with_reducible refine tree_leaf ?_ | with_reducible refine ev_need (by decide +kernel) ?_ | with_reducible refine ev_fits _ rfl (by decide +kernel) ?_ | with_reducible refine ev_nil (way_true (by decide +kernel) ?_) | with_reducible refine ev_nil (way_false (by decide +kernel) ?_))
    exact ev_nil fun β => by kernel_rfl
  have h := reads_of plain [.int .i64 (-5), .int .i64 2] tpFormat_ok (by kernel_rfl) _ main w hr
  simpa [intW, BTm.den, Tm.i, Tm.s, Tm.den, env, vInt, vBool, vStr, exI, SW.den, SV.den, Cell.den, densP, Piece.den, denV, denT] using h
set_option maxHeartbeats 4000000 in
theorem dknown_reads [Outer] (hT : HasTab) : Reads Tryz.prog 19 #[] (.bool true) := fun w hr => by
  have g1 := (of_rat (-5) 2 (by omega) (by omega)).1
  rw [show mkZ (-5) 2 = .tuple #[.agg (rvZ (-5) 2), .int .i64 0] by kernel_rfl] at g1
  have g2 := roundInt_p true false 5 2 0 5 (by decide +kernel) (by decide +kernel)
  rw [show roundIntR true 5 false 2 0 5 = .tuple #[.int .i64 (-3), .int .i64 0] by kernel_rfl] at g2
  have g3 := roundInt_p true false 5 2 0 6 (by decide +kernel) (by decide +kernel)
  rw [show roundIntR true 5 false 2 0 6 = .tuple #[.int .i64 (-2), .int .i64 0] by kernel_rfl] at g3
  have g4 := parse_050
  have g5 := format_5 hT
  have g6 := percent_15
  have g7 := of_closed 1 2 1 2 (by omega) (by omega) (by kernel_rfl)
  have g8 := of_closed 3 200 3 200 (by omega) (by omega) (by kernel_rfl)
  have s1 := same_rZ 1 2 1 2 (by decide +kernel) (by decide +kernel) (by decide +kernel) (by decide +kernel)
  have s2 := same_rZ 3 200 3 200 (by decide +kernel) (by decide +kernel) (by decide +kernel) (by decide +kernel)
  rw [decide_eq_true ⟨rfl, rfl⟩] at s1 s2
  have main : tDKnown.den Tryz.prog (fun ρ' ret => ∀ β, ret.val.den (env ρ') β = .bool true) [] := by
    unfold tDKnown
    repeat (first | with_reducible refine tree_ite ?_ | with_reducible refine tree_leaf ?_ | with_reducible refine ev_need (by decide +kernel) ?_ | with_reducible refine ev_fits _ rfl (by decide +kernel) ?_ | with_reducible refine ev_nil (way_true (by decide +kernel) ?_) | with_reducible refine ev_nil (way_false (by decide +kernel) ?_))
    refine ev_call [.bool (decide ((-5 : Int) < 0)), .agg (mgk 32 (-5 : Int).natAbs), .bool (decide ((2 : Int) < 0)), .agg (mgk 32 (2 : Int).natAbs), .int .i64 0] rfl rfl (pure_gives (g1)) (fun β => by kernel_rfl) (fun β => by kernel_rfl) ?_
    refine ev_call [.int .i64 (-3), .int .i64 0] rfl rfl (pure_gives (g2)) (fun β => by kernel_rfl) (fun β => by kernel_rfl) ?_
    refine ev_call [.int .i64 (-2), .int .i64 0] rfl rfl (pure_gives (g3)) (fun β => by kernel_rfl) (fun β => by kernel_rfl) ?_
    refine ev_call [.bool (decide ((1 : Int) < 0)), .agg (mgk 32 (1 : Int).natAbs), .bool (decide ((2 : Int) < 0)), .agg (mgk 32 (2 : Int).natAbs), .int .i64 0] rfl rfl (pure_gives (g4)) (fun β => by kernel_rfl) (fun β => by kernel_rfl) ?_
    refine ev_turn [.string ⟨#[45, 48, 46, 48, 53]⟩, .int .i64 0] rfl rfl (fun β _ => Reads.ev (g5) (by kernel_rfl) (by kernel_rfl)) ?_
    refine ev_call [.bool (decide ((3 : Int) < 0)), .agg (mgk 32 (3 : Int).natAbs), .bool (decide ((200 : Int) < 0)), .agg (mgk 32 (200 : Int).natAbs), .int .i64 0] rfl rfl (pure_gives (g6)) (fun β => by kernel_rfl) (fun β => by kernel_rfl) ?_
    repeat (first | with_reducible refine tree_ite ?_ | with_reducible refine tree_leaf ?_ | with_reducible refine ev_need (by decide +kernel) ?_ | with_reducible refine ev_fits _ rfl (by decide +kernel) ?_ | with_reducible refine ev_nil (way_true (by decide +kernel) ?_) | with_reducible refine ev_nil (way_false (by decide +kernel) ?_))
    refine ev_call [.bool (decide ((1 : Int) < 0)), .agg (mgk 32 (1 : Int).natAbs), .bool (decide ((2 : Int) < 0)), .agg (mgk 32 (2 : Int).natAbs)] rfl rfl (pure_gives (g7)) (fun β => by kernel_rfl) (fun β => by kernel_rfl) ?_
    refine ev_same true rfl (fun β => by kernel_rfl) (fun β => by kernel_rfl) s1 ?_
    repeat (first | with_reducible refine tree_ite ?_ | with_reducible refine tree_leaf ?_ | with_reducible refine ev_need (by decide +kernel) ?_ | with_reducible refine ev_fits _ rfl (by decide +kernel) ?_ | with_reducible refine ev_nil (way_true (by decide +kernel) ?_) | with_reducible refine ev_nil (way_false (by decide +kernel) ?_))
    refine ev_call [.bool (decide ((3 : Int) < 0)), .agg (mgk 32 (3 : Int).natAbs), .bool (decide ((200 : Int) < 0)), .agg (mgk 32 (200 : Int).natAbs)] rfl rfl (pure_gives (g8)) (fun β => by kernel_rfl) (fun β => by kernel_rfl) ?_
    refine ev_same true rfl (fun β => by kernel_rfl) (fun β => by kernel_rfl) s2 ?_
    exact ev_nil fun β => by kernel_rfl
  have h := reads_of plain [] tDKnown_ok (by kernel_rfl) _ main w hr
  simpa [BTm.den, Tm.i, Tm.s, Tm.den, env, vInt, vBool, vStr, exI, SW.den, SV.den, Cell.den, densP, Piece.den, denV, denT] using h
end Go.Proofs.YtkiefjbfepjcbaaGreatDoor
end
section
namespace Go.Proofs.YtkiefjbfepjcbaaGreatDoor
open Go.RowKit Go.Proofs.YtkiefjbfepjcbaaGreatDoor.Sx
set_option linter.unusedSimpArgs false
set_option linter.unusedVariables false

theorem gPow : Tryz.prog.globalNamed "internal/strconv.uint64pow10" = some 2 := by kernel_rfl
theorem tPow : (Tryz.prog.globals[2]?).map (·.type) = some 197 := by kernel_rfl
theorem tab_obj {W : World} (h : Lib.TabIs Tryz.prog W "internal/strconv.uint64pow10" .u64 Lib.pow10Tab) :
    ∃ o, W.heap[2]? = some o ∧ ∀ w : World, w.heap[2]? = some o → Lib.TabIs Tryz.prog w "internal/strconv.uint64pow10" .u64 Lib.pow10Tab := by
  unfold Lib.TabIs World.var? at h
  rw [gPow, Option.bind_some] at h
  cases hh : W.heap[2]? with
  | none => rw [hh] at h; simp at h
  | some o =>
    refine ⟨o, rfl, fun w hw => ?_⟩
    unfold Lib.TabIs World.var?
    rw [gPow, Option.bind_some, hw]
    rw [hh] at h
    exact h
theorem hasTab_mk {o : Obj} {r : List (Nat × Obj)} (h : ∀ w : World, w.heap[2]? = some o → Lib.TabIs Tryz.prog w "internal/strconv.uint64pow10" .u64 Lib.pow10Tab) : @HasTab ⟨(2, o) :: r⟩ :=
  ⟨2, o, .head _, h⟩
end Go.Proofs.YtkiefjbfepjcbaaGreatDoor
end
section
namespace Go.Proofs.YtkiefjbfepjcbaaGreatDoor
open Go.RowKit Go.Proofs.YtkiefjbfepjcbaaGreatDoor.Sx
set_option linter.unusedSimpArgs false
set_option linter.unusedVariables false

theorem roundInt_form (s t : Bool) (n m : Nat) (p mode : Int) : ∃ a b : Int, roundIntR s n t m p mode = .tuple #[.int .i64 a, .int .i64 b] := ⟨_, _, rfl⟩
theorem exact_form (s t : Bool) (n m : Nat) (p : Int) : ∃ (a : Bool) (b : Int), exactR s n t m p = .tuple #[.bool a, .int .i64 b] := ⟨_, _, rfl⟩
theorem rf_quant (s t : Bool) (n m : Nat) (p mode : Int) : RF (quantR s n t m p mode) := by
  unfold quantR
  exact rf_if (rf_mkZ _ _) (rf_err _)
set_option maxHeartbeats 4000000 in
theorem dexact_reads [Outer] (hT : HasTab) (s t : Bool) (n m : Nat) (p mode : Int) (hn : n < pw 32) (hm : m < pw 32) :
    Reads Tryz.prog 3 #[.agg (rv s n t m), .int .i64 p, .int .i64 mode] (.bool true) := fun w hr => by
  have g1 := round_p s t n m p mode hn hm
  have g2 := round_d s t n m p mode hn hm
  have g3 := roundInt_p s t n m p mode hn hm
  have g4 := roundInt_d s t n m p mode hn hm
  have g5 := quant_p s t n m p mode hn hm
  have g6 := quant_d s t n m p mode hn hm
  have g7 := exact_p s t n m p hn hm
  have g8 := exact_d s t n m p hn hm
  have hf := rndQ_fits s t n m p mode
  obtain ⟨a, b, e3⟩ := roundInt_form s t n m p mode
  obtain ⟨sq, tq, nq, mq, eq, e5, b1, b2⟩ := rf_quant s t n m p mode
  obtain ⟨x, y, e7⟩ := exact_form s t n m p
  unfold roundR at g1 g2
  rw [e3] at g3 g4
  rw [e5] at g5 g6
  rw [e7] at g7 g8
  generalize rndQ s n t m p mode = z at g1 g2 hf
  generalize rndE s n t m p mode = e at g1 g2
  have gk := dknown_reads hT
  have sz := same_Z z hf
  have main : tDExact.den Tryz.prog (fun ρ' ret => ∀ β, ret.val.den (env ρ') β = .bool true) [.bool s, .agg (mgk 32 n), .bool t, .agg (mgk 32 m), .int .i64 p, .int .i64 mode] := by
    refine tree_ite ?_
    refine ev_zc [.bool (decide (z < 0)), .agg (mgk 32 (z : Int).natAbs), .int .i64 e] (pure_gives (g1)) ?_
    refine ev_zc [.bool (decide (z < 0)), .agg (mgk 32 (z : Int).natAbs), .int .i64 e] (pure_gives (g2)) ?_
    refine ev_zc [.int .i64 a, .int .i64 b] (pure_gives (g3)) ?_
    refine ev_zc [.int .i64 a, .int .i64 b] (pure_gives (g4)) ?_
    refine ev_zc [.bool sq, .agg (mgk 32 nq), .bool tq, .agg (mgk 32 mq), .int .i64 eq] (pure_gives (g5)) ?_
    refine ev_zc [.bool sq, .agg (mgk 32 nq), .bool tq, .agg (mgk 32 mq), .int .i64 eq] (pure_gives (g6)) ?_
    refine ev_zc [.bool x, .int .i64 y] (pure_gives (g7)) ?_
    refine ev_zc [.bool x, .int .i64 y] (pure_gives (g8)) ?_
    refine ev_turn [.bool true] rfl rfl (fun β _ => Reads.ev gk rfl (by simp [BTm.den, Tm.i, Tm.s, Tm.den, env, vInt, vBool, vStr, exI, SW.den, SV.den, Cell.den, densP, Piece.den, denV, denT])) ?_
    refine ev_nil (way_true (by simp [BTm.den, Tm.i, Tm.s, Tm.den, env, vInt, vBool, vStr, exI]) (tree_ite ?_))
    refine ev_same (true) rfl (fun β => by simp [BTm.den, Tm.i, Tm.s, Tm.den, env, vInt, vBool, vStr, exI, SW.den, SV.den, Cell.den, densP, Piece.den, denV, rowCells_mgk, iv_list, rv_list, ivZ, rvZ, mgl_agg]) (fun β => by simp [BTm.den, Tm.i, Tm.s, Tm.den, env, vInt, vBool, vStr, exI, SW.den, SV.den, Cell.den, densP, Piece.den, denV, rowCells_mgk, iv_list, rv_list, ivZ, rvZ, mgl_agg]) (sz) ?_
    refine ev_nil (way_true (by simp [BTm.den, Tm.i, Tm.s, Tm.den, env, vInt, vBool, vStr, exI]) (tree_ite ?_))
    refine ev_nil (way_true (by simp [BTm.den, Tm.i, Tm.s, Tm.den, env, vInt, vBool, vStr, exI]) (tree_ite ?_))
    refine ev_nil (way_true (by simp [BTm.den, Tm.i, Tm.s, Tm.den, env, vInt, vBool, vStr, exI]) (tree_ite ?_))
    refine ev_nil (way_true (by simp [BTm.den, Tm.i, Tm.s, Tm.den, env, vInt, vBool, vStr, exI]) (tree_ite ?_))
    refine ev_same (true) rfl (fun β => by simp [BTm.den, Tm.i, Tm.s, Tm.den, env, vInt, vBool, vStr, exI, SW.den, SV.den, Cell.den, densP, Piece.den, denV, rowCells_mgk, iv_list, rv_list, ivZ, rvZ, mgl_agg]) (fun β => by simp [BTm.den, Tm.i, Tm.s, Tm.den, env, vInt, vBool, vStr, exI, SW.den, SV.den, Cell.den, densP, Piece.den, denV, rowCells_mgk, iv_list, rv_list, ivZ, rvZ, mgl_agg]) (same_r1 sq tq nq mq b1 b2) ?_
    refine ev_nil (way_true (by simp [BTm.den, Tm.i, Tm.s, Tm.den, env, vInt, vBool, vStr, exI]) (tree_ite ?_))
    refine ev_nil (way_true (by simp [BTm.den, Tm.i, Tm.s, Tm.den, env, vInt, vBool, vStr, exI]) (tree_ite ?_))
    cases x
    · refine ev_nil (way_false (by simp [BTm.den, Tm.i, Tm.s, Tm.den, env, vInt, vBool, vStr, exI]) (tree_ite ?_))
      refine ev_nil (way_false (by simp [BTm.den, Tm.i, Tm.s, Tm.den, env, vInt, vBool, vStr, exI]) (tree_leaf ?_))
      refine ev_nil fun β => ?_
      simp [BTm.den, Tm.i, Tm.s, Tm.den, env, vInt, vBool, vStr, exI, SW.den, SV.den, Cell.den, densP, Piece.den, denV, rowCells_mgk, iv_list, rv_list, ivZ, rvZ, mgl_agg]
    · refine ev_nil (way_true (by simp [BTm.den, Tm.i, Tm.s, Tm.den, env, vInt, vBool, vStr, exI]) (tree_ite ?_))
      refine ev_nil (way_true (by simp [BTm.den, Tm.i, Tm.s, Tm.den, env, vInt, vBool, vStr, exI]) (tree_leaf ?_))
      refine ev_nil fun β => ?_
      simp [BTm.den, Tm.i, Tm.s, Tm.den, env, vInt, vBool, vStr, exI, SW.den, SV.den, Cell.den, densP, Piece.den, denV, rowCells_mgk, iv_list, rv_list, ivZ, rvZ, mgl_agg]
  have h := reads_of plain [.bool s, .agg (mgk 32 n), .bool t, .agg (mgk 32 m), .int .i64 p, .int .i64 mode] tDExact_ok (by kernel_rfl) _ main w hr
  simpa [ratR, intW, BTm.den, Tm.i, Tm.s, Tm.den, env, vInt, vBool, vStr, exI, SW.den, SV.den, Cell.den, densP, Piece.den, denV, denT, rowCells_mgk, rv_list] using h
end Go.Proofs.YtkiefjbfepjcbaaGreatDoor
end
section
namespace Go.Proofs.YtkiefjbfepjcbaaGreatDoor
open Go.RowKit
set_option linter.unusedVariables false

def Given (P : Program) (f : FuncId) (args : Array Value) (b : Nat) (r : List (Nat × Obj)) (Lv : Value) (k k' : Nat) (v : Value) : Prop :=
  ∀ w, w.heap[b]? = some (.cells (Tk Lv k) 42) → (∀ x ∈ r, w.heap[x.1]? = some x.2 ∧ x.1 ≠ b) → Calls P f args w fun e w' => e = .returned v ∧ ∃ l, St (some b) w w' r l ∧ (b, Obj.cells (Tk Lv k') 42) ∈ l

theorem Given.use {c : Option Nat} {w0 w : World} {r l l' : List (Nat × Obj)} {P : Program} {f : FuncId} {args : Array Value} {b : Nat} {Lv : Value} {k k' : Nat} {v : Value} (hg : Given P f args b r Lv k k' v) (h : St c w0 w r l)
    (hu : Upd l b (.cells (Tk Lv k) 42) (.cells (Tk Lv k') 42) l') : Calls P f args w fun e w' => e = .returned v ∧ St c w0 w' r l' := by
  have hb := h.own _ hu.mem
  refine (hg w hb.2 fun x hx => ⟨(h.ro x hx).2.2, fun e => ?_⟩).mono fun e w' ⟨he, l2, h3, h4⟩ => ⟨he, h.but hu h3 h4⟩
  have h1 := (h.ro x hx).1
  have h2 := (h.ro x hx).2.1
  rw [e] at h1 h2
  rcases hb.1 with hb | hb
  · simp only at hb; omega
  · exact h2 hb
theorem Given.of {P : Program} {f : FuncId} {args : Array Value} {b : Nat} {r : List (Nat × Obj)} {Lv : Value} {k k' : Nat} {v : Value}
    (h : ∀ w, St (some b) w w r [(b, .cells (Tk Lv k) 42)] → Calls P f args w fun e w' => e = .returned v ∧ ∃ l, St (some b) w w' r l ∧ (b, Obj.cells (Tk Lv k') 42) ∈ l) : Given P f args b r Lv k k' v :=
  fun w hb hr => h w (St.start_may w b _ hb r hr)

end Go.Proofs.YtkiefjbfepjcbaaGreatDoor
end
section
namespace Go.Proofs.YtkiefjbfepjcbaaGreatDoor
open Go.RowKit
set_option linter.unusedVariables false

set_option maxHeartbeats 1000000 in
theorem tape_at (r : List (Nat × Obj)) (Lv : Value) (k : Nat) (hs : Slc r Lv) :
    ∃ z : Int, ∀ (b : Nat) (n : Int), 1 ≤ n ∧ n ≤ 4611686018427387904 → k + 1 ≤ 1152921504606846976 → Given Tryz.prog 21 #[.pointer (some ⟨b, 0, none⟩), .int .i64 n] b r Lv k (k + 1) (.int .i64 (foldv z n)) := by
  by_cases hk : k + 1 ≤ 1152921504606846976
  case neg => exact ⟨0, fun b n hn h => absurd h hk⟩
  obtain ⟨a, len, cap, rfl, hlen, hs⟩ := hs
  have hkk : (0 : Int) ≤ ((k : Nat) : Int) ∧ ((k : Nat) : Int) ≤ 1152921504606846975 := by omega
  by_cases hl : k < len
  · obtain ⟨bl, off, cs, T, fz, z, rfl, hm, hc, hz⟩ := hs k hl
    have hl' : ((k : Nat) : Int) < ((len : Nat) : Int) := by omega
    have hl'' : ¬ ((len : Nat) : Int) ≤ ((k : Nat) : Int) := by omega
    clear hs
    refine ⟨z, fun b n hn _ => Given.of fun w hS => ?_⟩
    go_enter Tryz.func21, Tryz.ntmps21
    go_wp2_with (first | (refine L_load (t := 3) rfl rfl ?_; refine ⟨_, run_load_cell hS _ _ rfl _ _ rfl _ _ (.inl (.head _)) _ Tryz.underlying3 rfl _ (Tk_at _ _), ?_⟩))
    (try simp only [Act.put]); (try simp only [List.setIfInBounds_toArray, List.set_cons_succ, List.set_cons_zero]); refine wp_region_w0 hS (by kernel_rfl) (by kernel_rfl) ?_
    repeat (first | (refine S_load (t := 3) rfl rfl rfl rfl ?_; refine ⟨_, fun _ hS' => run_load_cell hS' _ _ rfl _ _ rfl _ _ (.inl (.head _)) _ Tryz.underlying3 rfl _ (Tk_at _ _), ?_⟩; simp only [Act.put, List.setIfInBounds_toArray, List.set_cons_succ, List.set_cons_zero]) | (refine S_load (t := 39) rfl rfl rfl rfl ?_; refine ⟨_, fun _ hS' => run_load_cell hS' _ _ rfl _ _ rfl _ _ (.inl (.head _)) _ Tryz.underlying39 rfl _ (Tk_list _ _), ?_⟩; simp only [Act.put, List.setIfInBounds_toArray, List.set_cons_succ, List.set_cons_zero]) | (refine S_run rfl rfl ?_; apply Exists.intro; refine ⟨fun _ => ?_, ?_⟩; (focus (go_simp; (try go_bits); exact rfl)); simp only [Act.put, List.setIfInBounds_toArray, List.set_cons_succ, List.set_cons_zero]))
    refine S_end0 ?_; clear hS; intro _ hS
    go_wp2
    (try simp only [Act.put]); (try simp only [List.setIfInBounds_toArray, List.set_cons_succ, List.set_cons_zero]); refine wp_region_w0 hS (by kernel_rfl) (by kernel_rfl) ?_
    repeat (first
      | (refine S_load (t := 3) (o := ⟨some 31, _, _, _, _, _⟩) rfl rfl rfl rfl ?_; refine ⟨_, fun _ hS' => run_load_ro hS' _ _ rfl _ _ rfl _ _ fz hm _ Tryz.underlying3 rfl _ hc, ?_⟩; simp only [Act.put, List.setIfInBounds_toArray, List.set_cons_succ, List.set_cons_zero])
      | (refine S_load (t := 3) rfl rfl rfl rfl ?_; refine ⟨_, fun _ hS' => run_load_cell hS' _ _ rfl _ _ rfl _ _ (.inl (.head _)) _ Tryz.underlying3 rfl _ (Tk_at _ _), ?_⟩; simp only [Act.put, List.setIfInBounds_toArray, List.set_cons_succ, List.set_cons_zero]) | (refine S_load (t := 39) rfl rfl rfl rfl ?_; refine ⟨_, fun _ hS' => run_load_cell hS' _ _ rfl _ _ rfl _ _ (.inl (.head _)) _ Tryz.underlying39 rfl _ (Tk_list _ _), ?_⟩; simp only [Act.put, List.setIfInBounds_toArray, List.set_cons_succ, List.set_cons_zero]) | (refine S_run rfl rfl ?_; apply Exists.intro; refine ⟨fun _ => ?_, ?_⟩; (focus (go_simp; (try go_bits); exact rfl)); simp only [Act.put, List.setIfInBounds_toArray, List.set_cons_succ, List.set_cons_zero]))
    refine S_end0 ?_; clear hS; intro _ hS
    go_wp2_with (first | (refine L_load (t := 3) rfl rfl ?_; refine ⟨_, run_load_cell hS _ _ rfl _ _ rfl _ _ (.inl (.head _)) _ Tryz.underlying3 rfl _ (Tk_at _ _), ?_⟩) | (refine L_store (t := 3) hS rfl rfl ?_; refine ⟨_, _, Tk (.slice (some ⟨bl, off, none⟩) len cap) (k + 1), _, _, (.head), run_store_cell hS _ _ _ rfl _ _ rfl _ rfl _ _ _ (.head) size3 rfl rfl ?_ ?_, ?_⟩; (focus (rw [Tk_size]; omega)); (focus (exact Tk_put _ _)); clear hS; intro _ hS) | (go_at_call 71; (with_reducible refine Gives.use (fold_any _ _ hz hn) hS ?_); clear hS; intro _ hS))
    go_ret
    exact ⟨rfl, _, hS, .head _⟩
  · have hl' : ¬ ((k : Nat) : Int) < ((len : Nat) : Int) := by omega
    have hl'' : ((len : Nat) : Int) ≤ ((k : Nat) : Int) := by omega
    obtain ⟨z, hz0⟩ : ∃ z, (((k : Nat) : Int) * 7).tmod 11 = z := ⟨_, rfl⟩
    have hz1 : (((k : Nat) : Int) * 7) % 11 = z := by rw [← hz0, Int.tmod_eq_emod_of_nonneg (by omega)]
    have hz : -9223372036854775808 ≤ z ∧ z ≤ 9223372036854775807 := by omega
    clear hs
    refine ⟨z, fun b n hn _ => Given.of fun w hS => ?_⟩
    go_enter Tryz.func21, Tryz.ntmps21
    go_wp2_with (first | (refine L_load (t := 3) rfl rfl ?_; refine ⟨_, run_load_cell hS _ _ rfl _ _ rfl _ _ (.inl (.head _)) _ Tryz.underlying3 rfl _ (Tk_at _ _), ?_⟩))
    (try simp only [Act.put]); (try simp only [List.setIfInBounds_toArray, List.set_cons_succ, List.set_cons_zero]); refine wp_region_w0 hS (by kernel_rfl) (by kernel_rfl) ?_
    repeat (first | (refine S_load (t := 3) rfl rfl rfl rfl ?_; refine ⟨_, fun _ hS' => run_load_cell hS' _ _ rfl _ _ rfl _ _ (.inl (.head _)) _ Tryz.underlying3 rfl _ (Tk_at _ _), ?_⟩; simp only [Act.put, List.setIfInBounds_toArray, List.set_cons_succ, List.set_cons_zero]) | (refine S_load (t := 39) rfl rfl rfl rfl ?_; refine ⟨_, fun _ hS' => run_load_cell hS' _ _ rfl _ _ rfl _ _ (.inl (.head _)) _ Tryz.underlying39 rfl _ (Tk_list _ _), ?_⟩; simp only [Act.put, List.setIfInBounds_toArray, List.set_cons_succ, List.set_cons_zero]) | (refine S_run rfl rfl ?_; apply Exists.intro; refine ⟨fun _ => ?_, ?_⟩; (focus (go_simp; (try go_bits); exact rfl)); simp only [Act.put, List.setIfInBounds_toArray, List.set_cons_succ, List.set_cons_zero]))
    refine S_end0 ?_; clear hS; intro _ hS
    go_wp2_with (first | (refine L_load (t := 3) rfl rfl ?_; refine ⟨_, run_load_cell hS _ _ rfl _ _ rfl _ _ (.inl (.head _)) _ Tryz.underlying3 rfl _ (Tk_at _ _), ?_⟩) | (refine L_store (t := 3) hS rfl rfl ?_; refine ⟨_, _, Tk (.slice a len cap) (k + 1), _, _, (.head), run_store_cell hS _ _ _ rfl _ _ rfl _ rfl _ _ _ (.head) size3 rfl rfl ?_ ?_, ?_⟩; (focus (rw [Tk_size]; omega)); (focus (exact Tk_put _ _)); clear hS; intro _ hS) | (go_at_call 71; (with_reducible refine Gives.use (fold_any _ _ hz hn) hS ?_); clear hS; intro _ hS))
    go_ret
    exact ⟨rfl, _, hS, .head _⟩
def Tape (r : List (Nat × Obj)) (Lv : Value) (tv : Nat → Int) : Prop :=
  ∀ (k : Nat) (b : Nat) (n : Int), 1 ≤ n ∧ n ≤ 4611686018427387904 → k + 1 ≤ 1152921504606846976 → Given Tryz.prog 21 #[.pointer (some ⟨b, 0, none⟩), .int .i64 n] b r Lv k (k + 1) (.int .i64 (foldv (tv k) n))
theorem slc_tape {r : List (Nat × Obj)} {Lv : Value} (hs : Slc r Lv) : ∃ tv, Tape r Lv tv :=
  ⟨fun k => Classical.choose (tape_at r Lv k hs), fun k => Classical.choose_spec (tape_at r Lv k hs)⟩
theorem Given.more {P : Program} {f : FuncId} {args : Array Value} {b : Nat} {r r' : List (Nat × Obj)} {Lv : Value} {k k' : Nat} {v : Value} (h : Given P f args b r Lv k k' v) (hr : ∀ x ∈ r, x ∈ r') : Given P f args b r' Lv k k' v := fun w hb hr' => by
  refine (h w hb fun x hx => hr' x (hr x hx)).mono fun e w' ⟨he, l, hS, hm⟩ => ⟨he, l, ?_, hm⟩
  refine ⟨hS.os, hS.tape, hS.output, hS.size, hS.block, fun x hx => ?_, hS.own, hS.apart⟩
  obtain ⟨h1, h2⟩ := hr' x hx
  have hlt := (Array.getElem?_eq_some_iff.1 h1).1
  have hne : some b ≠ some x.1 := fun e => h2 (Option.some.inj e).symm
  exact ⟨hlt, hne, by rw [hS.block _ hlt hne]; exact h1⟩
set_option maxHeartbeats 1000000 in
theorem Tape.pick {r : List (Nat × Obj)} {Lv : Value} {tv : Nat → Int} (ht : Tape r Lv tv) (b g cap : Nat) (T : TypeId) (zs : List Int) (n : Nat) (hz : zs.length = n) (h0 : 1 ≤ n ∧ n ≤ 1000000) (k : Nat) (hk : k + 1 ≤ 1152921504606846976) :
    Given Tryz.prog 25 #[.pointer (some ⟨b, 0, none⟩), .slice (some ⟨g, 0, none⟩) n cap] b ((g, .cells (ints zs) T) :: r) Lv k (k + 1) (.int .i64 (zs.getD (foldv (tv k) ((n : Nat) : Int)).toNat 0)) := by
  have hn : 1 ≤ ((n : Nat) : Int) ∧ ((n : Nat) : Int) ≤ 4611686018427387904 := by omega
  have hn0 : (((n : Nat) : Int) == 0) = false := by simp; omega
  have hg := (ht k b _ hn hk).more (r' := (g, .cells (ints zs) T) :: r) fun x hx => .tail _ hx
  have hx := foldv_range (v := tv k) hn.1
  obtain ⟨x, hxe⟩ : ∃ x, x = foldv (tv k) ((n : Nat) : Int) := ⟨_, rfl⟩
  rw [← hxe] at hg hx ⊢
  clear hxe
  refine Given.of fun w hS => ?_
  have hm : (g, Obj.cells (ints zs) T) ∈ ((g, Obj.cells (ints zs) T) :: r) := .head _
  go_enter Tryz.func25, Tryz.ntmps25
  go_wp2_with (first | (go_at_call 21; (with_reducible refine (hg.use hS .head).mono ?_); clear hS; intro _ _ ⟨he, hS⟩; subst he) | (refine L_load (t := 3) rfl rfl ?_; refine ⟨_, run_load_cell hS _ _ rfl _ _ rfl _ _ (.inr hm) _ Tryz.underlying3 rfl _ (ints_at_int hz hx), ?_⟩))
  go_ret
  have hlt : x.toNat < zs.length := by omega
  refine ⟨?_, _, hS, .head _⟩
  rw [List.getD_eq_getElem?_getD, List.getElem?_eq_getElem hlt]
  rfl
end Go.Proofs.YtkiefjbfepjcbaaGreatDoor
end
section
namespace Go.Proofs.YtkiefjbfepjcbaaGreatDoor.Sx
open Go.RowKit

theorem ways_of [Outer] {P : Program} (hP : Plain P) {cfg : Cfg} {f : FuncId} {args : List SW} {mem : Mem} {nx : Nat} {T : Tree Out} (ρ : List Value) (hT : treeOf P cfg f args mem nx ρ.length = T) (hu : argsUnder args mem ρ.length = true) (Q : List Value → Out → Prop) (h : T.den P Q ρ) :
    ∃ vs ret, Q (ρ ++ vs) ret ∧ ∀ (β : Nat → Nat) (inh : List Nat) (w : World), Mrel (env ρ) β inh w (fun i => find i mem) w →
      Calls P f (denT (env ρ) β args) w fun e w' => ∃ β', (∀ i, i < nx → β' i = β i) ∧ e = .returned (ret.val.den (env (ρ ++ vs)) β') ∧ Mrel (env (ρ ++ vs)) β' inh w (fun i => find i ret.mem) w' := by
  subst hT
  obtain ⟨vs, asm', ret, evs, hrun, hasm, hev, hv⟩ := build_sound (asm := []) (known := []) (fun x hx => by cases hx) (fun x hx => by cases hx) (fun e he => by cases he) h
  obtain ⟨r, e1, e2, h1, h2, rfl⟩ := R.bind_ok hrun
  cases h2
  simp only [argsUnder, Bool.and_eq_true] at hu
  refine ⟨vs, _, hv, fun β inh w hM => ?_⟩
  have hM' : Mrel (env (ρ ++ vs)) β inh w (fun i => find i mem) w := hM.under fun i m hi => MB.fits_under (env_append ρ vs) (find_under hu.2 hi)
  obtain ⟨fn, _, _, hc⟩ := execF_ok hP.names hasm hP.order _ f args mem nx ρ.length r e1 h1 (fun e he => hev e (by simp [he])) β inh w w hM'
  have ha : denT (env (ρ ++ vs)) β args = denT (env ρ) β args := by
    simp only [denT]
    congr 1
    refine List.map_congr_left fun x hx => SW.den_under (env_append ρ vs) (List.all_eq_true.1 hu.1 x hx)
  rw [ha] at hc
  refine hc.mono fun e w' ⟨β', hβ, he, hm⟩ => ⟨β', hβ, he, ?_⟩
  simp only [trim]
  split
  · exact hm.less fun i m hi => by
      rcases Nat.lt_or_ge i nx with hlt | hge
      · rw [← hi, find_keepM hlt]
      · rw [find_keepM_ge hge] at hi; cases hi
  · exact hm
theorem fits_cells {ρ : Nat → Value} {β : Nat → Nat} {T : TypeId} {ps : List Piece} {o : Obj} (h : MB.fits ρ β ⟨T, ps, none⟩ o) : o = .cells (densP ρ β ps).toArray T := by
  obtain ⟨rest, h1, h2⟩ := h
  have h2 : rest = [] := h2
  subst h2
  rw [h1, List.append_nil]
theorem fits_mk {ρ : Nat → Value} {β : Nat → Nat} {T : TypeId} {ps : List Piece} {cs : List Value} (h : densP ρ β ps = cs) : MB.fits ρ β ⟨T, ps, none⟩ (.cells cs.toArray T) := ⟨[], by rw [h, List.append_nil], rfl⟩
end Go.Proofs.YtkiefjbfepjcbaaGreatDoor.Sx
namespace Go.Proofs.YtkiefjbfepjcbaaGreatDoor
open Go.RowKit Go.Proofs.YtkiefjbfepjcbaaGreatDoor.Sx

theorem Given.turns [Outer] {f : FuncId} {xs : List SV} {i nx : Nat} {ps qs : List Piece} {res : SW} {ρ ρ' : Nat → Value} (args : Nat → Array Value) {v : Value} {k k' : Nat} {Lv : Value} (hg : ∀ b, Given Tryz.prog f (args b) b Outer.r Lv k k' v)
    (hp : ∀ β, densP ρ' β ps = [Lv, .int .i64 ((k : Nat) : Int)]) (hq : ∀ β, densP ρ' β qs = [Lv, .int .i64 ((k' : Nat) : Int)]) (ha : ∀ β, denV ρ β xs = args (β i)) (hr : ∀ β, res.den ρ' β = v) (β : Nat → Nat) :
    Turns Tryz.prog ρ' β nx f (denV ρ β xs) [(i, ⟨42, ps, none⟩)] [(i, ⟨42, qs, none⟩)] [] res := fun w hro hpre => by
  obtain ⟨o, ho, hf⟩ := hpre _ (.head _)
  rw [fits_cells hf, hp] at ho
  rw [ha]
  refine (hg (β i) w ho fun x hx => ⟨(hro x hx).1, fun e => (hro x hx).2 _ (.head _) e.symm⟩).mono fun e w' ⟨he, l, hS, hm⟩ => ⟨β, fun _ _ => rfl, by rw [hr]; exact he, ?_, fun x hx => ?_, ⟨fun x hx => absurd hx (by simp), fun x hx => absurd hx (by simp)⟩⟩
  · exact ⟨hS.os, hS.tape, hS.output, hS.size, fun k hk hn => hS.block k hk fun e => hn (by simp [Option.some.inj e])⟩
  · cases List.mem_singleton.1 hx
    exact ⟨_, (hS.own _ hm).2, fits_mk (hq β)⟩
theorem Given.turns2 [Outer] {f : FuncId} {xs : List SV} {i j nx : Nat} {ps qs zps : List Piece} {T : TypeId} {res : SW} {ρ ρ' : Nat → Value} (args : Nat → Nat → Array Value) {v : Value} {k k' : Nat} {Lv : Value} (zs : List Value) (hij : i ≠ j)
    (hg : ∀ b g, Given Tryz.prog f (args b g) b ((g, .cells zs.toArray T) :: Outer.r) Lv k k' v)
    (hp : ∀ β, densP ρ' β ps = [Lv, .int .i64 ((k : Nat) : Int)]) (hq : ∀ β, densP ρ' β qs = [Lv, .int .i64 ((k' : Nat) : Int)]) (hz : ∀ β, densP ρ' β zps = zs) (ha : ∀ β, denV ρ β xs = args (β i) (β j)) (hr : ∀ β, res.den ρ' β = v) (β : Nat → Nat)
    (hinj : ∀ a ∈ [((i, ⟨42, ps, none⟩) : Nat × MB), (j, ⟨T, zps, none⟩)].map (·.1), ∀ c ∈ [((i, ⟨42, ps, none⟩) : Nat × MB), (j, ⟨T, zps, none⟩)].map (·.1), β a = β c → a = c) :
    Turns Tryz.prog ρ' β nx f (denV ρ β xs) [(i, ⟨42, ps, none⟩), (j, ⟨T, zps, none⟩)] [(i, ⟨42, qs, none⟩), (j, ⟨T, zps, none⟩)] [] res := fun w hro hpre => by
  obtain ⟨o, ho, hf⟩ := hpre _ (.head _)
  obtain ⟨o2, ho2, hf2⟩ := hpre _ (.tail _ (.head _))
  rw [fits_cells hf, hp] at ho
  rw [fits_cells hf2, hz] at ho2
  rw [ha]
  have hne : β j ≠ β i := fun e => hij (hinj i (by simp) j (by simp) e.symm)
  refine (hg (β i) (β j) w ho fun x hx => ?_).mono fun e w' ⟨he, l, hS, hm⟩ => ⟨β, fun _ _ => rfl, by rw [hr]; exact he, ?_, fun x hx => ?_, ⟨fun x hx => absurd hx (by simp), fun x hx => absurd hx (by simp)⟩⟩
  · rcases List.mem_cons.1 hx with rfl | hx
    · exact ⟨ho2, hne⟩
    · exact ⟨(hro x hx).1, fun e => (hro x hx).2 _ (.head _) e.symm⟩
  · exact ⟨hS.os, hS.tape, hS.output, hS.size, fun k hk hn => hS.block k hk fun e => hn (by simp [Option.some.inj e])⟩
  · rcases List.mem_cons.1 hx with rfl | hx
    · exact ⟨_, (hS.own _ hm).2, fits_mk (hq β)⟩
    · cases List.mem_singleton.1 hx
      exact ⟨_, (hS.ro _ (.head _)).2.2, fits_mk (hz β)⟩

def tapeM : Mem := [(0, some ⟨42, [.one (.v 0), .one (.int .i64 (.v 1))], none⟩)]
theorem given_of [Outer] {cfg : Cfg} {f : FuncId} {args : List SW} {T : Tree Out} {Lv : Value} {k : Nat} {rest : List Value} (hL : fix Lv = Lv) (hT : treeOf Tryz.prog cfg f args tapeM 1 (Lv :: .int .i64 ((k : Nat) : Int) :: rest).length = T) (hu : argsUnder args tapeM (Lv :: .int .i64 ((k : Nat) : Int) :: rest).length = true)
    (p : Value → Nat → Prop) (h : T.den Tryz.prog (fun ρ' ret => ∃ v k', p v k' ∧ (∀ β, ret.val.den (env ρ') β = v) ∧ ∃ ps, find 0 ret.mem = some ⟨42, ps, none⟩ ∧ ∀ β, densP (env ρ') β ps = [Lv, .int .i64 ((k' : Nat) : Int)]) (Lv :: .int .i64 ((k : Nat) : Int) :: rest)) :
    ∃ v k', p v k' ∧ ∀ b, Given Tryz.prog f (denT (env (Lv :: .int .i64 ((k : Nat) : Int) :: rest)) (fun _ => b) args) b Outer.r Lv k k' v := by
  obtain ⟨vs, ret, ⟨v, k', hp, hv, ps, hf, hd⟩, hc⟩ := ways_of plain _ hT hu _ h
  refine ⟨v, k', hp, fun b w hb hr => ?_⟩
  have hM : Mrel (env (Lv :: .int .i64 ((k : Nat) : Int) :: rest)) (fun _ => b) [b] w (fun i => find i tapeM) w := by
    have hfind : ∀ i m, find i tapeM = some m → i = 0 ∧ m = ⟨42, [.one (.v 0), .one (.int .i64 (.v 1))], none⟩ := fun i m h => by
      simp only [tapeM, find] at h
      split at h
      · rename_i h0
        cases h; exact ⟨natBeq h0, rfl⟩
      · cases h
    refine ⟨rfl, rfl, rfl, Nat.le_refl _, fun _ _ _ => rfl, fun i m hm => ?_, fun i m hm => .inr (by simp), fun i j m m' hm hm' _ => ?_, fun x hx => ⟨(hr x hx).1, by simpa using (hr x hx).2⟩⟩
    · obtain ⟨rfl, rfl⟩ := hfind i m hm
      exact ⟨_, hb, fits_mk (by simp [densP, Piece.den, Cell.den, env, Tm.i, Tm.den, vInt, hL])⟩
    · rw [(hfind i m hm).1, (hfind j m' hm').1]
  refine (hc (fun _ => b) [b] w hM).mono fun e w' ⟨β', hβ, he, hm⟩ => ⟨by rw [he]; exact congrArg Ending.returned (hv β'), [(b, .cells (Tk Lv k') 42)], ?_, .head _⟩
  obtain ⟨o, ho, hfo⟩ := hm.cells 0 _ hf
  rw [fits_cells hfo, hd, hβ 0 (by omega)] at ho
  have hlt : b < w.heap.size := (Array.getElem?_eq_some_iff.1 hb).1
  refine ⟨hm.os, hm.tape, hm.output, hm.size, fun k hk hn => hm.old k hk (by simpa using fun e => hn (congrArg some e.symm)), fun x hx => ?_, fun x hx => ?_, by simp⟩
  · obtain ⟨h1, h2⟩ := hr x hx
    refine ⟨(Array.getElem?_eq_some_iff.1 h1).1, fun e => h2 (Option.some.inj e).symm, ?_⟩
    rw [hm.old _ (Array.getElem?_eq_some_iff.1 h1).1 (by simpa using h2)]; exact h1
  · cases List.mem_singleton.1 hx
    exact ⟨.inr rfl, ho⟩
end Go.Proofs.YtkiefjbfepjcbaaGreatDoor
end
section
namespace Go.Proofs.YtkiefjbfepjcbaaGreatDoor
open Go.RowKit Go.Proofs.YtkiefjbfepjcbaaGreatDoor.Sx

theorem Tape.next1 {r : List (Nat × Obj)} {Lv : Value} {tv : Nat → Int} (ht : Tape r Lv tv) (k : Nat) (n : Int) (hn : 1 ≤ n ∧ n ≤ 4611686018427387904) (hk : k + 1 ≤ 1152921504606846976) :
    ∃ z : Int, (0 ≤ z ∧ z < n) ∧ ∀ b, Given Tryz.prog 21 #[.pointer (some ⟨b, 0, none⟩), .int .i64 n] b r Lv k (k + 1) (.int .i64 z) := ⟨_, foldv_range hn.1, fun b => ht k b n hn hk⟩
theorem Tape.pick1 {r : List (Nat × Obj)} {Lv : Value} {tv : Nat → Int} (ht : Tape r Lv tv) (zs : List Int) (n : Nat) (hz : zs.length = n) (h0 : 1 ≤ n ∧ n ≤ 1000000) (k : Nat) (hk : k + 1 ≤ 1152921504606846976) :
    ∃ z : Int, z ∈ zs ∧ ∀ b g cap T, Given Tryz.prog 25 #[.pointer (some ⟨b, 0, none⟩), .slice (some ⟨g, 0, none⟩) n cap] b ((g, .cells (ints zs) T) :: r) Lv k (k + 1) (.int .i64 z) :=
  ⟨_, ints_mem hz (foldv_range (by omega)), fun b g cap T => ht.pick b g cap T zs n hz h0 k hk⟩
end Go.Proofs.YtkiefjbfepjcbaaGreatDoor
end
section
namespace Go.Proofs.YtkiefjbfepjcbaaGreatDoor
open Go.RowKit Go.Proofs.YtkiefjbfepjcbaaGreatDoor.Sx
set_option linter.unusedSimpArgs false
set_option linter.unusedVariables false

def drawn (tv : Nat → Int) (k j : Nat) : Nat := if foldv (tv (k + 2 * j + 1)) 9 = 0 then 0 else if foldv (tv (k + 2 * j + 1)) 9 = 1 then 4294967295 else (foldv (tv (k + 2 * j)) 4294967296).toNat
def limbT (tv : Nat → Int) (k N j : Nat) : Nat := if N - 32 * j < 32 then drawn tv k j % 2 ^ (N - 32 * j) else drawn tv k j
def magT (tv : Nat → Int) (k N : Nat) : Nat → Nat
  | 0 => 0
  | j + 1 => magT tv k N j + limbT tv k N j * pw j
theorem drawn_lt (tv : Nat → Int) (k j : Nat) : drawn tv k j < 4294967296 := by
  unfold drawn
  have := foldv_range (v := tv (k + 2 * j)) (n := 4294967296) (by omega)
  split
  · omega
  · split <;> omega
theorem limbT_lt (tv : Nat → Int) (k N j : Nat) : limbT tv k N j < 4294967296 := by
  unfold limbT
  have := drawn_lt tv k j
  split
  · exact Nat.lt_of_le_of_lt (Nat.mod_le _ _) this
  · exact this
theorem magT_lt (tv : Nat → Int) (k N : Nat) : ∀ j, (j = 0 ∨ 32 * (j - 1) < N) → magT tv k N j < 2 ^ (min (32 * j) N)
  | 0, _ => Nat.pow_pos (by omega)
  | j + 1, h => by
    have h' : 32 * j < N := by rcases h with h | h <;> omega
    have ih := magT_lt tv k N j (by omega)
    rw [show min (32 * j) N = 32 * j by omega] at ih
    refine fill_bits h' ih (limbT_lt tv k N j) fun hl => ?_
    unfold limbT
    rw [if_pos hl]
    exact Nat.mod_lt _ (Nat.pow_pos (by omega))
theorem mask_ari (v l : Nat) (hv : v < 4294967296) (hl : l < 32) : ariI .and .u32 ((v : Nat) : Int) (ariI .sub .u32 (shfI .shl .u32 1 ((l : Nat) : Int)) 1) = ((v % 2 ^ l : Nat) : Int) := by
  have h := mask_and (z := ((v : Nat) : Int)) (v := v) (j := l) rfl hv hl
  have h1 : 2 ^ l ≤ 2 ^ 31 := Nat.pow_le_pow_right (by omega) (by omega)
  have h2 : 0 < 2 ^ l := Nat.pow_pos (by omega)
  have e1 : shfI .shl .u32 1 ((l : Nat) : Int) = ((2 ^ l : Nat) : Int) := by
    have := shl32_of 1 l (2 ^ l) (by omega) rfl
    rw [Nat.one_mul, Nat.mod_eq_of_lt (by omega)] at this
    exact this
  have e2 : ariI .sub .u32 (shfI .shl .u32 1 ((l : Nat) : Int)) 1 = ((2 ^ l - 1) % 4294967296 : Int) := by
    rw [e1]
    show IntKind.u32.wrap (((2 ^ l : Nat) : Int) - 1) = _
    rw [IntKind.wrap_u32]
    have : ((2 : Int) ^ l) = ((2 ^ l : Nat) : Int) := by simp
    rw [this]
  rw [e2]
  exact h
set_option maxHeartbeats 8000000 in
theorem mint_loop [Outer] (Lv : Value) (hL : fix Lv = Lv) (tv : Nat → Int) (ht : Tape Outer.r Lv tv) (k0 k1 k N : Nat) (x3 B p P1 NI : Int) (hk : k + 64 ≤ 1152921504606846976) (hN1 : (if B < p then B else p) = P1) (hN2 : (if 1024 < P1 then 1024 else P1) = NI) (hNI : NI = ((N : Nat) : Int)) (hN : N ≤ 1024) :
    Ev.holds Tryz.prog (env [Lv, .int .i64 (k0 : Nat), .int .i64 B, .int .i64 x3, .int .i64 (k1 : Nat), .int .i64 p, .int .i64 (k : Nat), .int .i64 ((N + 31) / 32 : Nat), Lv, .int .i64 (k + 2 * ((N + 31) / 32) : Nat), .bool false, .agg (mgk 32 (magT tv k N ((N + 31) / 32)))])
      (.loop 70 0 mintS70_0 mintH70_0 (.exit 0) .none 5) := by
  obtain ⟨J, hJ⟩ : ∃ J, J = (N + 31) / 32 := ⟨_, rfl⟩
  rw [← hJ]
  refine loop_holds plain (m := 5) (x := .exit 0) (alt := none) [Lv, .int .i64 (k0 : Nat), .int .i64 B, .int .i64 x3, .int .i64 (k1 : Nat), .int .i64 p, .int .i64 (k : Nat)] [.int .i64 (J : Nat), Lv, .int .i64 (k + 2 * J : Nat), .bool false, .agg (mgk 32 (magT tv k N J))] tmInt0_ok tmInt0_fine
    (fun vs => ∃ j : Nat, j ≤ J ∧ vs = [.int .i64 (j : Nat), Lv, .int .i64 (k + 2 * j : Nat), .bool false, .agg (mgk 32 (magT tv k N j))])
    (fun vs => 32 - (vInt (vs.getD 0 undef)).toNat) tmInt0_diff ?_ ?_
  · refine ⟨[.int .i64 (0 : Nat), Lv, .int .i64 (k + 2 * 0 : Nat), .bool false, .agg (mgk 32 (magT tv k N 0))], rfl, ⟨0, by omega, rfl⟩, ?_⟩
    have hz : rowCells (.agg (mgk 32 (magT tv k N 0))) 32 = List.replicate 32 (.int .u32 0) := by rw [rowCells_mgk, magT, mgl_zero]
    simp [tmInt0_d, BTm.den, Tm.i, Tm.s, Tm.den, env, vInt, vBool, vStr, exI, SW.den, SV.den, Cell.den, densP, Piece.den, denV, denT, hz, hL]
  · rintro vs hl ⟨j, hj, rfl⟩
    clear hl
    refine tree_ite ?_
    refine ev_fits (32 * (j : Int)) (by simp [BTm.den, Tm.i, Tm.s, Tm.den, env, vInt, vBool, vStr, exI]) (rng_i64 _ (by omega)) ?_
    refine ev_nil ⟨fun hlt => tree_ite ?_, fun hlt => tree_leaf (ev_nil ?_)⟩
    · have hlt : 32 * (j : Int) < NI := by simpa [BTm.den, Tm.i, Tm.s, Tm.den, env, vInt, vBool, vStr, exI, hN1, hN2] using hlt
      have hj32 : j < 32 := by omega
      have hjJ : j + 1 ≤ J := by omega
      have hg1 := fun b => ht (k + 2 * j) b 4294967296 (by omega) (by omega)
      have hg2 := fun b => ht (k + 2 * j + 1) b 9 (by omega) (by omega)
      have hr1 := foldv_range (v := tv (k + 2 * j)) (n := 4294967296) (by omega)
      have hlT : limbT tv k N j = if N - 32 * j < 32 then drawn tv k j % 2 ^ (N - 32 * j) else drawn tv k j := rfl
      have hdr : drawn tv k j = if foldv (tv (k + 2 * j + 1)) 9 = 0 then 0 else if foldv (tv (k + 2 * j + 1)) 9 = 1 then 4294967295 else (foldv (tv (k + 2 * j)) 4294967296).toNat := rfl
      have hdl := drawn_lt tv k j
      have hml : magT tv k N j < pw j := by
        have := magT_lt tv k N j (by omega)
        rw [show min (32 * j) N = 32 * j by omega] at this
        rw [pw_bits]; exact this
      have hms : magT tv k N (j + 1) = put (magT tv k N j) j (limbT tv k N j) := by
        rw [put_low _ hml]; rfl
      have hll := limbT_lt tv k N j
      obtain ⟨z1, hz1⟩ : ∃ z, z = foldv (tv (k + 2 * j)) 4294967296 := ⟨_, rfl⟩
      obtain ⟨z2, hz2⟩ : ∃ z, z = foldv (tv (k + 2 * j + 1)) 9 := ⟨_, rfl⟩
      obtain ⟨d, hd⟩ : ∃ z, z = drawn tv k j := ⟨_, rfl⟩
      obtain ⟨v, hv⟩ : ∃ z, z = limbT tv k N j := ⟨_, rfl⟩
      obtain ⟨M, hM⟩ : ∃ z, z = magT tv k N j := ⟨_, rfl⟩
      rw [← hz1] at hg1 hr1 hdr
      rw [← hz2] at hg2 hdr
      rw [← hd] at hdr hlT hdl
      rw [← hv] at hlT hms hll
      rw [← hM] at hms
      rw [← hM]
      clear hz1 hz2 hd hv hM hml
      have hput : mgl 32 (put M j v) = (mgl 32 M).take j ++ [.int .u32 (v : Nat)] ++ (mgl 32 M).drop (j + 1) := mgl_put (by omega) rfl hll
      have hc1 : IntKind.u32.wrap z1 = z1 := by rw [IntKind.wrap_u32]; omega
      refine ev_turn [.int .i64 (z1), .int .i64 (((k + 2 * j + 1 : Nat) : Int))] rfl rfl (fun β _ => Given.turns (fun b => #[.pointer (some ⟨b, 0, none⟩), .int .i64 (4294967296)]) (hg1) (fun β => by simp [BTm.den, Tm.i, Tm.s, Tm.den, env, vInt, vBool, vStr, exI, SW.den, SV.den, Cell.den, densP, Piece.den, denV, hL]) (fun β => by simp [BTm.den, Tm.i, Tm.s, Tm.den, env, vInt, vBool, vStr, exI, SW.den, SV.den, Cell.den, densP, Piece.den, denV, hL]) (fun β => by simp [BTm.den, Tm.i, Tm.s, Tm.den, env, vInt, vBool, vStr, exI, SW.den, SV.den, Cell.den, densP, Piece.den, denV, hL]) (fun β => by simp [BTm.den, Tm.i, Tm.s, Tm.den, env, vInt, vBool, vStr, exI, SW.den, SV.den, Cell.den, densP, Piece.den, denV, hL]) β) ?_
      refine ev_turn [.int .i64 (z2), .int .i64 (((k + 2 * j + 1 + 1 : Nat) : Int))] rfl rfl (fun β _ => Given.turns (fun b => #[.pointer (some ⟨b, 0, none⟩), .int .i64 (9)]) (hg2) (fun β => by simp [BTm.den, Tm.i, Tm.s, Tm.den, env, vInt, vBool, vStr, exI, SW.den, SV.den, Cell.den, densP, Piece.den, denV, hL]) (fun β => by simp [BTm.den, Tm.i, Tm.s, Tm.den, env, vInt, vBool, vStr, exI, SW.den, SV.den, Cell.den, densP, Piece.den, denV, hL]) (fun β => by simp [BTm.den, Tm.i, Tm.s, Tm.den, env, vInt, vBool, vStr, exI, SW.den, SV.den, Cell.den, densP, Piece.den, denV, hL]) (fun β => by simp [BTm.den, Tm.i, Tm.s, Tm.den, env, vInt, vBool, vStr, exI, SW.den, SV.den, Cell.den, densP, Piece.den, denV, hL]) β) ?_
      have fin : ∀ (ρ' : List Value) (y1 y2 : SW × SW) (y3 : SW × SW), (∀ β, y1.1.den (env ρ') β = .int .i64 ((j + 1 : Nat) : Int)) → True := fun _ _ _ _ _ => trivial
      have hj1 : ((j : Int) + 1) = ((j + 1 : Nat) : Int) := by push_cast; rfl
      have hk1 : k + 2 * j + 1 + 1 = k + 2 * (j + 1) := by omega
      refine ev_nil ⟨fun h => tree_ite ?_, fun h => tree_ite (ev_nil ⟨fun h' => tree_ite ?_, fun h' => tree_ite ?_⟩)⟩
      · have h : z2 = 0 := by simpa [BTm.den, Tm.i, Tm.s, Tm.den, env, vInt, vBool, vStr, exI] using h
        rw [if_pos h] at hdr
        refine ev_fits (32 * (j : Int)) (by simp [BTm.den, Tm.i, Tm.s, Tm.den, env, vInt, vBool, vStr, exI]) (rng_i64 _ (by omega)) ?_
        refine ev_fits (NI - 32 * (j : Int)) (by simp [BTm.den, Tm.i, Tm.s, Tm.den, env, vInt, vBool, vStr, exI, hN1, hN2]) (rng_i64 _ (by omega)) ?_
        refine ev_nil ⟨fun hs => tree_leaf ?_, fun hs => tree_leaf ?_⟩
        · have hs : NI - 32 * (j : Int) < 32 := by simpa [BTm.den, Tm.i, Tm.s, Tm.den, env, vInt, vBool, vStr, exI, hN1, hN2] using hs
          have hsub : NI - 32 * (j : Int) = ((N - 32 * j : Nat) : Int) := by omega
          have hmk := mask_ari d (N - 32 * j) hdl (by omega)
          rw [if_pos (by omega)] at hlT
          rw [← hlT, hdr, show ((0 : Nat) : Int) = 0 from rfl] at hmk
          refine ev_fits ((N - 32 * j : Nat) : Int) (by simp [BTm.den, Tm.i, Tm.s, Tm.den, env, vInt, vBool, vStr, exI, hN1, hN2, hsub]) (rng_u64 _ (by omega)) ?_
          refine ev_need (by simp [BTm.den, Tm.i, Tm.s, Tm.den, env, vInt, vBool, vStr, exI, hN1, hN2, hsub]) ?_
          refine ev_need (by simp [BTm.den, Tm.i, Tm.s, Tm.den, env, vInt, vBool, vStr, exI]) ?_
          refine ev_need (by simp [BTm.den, Tm.i, Tm.s, Tm.den, env, vInt, vBool, vStr, exI] <;> omega) ?_
          refine ev_put [.agg (mgk 32 (put M j v))] rfl rfl (l := mgl 32 M) (l' := mgl 32 (put M j v)) (m := [.int .u32 (v : Nat)]) (k := j) (by simp [BTm.den, Tm.i, Tm.s, Tm.den, env, vInt, vBool, vStr, exI] <;> omega) (fun β => rowCells_mgk 32 _) (fun β => rowCells_mgk 32 _) (fun β => ?_) hput (by rw [mgl_length]; simp; omega) ?_
          · simp only [BTm.den, Tm.i, Tm.s, Tm.den, env, vInt, vBool, vStr, exI, SW.den, SV.den, Cell.den, densP, Piece.den, denV, denT, hN1, hN2, hsub, List.getD_cons_succ, List.getD_cons_zero, List.getElem?_cons_succ, List.getElem?_cons_zero, Option.getD_some]
            simp [hN1, hN2, hsub, hc1, hmk]
          refine ev_fits ((j + 1 : Nat) : Int) (by simp [BTm.den, Tm.i, Tm.s, Tm.den, env, vInt, vBool, vStr, exI]) (rng_i64 _ (by omega)) ?_
          refine ev_nil ⟨[.int .i64 (j + 1 : Nat), Lv, .int .i64 (k + 2 * (j + 1) : Nat), .bool false, .agg (mgk 32 (magT tv k N (j + 1)))], rfl, ⟨j + 1, hjJ, rfl⟩, by simp [vInt]; omega, ?_⟩
          rw [hms]
          simp [BTm.den, Tm.i, Tm.s, Tm.den, env, vInt, vBool, vStr, exI, SW.den, SV.den, Cell.den, densP, Piece.den, denV, denT, rowCells_mgk, hL] <;> omega
        · have hs : ¬ NI - 32 * (j : Int) < 32 := by simpa [BTm.den, Tm.i, Tm.s, Tm.den, env, vInt, vBool, vStr, exI, hN1, hN2] using hs
          rw [if_neg (by omega)] at hlT
          refine ev_need (by simp [BTm.den, Tm.i, Tm.s, Tm.den, env, vInt, vBool, vStr, exI]) ?_
          refine ev_need (by simp [BTm.den, Tm.i, Tm.s, Tm.den, env, vInt, vBool, vStr, exI] <;> omega) ?_
          refine ev_put [.agg (mgk 32 (put M j v))] rfl rfl (l := mgl 32 M) (l' := mgl 32 (put M j v)) (m := [.int .u32 (v : Nat)]) (k := j) (by simp [BTm.den, Tm.i, Tm.s, Tm.den, env, vInt, vBool, vStr, exI] <;> omega) (fun β => rowCells_mgk 32 _) (fun β => rowCells_mgk 32 _) (fun β => ?_) hput (by rw [mgl_length]; simp; omega) ?_
          · simp [BTm.den, Tm.i, Tm.s, Tm.den, env, vInt, vBool, vStr, exI, SW.den, SV.den, Cell.den, densP, Piece.den, denV, denT, hc1, hlT, hdr] 
          refine ev_fits ((j + 1 : Nat) : Int) (by simp [BTm.den, Tm.i, Tm.s, Tm.den, env, vInt, vBool, vStr, exI]) (rng_i64 _ (by omega)) ?_
          refine ev_nil ⟨[.int .i64 (j + 1 : Nat), Lv, .int .i64 (k + 2 * (j + 1) : Nat), .bool false, .agg (mgk 32 (magT tv k N (j + 1)))], rfl, ⟨j + 1, hjJ, rfl⟩, by simp [vInt]; omega, ?_⟩
          rw [hms]
          simp [BTm.den, Tm.i, Tm.s, Tm.den, env, vInt, vBool, vStr, exI, SW.den, SV.den, Cell.den, densP, Piece.den, denV, denT, rowCells_mgk, hL] <;> omega
      · have h : z2 ≠ 0 := by simpa [BTm.den, Tm.i, Tm.s, Tm.den, env, vInt, vBool, vStr, exI] using h
        have h' : z2 = 1 := by simpa [BTm.den, Tm.i, Tm.s, Tm.den, env, vInt, vBool, vStr, exI] using h'
        rw [if_neg h, if_pos h'] at hdr
        refine ev_fits (32 * (j : Int)) (by simp [BTm.den, Tm.i, Tm.s, Tm.den, env, vInt, vBool, vStr, exI]) (rng_i64 _ (by omega)) ?_
        refine ev_fits (NI - 32 * (j : Int)) (by simp [BTm.den, Tm.i, Tm.s, Tm.den, env, vInt, vBool, vStr, exI, hN1, hN2]) (rng_i64 _ (by omega)) ?_
        refine ev_nil ⟨fun hs => tree_leaf ?_, fun hs => tree_leaf ?_⟩
        · have hs : NI - 32 * (j : Int) < 32 := by simpa [BTm.den, Tm.i, Tm.s, Tm.den, env, vInt, vBool, vStr, exI, hN1, hN2] using hs
          have hsub : NI - 32 * (j : Int) = ((N - 32 * j : Nat) : Int) := by omega
          have hmk := mask_ari d (N - 32 * j) hdl (by omega)
          rw [if_pos (by omega)] at hlT
          rw [← hlT, hdr, show ((4294967295 : Nat) : Int) = 4294967295 from rfl] at hmk
          refine ev_fits ((N - 32 * j : Nat) : Int) (by simp [BTm.den, Tm.i, Tm.s, Tm.den, env, vInt, vBool, vStr, exI, hN1, hN2, hsub]) (rng_u64 _ (by omega)) ?_
          refine ev_need (by simp [BTm.den, Tm.i, Tm.s, Tm.den, env, vInt, vBool, vStr, exI, hN1, hN2, hsub]) ?_
          refine ev_need (by simp [BTm.den, Tm.i, Tm.s, Tm.den, env, vInt, vBool, vStr, exI]) ?_
          refine ev_need (by simp [BTm.den, Tm.i, Tm.s, Tm.den, env, vInt, vBool, vStr, exI] <;> omega) ?_
          refine ev_put [.agg (mgk 32 (put M j v))] rfl rfl (l := mgl 32 M) (l' := mgl 32 (put M j v)) (m := [.int .u32 (v : Nat)]) (k := j) (by simp [BTm.den, Tm.i, Tm.s, Tm.den, env, vInt, vBool, vStr, exI] <;> omega) (fun β => rowCells_mgk 32 _) (fun β => rowCells_mgk 32 _) (fun β => ?_) hput (by rw [mgl_length]; simp; omega) ?_
          · simp only [BTm.den, Tm.i, Tm.s, Tm.den, env, vInt, vBool, vStr, exI, SW.den, SV.den, Cell.den, densP, Piece.den, denV, denT, hN1, hN2, hsub, List.getD_cons_succ, List.getD_cons_zero, List.getElem?_cons_succ, List.getElem?_cons_zero, Option.getD_some]
            simp [hN1, hN2, hsub, hc1, hmk]
          refine ev_fits ((j + 1 : Nat) : Int) (by simp [BTm.den, Tm.i, Tm.s, Tm.den, env, vInt, vBool, vStr, exI]) (rng_i64 _ (by omega)) ?_
          refine ev_nil ⟨[.int .i64 (j + 1 : Nat), Lv, .int .i64 (k + 2 * (j + 1) : Nat), .bool false, .agg (mgk 32 (magT tv k N (j + 1)))], rfl, ⟨j + 1, hjJ, rfl⟩, by simp [vInt]; omega, ?_⟩
          rw [hms]
          simp [BTm.den, Tm.i, Tm.s, Tm.den, env, vInt, vBool, vStr, exI, SW.den, SV.den, Cell.den, densP, Piece.den, denV, denT, rowCells_mgk, hL] <;> omega
        · have hs : ¬ NI - 32 * (j : Int) < 32 := by simpa [BTm.den, Tm.i, Tm.s, Tm.den, env, vInt, vBool, vStr, exI, hN1, hN2] using hs
          rw [if_neg (by omega)] at hlT
          refine ev_need (by simp [BTm.den, Tm.i, Tm.s, Tm.den, env, vInt, vBool, vStr, exI]) ?_
          refine ev_need (by simp [BTm.den, Tm.i, Tm.s, Tm.den, env, vInt, vBool, vStr, exI] <;> omega) ?_
          refine ev_put [.agg (mgk 32 (put M j v))] rfl rfl (l := mgl 32 M) (l' := mgl 32 (put M j v)) (m := [.int .u32 (v : Nat)]) (k := j) (by simp [BTm.den, Tm.i, Tm.s, Tm.den, env, vInt, vBool, vStr, exI] <;> omega) (fun β => rowCells_mgk 32 _) (fun β => rowCells_mgk 32 _) (fun β => ?_) hput (by rw [mgl_length]; simp; omega) ?_
          · simp [BTm.den, Tm.i, Tm.s, Tm.den, env, vInt, vBool, vStr, exI, SW.den, SV.den, Cell.den, densP, Piece.den, denV, denT, hc1, hlT, hdr] 
          refine ev_fits ((j + 1 : Nat) : Int) (by simp [BTm.den, Tm.i, Tm.s, Tm.den, env, vInt, vBool, vStr, exI]) (rng_i64 _ (by omega)) ?_
          refine ev_nil ⟨[.int .i64 (j + 1 : Nat), Lv, .int .i64 (k + 2 * (j + 1) : Nat), .bool false, .agg (mgk 32 (magT tv k N (j + 1)))], rfl, ⟨j + 1, hjJ, rfl⟩, by simp [vInt]; omega, ?_⟩
          rw [hms]
          simp [BTm.den, Tm.i, Tm.s, Tm.den, env, vInt, vBool, vStr, exI, SW.den, SV.den, Cell.den, densP, Piece.den, denV, denT, rowCells_mgk, hL] <;> omega
      · have h : z2 ≠ 0 := by simpa [BTm.den, Tm.i, Tm.s, Tm.den, env, vInt, vBool, vStr, exI] using h
        have h' : z2 ≠ 1 := by simpa [BTm.den, Tm.i, Tm.s, Tm.den, env, vInt, vBool, vStr, exI] using h'
        rw [if_neg h, if_neg h'] at hdr
        refine ev_fits (32 * (j : Int)) (by simp [BTm.den, Tm.i, Tm.s, Tm.den, env, vInt, vBool, vStr, exI]) (rng_i64 _ (by omega)) ?_
        refine ev_fits (NI - 32 * (j : Int)) (by simp [BTm.den, Tm.i, Tm.s, Tm.den, env, vInt, vBool, vStr, exI, hN1, hN2]) (rng_i64 _ (by omega)) ?_
        refine ev_nil ⟨fun hs => tree_leaf ?_, fun hs => tree_leaf ?_⟩
        · have hs : NI - 32 * (j : Int) < 32 := by simpa [BTm.den, Tm.i, Tm.s, Tm.den, env, vInt, vBool, vStr, exI, hN1, hN2] using hs
          have hsub : NI - 32 * (j : Int) = ((N - 32 * j : Nat) : Int) := by omega
          have hmk := mask_ari d (N - 32 * j) hdl (by omega)
          rw [if_pos (by omega)] at hlT
          rw [← hlT, hdr, show ((z1.toNat : Nat) : Int) = z1 by omega] at hmk
          refine ev_fits ((N - 32 * j : Nat) : Int) (by simp [BTm.den, Tm.i, Tm.s, Tm.den, env, vInt, vBool, vStr, exI, hN1, hN2, hsub]) (rng_u64 _ (by omega)) ?_
          refine ev_need (by simp [BTm.den, Tm.i, Tm.s, Tm.den, env, vInt, vBool, vStr, exI, hN1, hN2, hsub]) ?_
          refine ev_need (by simp [BTm.den, Tm.i, Tm.s, Tm.den, env, vInt, vBool, vStr, exI]) ?_
          refine ev_need (by simp [BTm.den, Tm.i, Tm.s, Tm.den, env, vInt, vBool, vStr, exI] <;> omega) ?_
          refine ev_put [.agg (mgk 32 (put M j v))] rfl rfl (l := mgl 32 M) (l' := mgl 32 (put M j v)) (m := [.int .u32 (v : Nat)]) (k := j) (by simp [BTm.den, Tm.i, Tm.s, Tm.den, env, vInt, vBool, vStr, exI] <;> omega) (fun β => rowCells_mgk 32 _) (fun β => rowCells_mgk 32 _) (fun β => ?_) hput (by rw [mgl_length]; simp; omega) ?_
          · simp only [BTm.den, Tm.i, Tm.s, Tm.den, env, vInt, vBool, vStr, exI, SW.den, SV.den, Cell.den, densP, Piece.den, denV, denT, hN1, hN2, hsub, List.getD_cons_succ, List.getD_cons_zero, List.getElem?_cons_succ, List.getElem?_cons_zero, Option.getD_some]
            simp [hN1, hN2, hsub, hc1, hmk]
          refine ev_fits ((j + 1 : Nat) : Int) (by simp [BTm.den, Tm.i, Tm.s, Tm.den, env, vInt, vBool, vStr, exI]) (rng_i64 _ (by omega)) ?_
          refine ev_nil ⟨[.int .i64 (j + 1 : Nat), Lv, .int .i64 (k + 2 * (j + 1) : Nat), .bool false, .agg (mgk 32 (magT tv k N (j + 1)))], rfl, ⟨j + 1, hjJ, rfl⟩, by simp [vInt]; omega, ?_⟩
          rw [hms]
          simp [BTm.den, Tm.i, Tm.s, Tm.den, env, vInt, vBool, vStr, exI, SW.den, SV.den, Cell.den, densP, Piece.den, denV, denT, rowCells_mgk, hL] <;> omega
        · have hs : ¬ NI - 32 * (j : Int) < 32 := by simpa [BTm.den, Tm.i, Tm.s, Tm.den, env, vInt, vBool, vStr, exI, hN1, hN2] using hs
          rw [if_neg (by omega)] at hlT
          refine ev_need (by simp [BTm.den, Tm.i, Tm.s, Tm.den, env, vInt, vBool, vStr, exI]) ?_
          refine ev_need (by simp [BTm.den, Tm.i, Tm.s, Tm.den, env, vInt, vBool, vStr, exI] <;> omega) ?_
          refine ev_put [.agg (mgk 32 (put M j v))] rfl rfl (l := mgl 32 M) (l' := mgl 32 (put M j v)) (m := [.int .u32 (v : Nat)]) (k := j) (by simp [BTm.den, Tm.i, Tm.s, Tm.den, env, vInt, vBool, vStr, exI] <;> omega) (fun β => rowCells_mgk 32 _) (fun β => rowCells_mgk 32 _) (fun β => ?_) hput (by rw [mgl_length]; simp; omega) ?_
          · simp [BTm.den, Tm.i, Tm.s, Tm.den, env, vInt, vBool, vStr, exI, SW.den, SV.den, Cell.den, densP, Piece.den, denV, denT, hc1, hlT, hdr] <;> omega
          refine ev_fits ((j + 1 : Nat) : Int) (by simp [BTm.den, Tm.i, Tm.s, Tm.den, env, vInt, vBool, vStr, exI]) (rng_i64 _ (by omega)) ?_
          refine ev_nil ⟨[.int .i64 (j + 1 : Nat), Lv, .int .i64 (k + 2 * (j + 1) : Nat), .bool false, .agg (mgk 32 (magT tv k N (j + 1)))], rfl, ⟨j + 1, hjJ, rfl⟩, by simp [vInt]; omega, ?_⟩
          rw [hms]
          simp [BTm.den, Tm.i, Tm.s, Tm.den, env, vInt, vBool, vStr, exI, SW.den, SV.den, Cell.den, densP, Piece.den, denV, denT, rowCells_mgk, hL] <;> omega
    · have hlt : ¬ 32 * (j : Int) < NI := by simpa [BTm.den, Tm.i, Tm.s, Tm.den, env, vInt, vBool, vStr, exI, hN1, hN2] using hlt
      obtain rfl : j = J := by omega
      refine ⟨rfl, ?_⟩
      simp [BTm.den, Tm.i, Tm.s, Tm.den, env, vInt, vBool, vStr, exI, SW.den, SV.den, Cell.den, densP, Piece.den, denV, denT, rowCells_mgk]
theorem mint_given [Outer] (Lv : Value) (hL : fix Lv = Lv) (tv : Nat → Int) (ht : Tape Outer.r Lv tv) (bits : Nat) (hb : 1 ≤ bits ∧ bits ≤ 1024) (k0 : Nat) (hk : k0 + 67 ≤ 1152921504606846976) :
    ∃ (z : Int) (k' : Nat), z.natAbs < 2 ^ bits ∧ k0 ≤ k' ∧ k' ≤ k0 + 67 ∧ ∀ b, Given Tryz.prog 70 #[.pointer (some ⟨b, 0, none⟩), .int .i64 ((bits : Nat) : Int)] b Outer.r Lv k0 k' (.agg (ivZ z)) := by
  obtain ⟨x, hx, g1⟩ := ht.next1 k0 ((bits : Int) + 1) (by omega) (by omega)
  obtain ⟨B, hB⟩ : ∃ B : Int, B = ((bits : Nat) : Int) := ⟨_, rfl⟩
  obtain ⟨p, hp, g2⟩ := ht.pick1 [0, 1, 5, 20, 31, 32, 33, 64, 65, 100, 200, 400, B, B, x] 15 rfl (by omega) (k0 + 1) (by omega)
  rw [← hB] at g1 hx ⊢
  have hp0 : 0 ≤ p := by
    simp only [List.mem_cons, List.not_mem_nil, or_false] at hp
    omega
  obtain ⟨P1, hP1⟩ : ∃ P1, (if B < p then B else p) = P1 := ⟨_, rfl⟩
  obtain ⟨NI, hN2⟩ : ∃ NI, (if 1024 < P1 then 1024 else P1) = NI := ⟨_, rfl⟩
  have hPB : 0 ≤ P1 ∧ P1 ≤ B := by rw [← hP1]; split <;> omega
  have hNB : 0 ≤ NI ∧ NI ≤ B ∧ NI ≤ 1024 := by rw [← hN2]; split <;> omega
  obtain ⟨N, hN⟩ : ∃ N : Nat, NI = ((N : Nat) : Int) := ⟨NI.toNat, by omega⟩
  obtain ⟨J, hJ⟩ : ∃ J, J = (N + 31) / 32 := ⟨_, rfl⟩
  have hloop := mint_loop Lv hL tv ht k0 (k0 + 1) (k0 + 1 + 1) N x B p P1 NI (by omega) hP1 hN2 hN (by omega)
  rw [← hJ] at hloop
  have hlt := magT_lt tv (k0 + 1 + 1) N J (by omega)
  obtain ⟨M, hM⟩ : ∃ M, M = magT tv (k0 + 1 + 1) N J := ⟨_, rfl⟩
  rw [← hM] at hloop hlt
  have hMb : M < 2 ^ bits := Nat.lt_of_lt_of_le hlt (Nat.pow_le_pow_right (by omega) (by omega))
  have hMp : M < pw 32 := by
    obtain ⟨K, hK, e⟩ := pw32_bits
    rw [e]; exact Nat.lt_of_lt_of_le hMb (Nat.pow_le_pow_right (by omega) (by omega))
  obtain ⟨y, hy, g3⟩ := ht.next1 (k0 + 1 + 1 + 2 * J) 3 (by omega) (by omega)
  have hsg := rsign_any false M hMp
  have hsz := vsgn_zero false M
  obtain ⟨s, hs⟩ : ∃ s, s = sgn (vz false M) := ⟨_, rfl⟩
  rw [← hs] at hsg hsz
  have main := given_of (k := k0) (rest := [.int .i64 B]) hL tmInt_ok (by kernel_rfl)
    (fun v k' => ∃ z : Int, v = .agg (ivZ z) ∧ z.natAbs < 2 ^ bits ∧ k0 ≤ k' ∧ k' ≤ k0 + 67) (by
      refine tree_ite ?_
      refine ev_fits (B + 1) (by simp [BTm.den, Tm.i, Tm.s, Tm.den, env, vInt, vBool, vStr, exI]) (rng_i64 _ (by omega)) ?_
      refine ev_turn [.int .i64 (x), .int .i64 (((k0 + 1 : Nat) : Int))] rfl rfl (fun β _ => Given.turns (fun b => #[.pointer (some ⟨b, 0, none⟩), .int .i64 (B + 1)]) (g1) (fun β => by simp [BTm.den, Tm.i, Tm.s, Tm.den, env, vInt, vBool, vStr, exI, SW.den, SV.den, Cell.den, densP, Piece.den, denV, hL]) (fun β => by simp [BTm.den, Tm.i, Tm.s, Tm.den, env, vInt, vBool, vStr, exI, SW.den, SV.den, Cell.den, densP, Piece.den, denV, hL]) (fun β => by simp [BTm.den, Tm.i, Tm.s, Tm.den, env, vInt, vBool, vStr, exI, SW.den, SV.den, Cell.den, densP, Piece.den, denV, hL]) (fun β => by simp [BTm.den, Tm.i, Tm.s, Tm.den, env, vInt, vBool, vStr, exI, SW.den, SV.den, Cell.den, densP, Piece.den, denV, hL]) β) ?_
      refine ev_turn [.int .i64 (p), .int .i64 (((k0 + 1 + 1 : Nat) : Int))] rfl rfl (fun β hβ => Given.turns2 (fun b g => #[.pointer (some ⟨b, 0, none⟩), .slice (some ⟨g, 0, none⟩) 15 15]) [.int .i64 0, .int .i64 1, .int .i64 5, .int .i64 20, .int .i64 31, .int .i64 32, .int .i64 33, .int .i64 64, .int .i64 65, .int .i64 100, .int .i64 200, .int .i64 400, .int .i64 B, .int .i64 B, .int .i64 x] (by decide) (fun b g => g2 b g 15 3) (fun β => by simp [BTm.den, Tm.i, Tm.s, Tm.den, env, vInt, vBool, vStr, exI, SW.den, SV.den, Cell.den, densP, Piece.den, denV, hL]) (fun β => by simp [BTm.den, Tm.i, Tm.s, Tm.den, env, vInt, vBool, vStr, exI, SW.den, SV.den, Cell.den, densP, Piece.den, denV, hL]) (fun β => by simp [BTm.den, Tm.i, Tm.s, Tm.den, env, vInt, vBool, vStr, exI, SW.den, SV.den, Cell.den, densP, Piece.den, denV, hL]) (fun β => by simp [BTm.den, Tm.i, Tm.s, Tm.den, env, vInt, vBool, vStr, exI, SW.den, SV.den, Cell.den, densP, Piece.den, denV, hL]) (fun β => by simp [BTm.den, Tm.i, Tm.s, Tm.den, env, vInt, vBool, vStr, exI, SW.den, SV.den, Cell.den, densP, Piece.den, denV, hL]) β hβ) ?_
      refine ev_loop [.int .i64 (J : Nat), Lv, .int .i64 (k0 + 1 + 1 + 2 * J : Nat), .bool false, .agg (mgk 32 M)] rfl rfl hloop ?_
      refine ev_turn [.int .i64 (y), .int .i64 (((k0 + 1 + 1 + 2 * J + 1 : Nat) : Int))] rfl rfl (fun β _ => Given.turns (fun b => #[.pointer (some ⟨b, 0, none⟩), .int .i64 (3)]) (g3) (fun β => by simp [BTm.den, Tm.i, Tm.s, Tm.den, env, vInt, vBool, vStr, exI, SW.den, SV.den, Cell.den, densP, Piece.den, denV, hL]) (fun β => by simp [BTm.den, Tm.i, Tm.s, Tm.den, env, vInt, vBool, vStr, exI, SW.den, SV.den, Cell.den, densP, Piece.den, denV, hL]) (fun β => by simp [BTm.den, Tm.i, Tm.s, Tm.den, env, vInt, vBool, vStr, exI, SW.den, SV.den, Cell.den, densP, Piece.den, denV, hL]) (fun β => by simp [BTm.den, Tm.i, Tm.s, Tm.den, env, vInt, vBool, vStr, exI, SW.den, SV.den, Cell.den, densP, Piece.den, denV, hL]) β) ?_
      refine ev_nil ⟨fun h => tree_leaf ?_, fun h => tree_leaf (ev_nil ?_)⟩
      · refine ev_call [.int .i64 s] rfl rfl (pure_gives (hsg)) (fun β => by simp [BTm.den, Tm.i, Tm.s, Tm.den, env, vInt, vBool, vStr, exI, SW.den, SV.den, Cell.den, densP, Piece.den, denV, rowCells_mgk, iv_list, rv_list, ivZ, rvZ, mgl_agg]) (fun β => by simp [BTm.den, Tm.i, Tm.s, Tm.den, env, vInt, vBool, vStr, exI, SW.den, SV.den, Cell.den, densP, Piece.den, denV, rowCells_mgk, iv_list, rv_list, ivZ, rvZ, mgl_agg]) ?_
        refine ev_nil ⟨.agg (ivZ (vz (!(s == 0)) M)), k0 + 1 + 1 + 2 * J + 1, ⟨_, rfl, by rw [vz_abs]; exact hMb, by omega, by omega⟩, fun β => ?_, _, rfl, fun β => by simp [BTm.den, Tm.i, Tm.s, Tm.den, env, vInt, vBool, vStr, exI, SW.den, SV.den, Cell.den, densP, Piece.den, denV, denT, hL]⟩
        have e : ivZ (vz (!(s == 0)) M) = iv (!(s == 0)) M := by
          unfold ivZ
          rw [vz_abs, vz_lt]
          by_cases h0 : M = 0
          · rw [show (s == 0) = true by simpa using hsz.2 h0]; rfl
          · rw [isz_false h0]; simp
        rw [e]
        simp [BTm.den, Tm.i, Tm.s, Tm.den, env, vInt, vBool, vStr, exI, SW.den, SV.den, Cell.den, densP, Piece.den, denV, denT, rowCells_mgk, iv_list]
      · refine ⟨.agg (ivZ (vz false M)), k0 + 1 + 1 + 2 * J + 1, ⟨_, rfl, by rw [vz_abs]; exact hMb, by omega, by omega⟩, fun β => ?_, _, rfl, fun β => by simp [BTm.den, Tm.i, Tm.s, Tm.den, env, vInt, vBool, vStr, exI, SW.den, SV.den, Cell.den, densP, Piece.den, denV, denT, hL]⟩
        have e : ivZ (vz false M) = iv false M := by
          unfold ivZ
          rw [vz_abs, vz_lt]; rfl
        rw [e]
        simp [BTm.den, Tm.i, Tm.s, Tm.den, env, vInt, vBool, vStr, exI, SW.den, SV.den, Cell.den, densP, Piece.den, denV, denT, rowCells_mgk, iv_list])
  obtain ⟨v, k', ⟨z, rfl, h1, h2, h3⟩, hg⟩ := main
  refine ⟨z, k', h1, h2, h3, fun b => ?_⟩
  have := hg b
  simpa [ptrW, intW, BTm.den, Tm.i, Tm.s, Tm.den, env, vInt, vBool, vStr, exI, SW.den, SV.den, Cell.den, densP, Piece.den, denV, denT, denT] using this
theorem mratio_given [Outer] (Lv : Value) (hL : fix Lv = Lv) (tv : Nat → Int) (ht : Tape Outer.r Lv tv) (k0 : Nat) (hk : k0 + 136 ≤ 1152921504606846976) :
    ∃ (a c x y : Int) (k' : Nat), Qf 200 a c x y ∧ k0 ≤ k' ∧ k' ≤ k0 + 136 ∧ ∀ b, Given Tryz.prog 20 #[.pointer (some ⟨b, 0, none⟩)] b Outer.r Lv k0 k' (.agg (rvZ a c)) := by
  obtain ⟨x, hx, g1⟩ := ht.next1 k0 6 (by omega) (by omega)
  have main := given_of (k := k0) (rest := []) hL tmRatio_ok (by kernel_rfl)
    (fun v k' => ∃ a c x y : Int, v = .agg (rvZ a c) ∧ Qf 200 a c x y ∧ k0 ≤ k' ∧ k' ≤ k0 + 136) (by
      refine tree_ite ?_
      refine ev_turn [.int .i64 (x), .int .i64 (((k0 + 1 : Nat) : Int))] rfl rfl (fun β _ => Given.turns (fun b => #[.pointer (some ⟨b, 0, none⟩), .int .i64 (6)]) (g1) (fun β => by simp [BTm.den, Tm.i, Tm.s, Tm.den, env, vInt, vBool, vStr, exI, SW.den, SV.den, Cell.den, densP, Piece.den, denV, hL]) (fun β => by simp [BTm.den, Tm.i, Tm.s, Tm.den, env, vInt, vBool, vStr, exI, SW.den, SV.den, Cell.den, densP, Piece.den, denV, hL]) (fun β => by simp [BTm.den, Tm.i, Tm.s, Tm.den, env, vInt, vBool, vStr, exI, SW.den, SV.den, Cell.den, densP, Piece.den, denV, hL]) (fun β => by simp [BTm.den, Tm.i, Tm.s, Tm.den, env, vInt, vBool, vStr, exI, SW.den, SV.den, Cell.den, densP, Piece.den, denV, hL]) β) ?_
      refine ev_nil ⟨fun h => tree_ite ?_, fun h => tree_leaf ?_⟩
      · obtain ⟨z1, k1, hz1, hk1, hk1', i1⟩ := mint_given Lv hL tv ht 200 (by omega) (k0 + 1) (by omega)
        obtain ⟨z2, k2, hz2, hk2, hk2', i2⟩ := mint_given Lv hL tv ht 200 (by omega) k1 (by omega)
        have hp : ∀ {n : Nat}, n < 2 ^ 200 → n < pw 32 := fun {n} h => short480 (Nat.le_trans (bl_le h) (by omega))
        have hab := rabs_any (decide (z1 < 0)) z1.natAbs (hp hz1)
        obtain ⟨u, hu⟩ : ∃ u, u = vz false z1.natAbs := ⟨_, rfl⟩
        have hua : u.natAbs = z1.natAbs := by rw [hu, vz_abs]
        have hu0 : 0 ≤ u := by rw [hu]; unfold vz; simp
        rw [← hu] at hab
        have hsg := rsign_any (decide (u < 0)) u.natAbs (by rw [hua]; exact hp hz1)
        have hsz := vsgn_zero (decide (u < 0)) u.natAbs
        obtain ⟨s, hs⟩ : ∃ s, s = sgn (vz (decide (u < 0)) u.natAbs) := ⟨_, rfl⟩
        rw [← hs] at hsg hsz
        refine ev_turn [.bool (decide (z1 < 0)), .agg (mgk 32 (z1 : Int).natAbs), .int .i64 (((k1 : Nat) : Int))] rfl rfl (fun β _ => Given.turns (fun b => #[.pointer (some ⟨b, 0, none⟩), .int .i64 200]) (i1) (fun β => by simp [BTm.den, Tm.i, Tm.s, Tm.den, env, vInt, vBool, vStr, exI, SW.den, SV.den, Cell.den, densP, Piece.den, denV, hL]) (fun β => by simp [BTm.den, Tm.i, Tm.s, Tm.den, env, vInt, vBool, vStr, exI, SW.den, SV.den, Cell.den, densP, Piece.den, denV, hL]) (fun β => by simp [BTm.den, Tm.i, Tm.s, Tm.den, env, vInt, vBool, vStr, exI, SW.den, SV.den, Cell.den, densP, Piece.den, denV, hL]) (fun β => by simp [BTm.den, Tm.i, Tm.s, Tm.den, env, vInt, vBool, vStr, exI, SW.den, SV.den, Cell.den, densP, Piece.den, denV, hL, rowCells_mgk, iv_list, ivZ]) β) ?_
        refine ev_zc [.bool (decide (u < 0)), .agg (mgk 32 (u : Int).natAbs)] (pure_gives (hab)) ?_
        refine ev_zc [.int .i64 s] (pure_gives (hsg)) ?_
        refine ev_nil ⟨fun h => tree_leaf ?_, fun h => tree_leaf ?_⟩
        · have o1 := rfromInt_any 1 (by omega)
          obtain ⟨a, c, he, hq⟩ := q_make z2 1 200 (by omega) hz2 (by decide) (by omega)
          have hm := (make_Z z2 1 (hp hz2) one_lt).2
          rw [he] at hm
          refine ev_call [.bool (decide (1 < 0)), .agg (mgk 32 (1 : Int).natAbs)] rfl rfl (pure_gives o1) (fun β => by simp [BTm.den, Tm.i, Tm.s, Tm.den, env, vInt, vBool, vStr, exI, SW.den, SV.den, Cell.den, densP, Piece.den, denV, denT]) (fun β => by simp [BTm.den, Tm.i, Tm.s, Tm.den, env, vInt, vBool, vStr, exI, SW.den, SV.den, Cell.den, densP, Piece.den, denV, denT, rowCells_mgk, iv_list, ivZ]) ?_
          refine ev_turn [.bool (decide (z2 < 0)), .agg (mgk 32 (z2 : Int).natAbs), .int .i64 (((k2 : Nat) : Int))] rfl rfl (fun β _ => Given.turns (fun b => #[.pointer (some ⟨b, 0, none⟩), .int .i64 200]) (i2) (fun β => by simp [BTm.den, Tm.i, Tm.s, Tm.den, env, vInt, vBool, vStr, exI, SW.den, SV.den, Cell.den, densP, Piece.den, denV, hL]) (fun β => by simp [BTm.den, Tm.i, Tm.s, Tm.den, env, vInt, vBool, vStr, exI, SW.den, SV.den, Cell.den, densP, Piece.den, denV, hL]) (fun β => by simp [BTm.den, Tm.i, Tm.s, Tm.den, env, vInt, vBool, vStr, exI, SW.den, SV.den, Cell.den, densP, Piece.den, denV, hL]) (fun β => by simp [BTm.den, Tm.i, Tm.s, Tm.den, env, vInt, vBool, vStr, exI, SW.den, SV.den, Cell.den, densP, Piece.den, denV, hL, rowCells_mgk, iv_list, ivZ]) β) ?_
          refine ev_zc [.bool (decide (a < 0)), .agg (mgk 32 (a : Int).natAbs), .bool (decide (c < 0)), .agg (mgk 32 (c : Int).natAbs), .int .i64 0] (pure_gives (hm)) ?_
          refine ev_nil ⟨.agg (rvZ a c), k2, ⟨a, c, _, _, rfl, hq, by omega, by omega⟩, fun β => by simp [BTm.den, Tm.i, Tm.s, Tm.den, env, vInt, vBool, vStr, exI, SW.den, SV.den, Cell.den, densP, Piece.den, denV, rowCells_mgk, iv_list, rv_list, ivZ, rvZ, mgl_agg], _, rfl, fun β => by simp [BTm.den, Tm.i, Tm.s, Tm.den, env, vInt, vBool, vStr, exI, SW.den, SV.den, Cell.den, densP, Piece.den, denV, denT, hL]⟩
        · have h : s ≠ 0 := by simpa [BTm.den, Tm.i, Tm.s, Tm.den, env, vInt, vBool, vStr, exI] using h
          have hu1 : u ≠ 0 := fun e => h (hsz.2 (by rw [e]; rfl))
          obtain ⟨a, c, he, hq⟩ := q_make z2 u 200 hu1 hz2 (by rw [hua]; exact hz1) (by omega)
          have hm := (make_Z z2 u (hp hz2) (by rw [hua]; exact hp hz1)).2
          rw [he] at hm
          refine ev_turn [.bool (decide (z2 < 0)), .agg (mgk 32 (z2 : Int).natAbs), .int .i64 (((k2 : Nat) : Int))] rfl rfl (fun β _ => Given.turns (fun b => #[.pointer (some ⟨b, 0, none⟩), .int .i64 200]) (i2) (fun β => by simp [BTm.den, Tm.i, Tm.s, Tm.den, env, vInt, vBool, vStr, exI, SW.den, SV.den, Cell.den, densP, Piece.den, denV, hL]) (fun β => by simp [BTm.den, Tm.i, Tm.s, Tm.den, env, vInt, vBool, vStr, exI, SW.den, SV.den, Cell.den, densP, Piece.den, denV, hL]) (fun β => by simp [BTm.den, Tm.i, Tm.s, Tm.den, env, vInt, vBool, vStr, exI, SW.den, SV.den, Cell.den, densP, Piece.den, denV, hL]) (fun β => by simp [BTm.den, Tm.i, Tm.s, Tm.den, env, vInt, vBool, vStr, exI, SW.den, SV.den, Cell.den, densP, Piece.den, denV, hL, rowCells_mgk, iv_list, ivZ]) β) ?_
          refine ev_zc [.bool (decide (a < 0)), .agg (mgk 32 (a : Int).natAbs), .bool (decide (c < 0)), .agg (mgk 32 (c : Int).natAbs), .int .i64 0] (pure_gives (hm)) ?_
          refine ev_nil ⟨.agg (rvZ a c), k2, ⟨a, c, _, _, rfl, hq, by omega, by omega⟩, fun β => by simp [BTm.den, Tm.i, Tm.s, Tm.den, env, vInt, vBool, vStr, exI, SW.den, SV.den, Cell.den, densP, Piece.den, denV, rowCells_mgk, iv_list, rv_list, ivZ, rvZ, mgl_agg], _, rfl, fun β => by simp [BTm.den, Tm.i, Tm.s, Tm.den, env, vInt, vBool, vStr, exI, SW.den, SV.den, Cell.den, densP, Piece.den, denV, denT, hL]⟩
      · obtain ⟨z1, hz1, g2⟩ := ht.next1 (k0 + 1) 601 (by omega) (by omega)
        obtain ⟨p1, hp1, f1⟩ := ht.pick1 [1, 1, 1, 1000, 1000003] 5 rfl (by omega) (k0 + 1 + 1) (by omega)
        obtain ⟨d1, hd1, f2⟩ := ht.pick1 [1, 1, 2, 3, 4, 7, 10, 12, 100, 365, 366, 1000, 1000000] 13 rfl (by omega) (k0 + 1 + 1 + 1) (by omega)
        have hx1 : -400001200 ≤ (-200 + z1) * p1 ∧ (-200 + z1) * p1 ≤ 400001200 := by
          simp only [List.mem_cons, List.not_mem_nil, or_false] at hp1
          rcases hp1 with h | h | h | h | h <;> rw [h] <;> omega
        have hy1 : 1 ≤ d1 ∧ d1 ≤ 1000000 := by
          simp only [List.mem_cons, List.not_mem_nil, or_false] at hd1
          omega
        obtain ⟨a1, b1, o1, q1⟩ := of_made ((-200 + z1) * p1) d1 40 (by omega) (by omega) (by omega) (by omega) (by omega) (by omega)
        refine ev_turn [.int .i64 (z1), .int .i64 (((k0 + 1 + 1 : Nat) : Int))] rfl rfl (fun β _ => Given.turns (fun b => #[.pointer (some ⟨b, 0, none⟩), .int .i64 (601)]) (g2) (fun β => by simp [BTm.den, Tm.i, Tm.s, Tm.den, env, vInt, vBool, vStr, exI, SW.den, SV.den, Cell.den, densP, Piece.den, denV, hL]) (fun β => by simp [BTm.den, Tm.i, Tm.s, Tm.den, env, vInt, vBool, vStr, exI, SW.den, SV.den, Cell.den, densP, Piece.den, denV, hL]) (fun β => by simp [BTm.den, Tm.i, Tm.s, Tm.den, env, vInt, vBool, vStr, exI, SW.den, SV.den, Cell.den, densP, Piece.den, denV, hL]) (fun β => by simp [BTm.den, Tm.i, Tm.s, Tm.den, env, vInt, vBool, vStr, exI, SW.den, SV.den, Cell.den, densP, Piece.den, denV, hL]) β) ?_
        refine ev_fits (-200 + z1) (by simp [BTm.den, Tm.i, Tm.s, Tm.den, env, vInt, vBool, vStr, exI]) (rng_i64 _ (by omega)) ?_
        refine ev_turn [.int .i64 (p1), .int .i64 (((k0 + 1 + 1 + 1 : Nat) : Int))] rfl rfl (fun β hβ => Given.turns2 (fun b g => #[.pointer (some ⟨b, 0, none⟩), .slice (some ⟨g, 0, none⟩) 5 5]) [.int .i64 1, .int .i64 1, .int .i64 1, .int .i64 1000, .int .i64 1000003] (by decide) (fun b g => f1 b g 5 3) (fun β => by simp [BTm.den, Tm.i, Tm.s, Tm.den, env, vInt, vBool, vStr, exI, SW.den, SV.den, Cell.den, densP, Piece.den, denV, hL]) (fun β => by simp [BTm.den, Tm.i, Tm.s, Tm.den, env, vInt, vBool, vStr, exI, SW.den, SV.den, Cell.den, densP, Piece.den, denV, hL]) (fun β => by simp [BTm.den, Tm.i, Tm.s, Tm.den, env, vInt, vBool, vStr, exI, SW.den, SV.den, Cell.den, densP, Piece.den, denV, hL]) (fun β => by simp [BTm.den, Tm.i, Tm.s, Tm.den, env, vInt, vBool, vStr, exI, SW.den, SV.den, Cell.den, densP, Piece.den, denV, hL]) (fun β => by simp [BTm.den, Tm.i, Tm.s, Tm.den, env, vInt, vBool, vStr, exI, SW.den, SV.den, Cell.den, densP, Piece.den, denV, hL]) β hβ) ?_
        refine ev_fits ((-200 + z1) * p1) (by simp [BTm.den, Tm.i, Tm.s, Tm.den, env, vInt, vBool, vStr, exI]) (rng_i64 _ (by omega)) ?_
        refine ev_turn [.int .i64 (d1), .int .i64 (((k0 + 1 + 1 + 1 + 1 : Nat) : Int))] rfl rfl (fun β hβ => Given.turns2 (fun b g => #[.pointer (some ⟨b, 0, none⟩), .slice (some ⟨g, 0, none⟩) 13 13]) [.int .i64 1, .int .i64 1, .int .i64 2, .int .i64 3, .int .i64 4, .int .i64 7, .int .i64 10, .int .i64 12, .int .i64 100, .int .i64 365, .int .i64 366, .int .i64 1000, .int .i64 1000000] (by decide) (fun b g => f2 b g 13 3) (fun β => by simp [BTm.den, Tm.i, Tm.s, Tm.den, env, vInt, vBool, vStr, exI, SW.den, SV.den, Cell.den, densP, Piece.den, denV, hL]) (fun β => by simp [BTm.den, Tm.i, Tm.s, Tm.den, env, vInt, vBool, vStr, exI, SW.den, SV.den, Cell.den, densP, Piece.den, denV, hL]) (fun β => by simp [BTm.den, Tm.i, Tm.s, Tm.den, env, vInt, vBool, vStr, exI, SW.den, SV.den, Cell.den, densP, Piece.den, denV, hL]) (fun β => by simp [BTm.den, Tm.i, Tm.s, Tm.den, env, vInt, vBool, vStr, exI, SW.den, SV.den, Cell.den, densP, Piece.den, denV, hL]) (fun β => by simp [BTm.den, Tm.i, Tm.s, Tm.den, env, vInt, vBool, vStr, exI, SW.den, SV.den, Cell.den, densP, Piece.den, denV, hL]) β hβ) ?_
        refine ev_zc [.bool (decide (a1 < 0)), .agg (mgk 32 (a1 : Int).natAbs), .bool (decide (b1 < 0)), .agg (mgk 32 (b1 : Int).natAbs)] (pure_gives (o1)) ?_
        refine ev_nil ⟨.agg (rvZ a1 b1), k0 + 1 + 1 + 1 + 1, ⟨a1, b1, _, _, rfl, q1.up (by omega), by omega, by omega⟩, fun β => by simp [BTm.den, Tm.i, Tm.s, Tm.den, env, vInt, vBool, vStr, exI, SW.den, SV.den, Cell.den, densP, Piece.den, denV, rowCells_mgk, iv_list, rv_list, ivZ, rvZ, mgl_agg], _, rfl, fun β => by simp [BTm.den, Tm.i, Tm.s, Tm.den, env, vInt, vBool, vStr, exI, SW.den, SV.den, Cell.den, densP, Piece.den, denV, denT, hL]⟩)
  obtain ⟨v, k', ⟨a, c, x, y, rfl, h1, h2, h3⟩, hg⟩ := main
  refine ⟨a, c, x, y, k', h1, h2, h3, fun b => ?_⟩
  have := hg b
  simpa [ptrW, BTm.den, Tm.i, Tm.s, Tm.den, env, vInt, vBool, vStr, exI, SW.den, SV.den, Cell.den, densP, Piece.den, denV, denT, denT] using this
end Go.Proofs.YtkiefjbfepjcbaaGreatDoor
end
section
namespace Go.Proofs.YtkiefjbfepjcbaaGreatDoor
open Go.RowKit Go.Proofs.YtkiefjbfepjcbaaGreatDoor.Sx
set_option linter.unusedSimpArgs false
set_option linter.unusedVariables false

theorem abs_sign (z : Int) (hz : z.natAbs < pw 32) : ∃ u s : Int, Gives Tryz.prog 69 #[.agg (ivZ z)] (.agg (ivZ u)) ∧ Gives Tryz.prog 54 #[.agg (ivZ u)] (.int .i64 s) ∧ (s = 0 ↔ u = 0) ∧ u.natAbs = z.natAbs := by
  have hab := rabs_any (decide (z < 0)) z.natAbs hz
  have hsg := rsign_any (decide (vz false z.natAbs < 0)) (vz false z.natAbs).natAbs (by rw [vz_abs]; exact hz)
  have hsz := vsgn_zero (decide (vz false z.natAbs < 0)) (vz false z.natAbs).natAbs
  exact ⟨_, _, hab, hsg, hsz.trans (by omega), vz_abs _ _⟩
set_option maxHeartbeats 4000000 in
theorem mlong_given [Outer] (Lv : Value) (hL : fix Lv = Lv) (tv : Nat → Int) (ht : Tape Outer.r Lv tv) (k0 : Nat) (hk : k0 + 600 ≤ 1152921504606846976) :
    ∃ (a c x y : Int) (k' : Nat), Qf 480 a c x y ∧ k0 ≤ k' ∧ k' ≤ k0 + 600 ∧ ∀ b, Given Tryz.prog 26 #[.pointer (some ⟨b, 0, none⟩)] b Outer.r Lv k0 k' (.agg (rvZ a c)) := by
  have hp : ∀ {n : Nat}, n < 2 ^ 480 → n < pw 32 := fun {n} h => short480 (bl_le h)
  have main := given_of (k := k0) (rest := []) hL tmLong_ok (by kernel_rfl)
    (fun v k' => ∃ a c x y : Int, v = .agg (rvZ a c) ∧ Qf 480 a c x y ∧ k0 ≤ k' ∧ k' ≤ k0 + 600) (by
      refine tree_ite ?_
      obtain ⟨z1, k1, hz1, hk1, hk1', i1⟩ := mint_given Lv hL tv ht 480 (by omega) k0 (by omega)
      obtain ⟨u1, s1, ab1, sg1, e1, n1⟩ := abs_sign z1 (hp hz1)
      refine ev_turn [.bool (decide (z1 < 0)), .agg (mgk 32 (z1 : Int).natAbs), .int .i64 (((k1 : Nat) : Int))] rfl rfl (fun β _ => Given.turns (fun b => #[.pointer (some ⟨b, 0, none⟩), .int .i64 480]) (i1) (fun β => by simp [BTm.den, Tm.i, Tm.s, Tm.den, env, vInt, vBool, vStr, exI, SW.den, SV.den, Cell.den, densP, Piece.den, denV, hL]) (fun β => by simp [BTm.den, Tm.i, Tm.s, Tm.den, env, vInt, vBool, vStr, exI, SW.den, SV.den, Cell.den, densP, Piece.den, denV, hL]) (fun β => by simp [BTm.den, Tm.i, Tm.s, Tm.den, env, vInt, vBool, vStr, exI, SW.den, SV.den, Cell.den, densP, Piece.den, denV, hL]) (fun β => by simp [BTm.den, Tm.i, Tm.s, Tm.den, env, vInt, vBool, vStr, exI, SW.den, SV.den, Cell.den, densP, Piece.den, denV, hL, rowCells_mgk, iv_list, ivZ]) β) ?_
      refine ev_zc [.bool (decide (u1 < 0)), .agg (mgk 32 (u1 : Int).natAbs)] (pure_gives (ab1)) ?_
      refine ev_zc [.int .i64 s1] (pure_gives (sg1)) ?_
      refine ev_nil ⟨fun h1 => tree_ite ?_, fun h1 => tree_leaf ?_⟩
      rotate_left
      · have h : s1 ≠ 0 := by simpa [BTm.den, Tm.i, Tm.s, Tm.den, env, vInt, vBool, vStr, exI] using h1
        have hu : u1 ≠ 0 := fun e => h (e1.2 e)
        obtain ⟨z, k', hz, hk, hk', ii⟩ := mint_given Lv hL tv ht 480 (by omega) k1 (by omega)
        obtain ⟨a, c, he, hq⟩ := q_make z u1 480 hu hz (by rw [n1]; exact hz1) (by omega)
        have hm := (make_Z z u1 (hp hz) (by rw [n1]; exact hp hz1)).2
        rw [he] at hm
        refine ev_turn [.bool (decide (z < 0)), .agg (mgk 32 (z : Int).natAbs), .int .i64 (((k' : Nat) : Int))] rfl rfl (fun β _ => Given.turns (fun b => #[.pointer (some ⟨b, 0, none⟩), .int .i64 480]) (ii) (fun β => by simp [BTm.den, Tm.i, Tm.s, Tm.den, env, vInt, vBool, vStr, exI, SW.den, SV.den, Cell.den, densP, Piece.den, denV, hL]) (fun β => by simp [BTm.den, Tm.i, Tm.s, Tm.den, env, vInt, vBool, vStr, exI, SW.den, SV.den, Cell.den, densP, Piece.den, denV, hL]) (fun β => by simp [BTm.den, Tm.i, Tm.s, Tm.den, env, vInt, vBool, vStr, exI, SW.den, SV.den, Cell.den, densP, Piece.den, denV, hL]) (fun β => by simp [BTm.den, Tm.i, Tm.s, Tm.den, env, vInt, vBool, vStr, exI, SW.den, SV.den, Cell.den, densP, Piece.den, denV, hL, rowCells_mgk, iv_list, ivZ]) β) ?_
        refine ev_zc [.bool (decide (a < 0)), .agg (mgk 32 (a : Int).natAbs), .bool (decide (c < 0)), .agg (mgk 32 (c : Int).natAbs), .int .i64 0] (pure_gives (hm)) ?_
        refine ev_nil ⟨.agg (rvZ a c), k', ⟨a, c, _, _, rfl, hq, by omega, by omega⟩, fun β => by simp [BTm.den, Tm.i, Tm.s, Tm.den, env, vInt, vBool, vStr, exI, SW.den, SV.den, Cell.den, densP, Piece.den, denV, rowCells_mgk, iv_list, rv_list, ivZ, rvZ, mgl_agg], _, rfl, fun β => by simp [BTm.den, Tm.i, Tm.s, Tm.den, env, vInt, vBool, vStr, exI, SW.den, SV.den, Cell.den, densP, Piece.den, denV, denT, hL]⟩
      obtain ⟨z2, k2, hz2, hk2, hk2', i2⟩ := mint_given Lv hL tv ht 480 (by omega) k1 (by omega)
      obtain ⟨u2, s2, ab2, sg2, e2, n2⟩ := abs_sign z2 (hp hz2)
      refine ev_turn [.bool (decide (z2 < 0)), .agg (mgk 32 (z2 : Int).natAbs), .int .i64 (((k2 : Nat) : Int))] rfl rfl (fun β _ => Given.turns (fun b => #[.pointer (some ⟨b, 0, none⟩), .int .i64 480]) (i2) (fun β => by simp [BTm.den, Tm.i, Tm.s, Tm.den, env, vInt, vBool, vStr, exI, SW.den, SV.den, Cell.den, densP, Piece.den, denV, hL]) (fun β => by simp [BTm.den, Tm.i, Tm.s, Tm.den, env, vInt, vBool, vStr, exI, SW.den, SV.den, Cell.den, densP, Piece.den, denV, hL]) (fun β => by simp [BTm.den, Tm.i, Tm.s, Tm.den, env, vInt, vBool, vStr, exI, SW.den, SV.den, Cell.den, densP, Piece.den, denV, hL]) (fun β => by simp [BTm.den, Tm.i, Tm.s, Tm.den, env, vInt, vBool, vStr, exI, SW.den, SV.den, Cell.den, densP, Piece.den, denV, hL, rowCells_mgk, iv_list, ivZ]) β) ?_
      refine ev_zc [.bool (decide (u2 < 0)), .agg (mgk 32 (u2 : Int).natAbs)] (pure_gives (ab2)) ?_
      refine ev_zc [.int .i64 s2] (pure_gives (sg2)) ?_
      refine ev_nil ⟨fun h2 => tree_ite ?_, fun h2 => tree_leaf ?_⟩
      rotate_left
      · have h : s2 ≠ 0 := by simpa [BTm.den, Tm.i, Tm.s, Tm.den, env, vInt, vBool, vStr, exI] using h2
        have hu : u2 ≠ 0 := fun e => h (e2.2 e)
        obtain ⟨z, k', hz, hk, hk', ii⟩ := mint_given Lv hL tv ht 480 (by omega) k2 (by omega)
        obtain ⟨a, c, he, hq⟩ := q_make z u2 480 hu hz (by rw [n2]; exact hz2) (by omega)
        have hm := (make_Z z u2 (hp hz) (by rw [n2]; exact hp hz2)).2
        rw [he] at hm
        refine ev_turn [.bool (decide (z < 0)), .agg (mgk 32 (z : Int).natAbs), .int .i64 (((k' : Nat) : Int))] rfl rfl (fun β _ => Given.turns (fun b => #[.pointer (some ⟨b, 0, none⟩), .int .i64 480]) (ii) (fun β => by simp [BTm.den, Tm.i, Tm.s, Tm.den, env, vInt, vBool, vStr, exI, SW.den, SV.den, Cell.den, densP, Piece.den, denV, hL]) (fun β => by simp [BTm.den, Tm.i, Tm.s, Tm.den, env, vInt, vBool, vStr, exI, SW.den, SV.den, Cell.den, densP, Piece.den, denV, hL]) (fun β => by simp [BTm.den, Tm.i, Tm.s, Tm.den, env, vInt, vBool, vStr, exI, SW.den, SV.den, Cell.den, densP, Piece.den, denV, hL]) (fun β => by simp [BTm.den, Tm.i, Tm.s, Tm.den, env, vInt, vBool, vStr, exI, SW.den, SV.den, Cell.den, densP, Piece.den, denV, hL, rowCells_mgk, iv_list, ivZ]) β) ?_
        refine ev_zc [.bool (decide (a < 0)), .agg (mgk 32 (a : Int).natAbs), .bool (decide (c < 0)), .agg (mgk 32 (c : Int).natAbs), .int .i64 0] (pure_gives (hm)) ?_
        refine ev_nil ⟨.agg (rvZ a c), k', ⟨a, c, _, _, rfl, hq, by omega, by omega⟩, fun β => by simp [BTm.den, Tm.i, Tm.s, Tm.den, env, vInt, vBool, vStr, exI, SW.den, SV.den, Cell.den, densP, Piece.den, denV, rowCells_mgk, iv_list, rv_list, ivZ, rvZ, mgl_agg], _, rfl, fun β => by simp [BTm.den, Tm.i, Tm.s, Tm.den, env, vInt, vBool, vStr, exI, SW.den, SV.den, Cell.den, densP, Piece.den, denV, denT, hL]⟩
      obtain ⟨z3, k3, hz3, hk3, hk3', i3⟩ := mint_given Lv hL tv ht 480 (by omega) k2 (by omega)
      obtain ⟨u3, s3, ab3, sg3, e3, n3⟩ := abs_sign z3 (hp hz3)
      refine ev_turn [.bool (decide (z3 < 0)), .agg (mgk 32 (z3 : Int).natAbs), .int .i64 (((k3 : Nat) : Int))] rfl rfl (fun β _ => Given.turns (fun b => #[.pointer (some ⟨b, 0, none⟩), .int .i64 480]) (i3) (fun β => by simp [BTm.den, Tm.i, Tm.s, Tm.den, env, vInt, vBool, vStr, exI, SW.den, SV.den, Cell.den, densP, Piece.den, denV, hL]) (fun β => by simp [BTm.den, Tm.i, Tm.s, Tm.den, env, vInt, vBool, vStr, exI, SW.den, SV.den, Cell.den, densP, Piece.den, denV, hL]) (fun β => by simp [BTm.den, Tm.i, Tm.s, Tm.den, env, vInt, vBool, vStr, exI, SW.den, SV.den, Cell.den, densP, Piece.den, denV, hL]) (fun β => by simp [BTm.den, Tm.i, Tm.s, Tm.den, env, vInt, vBool, vStr, exI, SW.den, SV.den, Cell.den, densP, Piece.den, denV, hL, rowCells_mgk, iv_list, ivZ]) β) ?_
      refine ev_zc [.bool (decide (u3 < 0)), .agg (mgk 32 (u3 : Int).natAbs)] (pure_gives (ab3)) ?_
      refine ev_zc [.int .i64 s3] (pure_gives (sg3)) ?_
      refine ev_nil ⟨fun h3 => tree_ite ?_, fun h3 => tree_leaf ?_⟩
      rotate_left
      · have h : s3 ≠ 0 := by simpa [BTm.den, Tm.i, Tm.s, Tm.den, env, vInt, vBool, vStr, exI] using h3
        have hu : u3 ≠ 0 := fun e => h (e3.2 e)
        obtain ⟨z, k', hz, hk, hk', ii⟩ := mint_given Lv hL tv ht 480 (by omega) k3 (by omega)
        obtain ⟨a, c, he, hq⟩ := q_make z u3 480 hu hz (by rw [n3]; exact hz3) (by omega)
        have hm := (make_Z z u3 (hp hz) (by rw [n3]; exact hp hz3)).2
        rw [he] at hm
        refine ev_turn [.bool (decide (z < 0)), .agg (mgk 32 (z : Int).natAbs), .int .i64 (((k' : Nat) : Int))] rfl rfl (fun β _ => Given.turns (fun b => #[.pointer (some ⟨b, 0, none⟩), .int .i64 480]) (ii) (fun β => by simp [BTm.den, Tm.i, Tm.s, Tm.den, env, vInt, vBool, vStr, exI, SW.den, SV.den, Cell.den, densP, Piece.den, denV, hL]) (fun β => by simp [BTm.den, Tm.i, Tm.s, Tm.den, env, vInt, vBool, vStr, exI, SW.den, SV.den, Cell.den, densP, Piece.den, denV, hL]) (fun β => by simp [BTm.den, Tm.i, Tm.s, Tm.den, env, vInt, vBool, vStr, exI, SW.den, SV.den, Cell.den, densP, Piece.den, denV, hL]) (fun β => by simp [BTm.den, Tm.i, Tm.s, Tm.den, env, vInt, vBool, vStr, exI, SW.den, SV.den, Cell.den, densP, Piece.den, denV, hL, rowCells_mgk, iv_list, ivZ]) β) ?_
        refine ev_zc [.bool (decide (a < 0)), .agg (mgk 32 (a : Int).natAbs), .bool (decide (c < 0)), .agg (mgk 32 (c : Int).natAbs), .int .i64 0] (pure_gives (hm)) ?_
        refine ev_nil ⟨.agg (rvZ a c), k', ⟨a, c, _, _, rfl, hq, by omega, by omega⟩, fun β => by simp [BTm.den, Tm.i, Tm.s, Tm.den, env, vInt, vBool, vStr, exI, SW.den, SV.den, Cell.den, densP, Piece.den, denV, rowCells_mgk, iv_list, rv_list, ivZ, rvZ, mgl_agg], _, rfl, fun β => by simp [BTm.den, Tm.i, Tm.s, Tm.den, env, vInt, vBool, vStr, exI, SW.den, SV.den, Cell.den, densP, Piece.den, denV, denT, hL]⟩
      obtain ⟨z4, k4, hz4, hk4, hk4', i4⟩ := mint_given Lv hL tv ht 480 (by omega) k3 (by omega)
      obtain ⟨u4, s4, ab4, sg4, e4, n4⟩ := abs_sign z4 (hp hz4)
      refine ev_turn [.bool (decide (z4 < 0)), .agg (mgk 32 (z4 : Int).natAbs), .int .i64 (((k4 : Nat) : Int))] rfl rfl (fun β _ => Given.turns (fun b => #[.pointer (some ⟨b, 0, none⟩), .int .i64 480]) (i4) (fun β => by simp [BTm.den, Tm.i, Tm.s, Tm.den, env, vInt, vBool, vStr, exI, SW.den, SV.den, Cell.den, densP, Piece.den, denV, hL]) (fun β => by simp [BTm.den, Tm.i, Tm.s, Tm.den, env, vInt, vBool, vStr, exI, SW.den, SV.den, Cell.den, densP, Piece.den, denV, hL]) (fun β => by simp [BTm.den, Tm.i, Tm.s, Tm.den, env, vInt, vBool, vStr, exI, SW.den, SV.den, Cell.den, densP, Piece.den, denV, hL]) (fun β => by simp [BTm.den, Tm.i, Tm.s, Tm.den, env, vInt, vBool, vStr, exI, SW.den, SV.den, Cell.den, densP, Piece.den, denV, hL, rowCells_mgk, iv_list, ivZ]) β) ?_
      refine ev_zc [.bool (decide (u4 < 0)), .agg (mgk 32 (u4 : Int).natAbs)] (pure_gives (ab4)) ?_
      refine ev_zc [.int .i64 s4] (pure_gives (sg4)) ?_
      refine ev_nil ⟨fun h4 => tree_leaf ?_, fun h4 => tree_leaf ?_⟩
      rotate_left
      · have h : s4 ≠ 0 := by simpa [BTm.den, Tm.i, Tm.s, Tm.den, env, vInt, vBool, vStr, exI] using h4
        have hu : u4 ≠ 0 := fun e => h (e4.2 e)
        obtain ⟨z, k', hz, hk, hk', ii⟩ := mint_given Lv hL tv ht 480 (by omega) k4 (by omega)
        obtain ⟨a, c, he, hq⟩ := q_make z u4 480 hu hz (by rw [n4]; exact hz4) (by omega)
        have hm := (make_Z z u4 (hp hz) (by rw [n4]; exact hp hz4)).2
        rw [he] at hm
        refine ev_turn [.bool (decide (z < 0)), .agg (mgk 32 (z : Int).natAbs), .int .i64 (((k' : Nat) : Int))] rfl rfl (fun β _ => Given.turns (fun b => #[.pointer (some ⟨b, 0, none⟩), .int .i64 480]) (ii) (fun β => by simp [BTm.den, Tm.i, Tm.s, Tm.den, env, vInt, vBool, vStr, exI, SW.den, SV.den, Cell.den, densP, Piece.den, denV, hL]) (fun β => by simp [BTm.den, Tm.i, Tm.s, Tm.den, env, vInt, vBool, vStr, exI, SW.den, SV.den, Cell.den, densP, Piece.den, denV, hL]) (fun β => by simp [BTm.den, Tm.i, Tm.s, Tm.den, env, vInt, vBool, vStr, exI, SW.den, SV.den, Cell.den, densP, Piece.den, denV, hL]) (fun β => by simp [BTm.den, Tm.i, Tm.s, Tm.den, env, vInt, vBool, vStr, exI, SW.den, SV.den, Cell.den, densP, Piece.den, denV, hL, rowCells_mgk, iv_list, ivZ]) β) ?_
        refine ev_zc [.bool (decide (a < 0)), .agg (mgk 32 (a : Int).natAbs), .bool (decide (c < 0)), .agg (mgk 32 (c : Int).natAbs), .int .i64 0] (pure_gives (hm)) ?_
        refine ev_nil ⟨.agg (rvZ a c), k', ⟨a, c, _, _, rfl, hq, by omega, by omega⟩, fun β => by simp [BTm.den, Tm.i, Tm.s, Tm.den, env, vInt, vBool, vStr, exI, SW.den, SV.den, Cell.den, densP, Piece.den, denV, rowCells_mgk, iv_list, rv_list, ivZ, rvZ, mgl_agg], _, rfl, fun β => by simp [BTm.den, Tm.i, Tm.s, Tm.den, env, vInt, vBool, vStr, exI, SW.den, SV.den, Cell.den, densP, Piece.den, denV, denT, hL]⟩
      obtain ⟨a, c, x, y, k5, hq, hk5, hk5', i5⟩ := mratio_given Lv hL tv ht k4 (by omega)
      refine ev_turn [.bool (decide (a < 0)), .agg (mgk 32 (a : Int).natAbs), .bool (decide (c < 0)), .agg (mgk 32 (c : Int).natAbs), .int .i64 (((k5 : Nat) : Int))] rfl rfl (fun β _ => Given.turns (fun b => #[.pointer (some ⟨b, 0, none⟩)]) (i5) (fun β => by simp [BTm.den, Tm.i, Tm.s, Tm.den, env, vInt, vBool, vStr, exI, SW.den, SV.den, Cell.den, densP, Piece.den, denV, hL]) (fun β => by simp [BTm.den, Tm.i, Tm.s, Tm.den, env, vInt, vBool, vStr, exI, SW.den, SV.den, Cell.den, densP, Piece.den, denV, hL]) (fun β => by simp [BTm.den, Tm.i, Tm.s, Tm.den, env, vInt, vBool, vStr, exI, SW.den, SV.den, Cell.den, densP, Piece.den, denV, hL]) (fun β => by simp [BTm.den, Tm.i, Tm.s, Tm.den, env, vInt, vBool, vStr, exI, SW.den, SV.den, Cell.den, densP, Piece.den, denV, hL, rowCells_mgk, rv_list, rvZ]) β) ?_
      refine ev_nil ⟨.agg (rvZ a c), k5, ⟨a, c, _, _, rfl, hq.up (by omega), by omega, by omega⟩, fun β => by simp [BTm.den, Tm.i, Tm.s, Tm.den, env, vInt, vBool, vStr, exI, SW.den, SV.den, Cell.den, densP, Piece.den, denV, rowCells_mgk, iv_list, rv_list, ivZ, rvZ, mgl_agg], _, rfl, fun β => by simp [BTm.den, Tm.i, Tm.s, Tm.den, env, vInt, vBool, vStr, exI, SW.den, SV.den, Cell.den, densP, Piece.den, denV, denT, hL]⟩)
  obtain ⟨v, k', ⟨a, c, x, y, rfl, h1, h2, h3⟩, hg⟩ := main
  refine ⟨a, c, x, y, k', h1, h2, h3, fun b => ?_⟩
  have := hg b
  simpa [ptrW, BTm.den, Tm.i, Tm.s, Tm.den, env, vInt, vBool, vStr, exI, SW.den, SV.den, Cell.den, densP, Piece.den, denV, denT, denT] using this
end Go.Proofs.YtkiefjbfepjcbaaGreatDoor
end
