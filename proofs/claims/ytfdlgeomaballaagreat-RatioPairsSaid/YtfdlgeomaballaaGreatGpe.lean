/- Merged: SxP, Qb, Qk, Qd, Qe, Qf, Qg, Qh, Qi, Ql. -/
import Derived.Test.YtfdlgeomaballaaGreatGpb
import Derived.Test.YtfdlgeomaballaaGreatTypes
import Derived.Test.YtfdlgeomaballaaGreatGpc
import Derived.Test.YtfdlgeomaballaaGreatMul
import Derived.Test.YtfdlgeomaballaaGreatRb
import Derived.Test.YtfdlgeomaballaaGreatWf
import Derived.Test.YtfdlgeomaballaaGreatKr
import Derived.Test.YtfdlgeomaballaaGreatRc
import Derived.Test.YtfdlgeomaballaaGreatRh
import Derived.Test.YtfdlgeomaballaaGreatDiv
import Derived.Test.YtfdlgeomaballaaGreatWd
import Derived.Test.YtfdlgeomaballaaGreatRd
import Derived.Test.YtfdlgeomaballaaGreatRf
import Derived.Test.YtfdlgeomaballaaGreatRg
import Derived.Test.YtfdlgeomaballaaGreatGpd
section
/- Rows of limbs as what terms denote; the program's plain facts. -/
namespace Go.Proofs.YtfdlgeomaballaaGreat
open Go.Proofs.YtfdlgeomaballaaGreat.Sx

namespace Sx
/-- Nothing of the callers is read. -/
instance (priority := low) noOuter : Outer := ⟨[]⟩
/-- A function of plain values. -/
theorem pure_of {P : Program} (hP : Plain P) {cfg : Cfg} {f : FuncId} {args : List SW} {T : Tree Out} (ρ : List Value) (hT : treeOf P cfg f args [] 0 ρ.length = T) (hu : argsUnder args [] ρ.length = true) (v : Value)
    (h : T.den P (fun ρ' ret => ∀ β, ret.val.den (env ρ') β = v) ρ) : Pure P f (denT (env ρ) (fun _ => 0) args) v :=
  fun w => reads_of hP ρ hT hu v h w fun x hx => by cases hx
end Sx
/-! ### Step by step -/
section
variable [Outer]
variable {P : Program} {K : List Value → Prop} {es : List Ev} {ρ ρ' : List Value}
theorem ev_nil (h : K ρ) : evDen P K [] ρ := h
theorem ev_need {b : BTm} (h : b.den (env ρ) = true) (hK : evDen P K es ρ) : evDen P K (.need b :: es) ρ := ⟨h, hK⟩
theorem ev_fits {k : IntKind} {t : Tm} (z : Int) (hz : t.i (env ρ) = z) (h : k.min ≤ z ∧ z ≤ k.max) (hK : evDen P K es ρ) : evDen P K (.fits k t :: es) ρ := ⟨by rw [hz]; exact h, hK⟩
theorem ev_same {t : TypeId} {x y : SV} {i : Nat} (b : Bool) (hρ : ρ ++ [.bool b] = ρ') {u v : Value} (hx : ∀ β, x.den (env ρ) β = u) (hy : ∀ β, y.den (env ρ) β = v) (h : SameFact P t u v b) (hK : evDen P K es ρ') : evDen P K (.same t x y i :: es) ρ :=
  ⟨b, fun β => by rw [hx, hy]; exact h, by rw [hρ]; exact hK⟩
theorem ev_call {f : FuncId} {xs : List SV} {r : SW} {n : Nat} (vs : List Value) (hl : vs.length = n) (hρ : ρ ++ vs = ρ') {args : Array Value} {v : Value} (h : Pure P f args v) (ha : ∀ β, denV (env ρ) β xs = args) (hv : ∀ β, r.den (env ρ') β = v) (hK : evDen P K es ρ') : evDen P K (.call f xs r n :: es) ρ :=
  ⟨vs, hl, fun β => by rw [ha, hρ, hv]; exact h, by rw [hρ]; exact hK⟩
theorem ev_elem {s : Piece} {i : Tm} {e fo : Nat} {ps : List Piece} {n : Nat} (vs : List Value) (hl : vs.length = n) (hρ : ρ ++ vs = ρ') {l m : List Value} {k : Nat} (hi : (i.i (env ρ')).toNat * e + fo = k) (hs : ∀ β, s.den (env ρ') β = l) (hp : ∀ β, densP (env ρ') β ps = m) (h : (l.drop k).take m.length = m) (hK : evDen P K es ρ') :
    evDen P K (.elem s i e fo ps n :: es) ρ :=
  ⟨vs, hl, fun β => by rw [hρ, hi, hs, hp]; exact h, by rw [hρ]; exact hK⟩
theorem ev_put {s : Piece} {i : Tm} {e fo : Nat} {ps : List Piece} {q : Piece} {n : Nat} (vs : List Value) (hl : vs.length = n) (hρ : ρ ++ vs = ρ') {l l' m : List Value} {k : Nat} (hi : (i.i (env ρ')).toNat * e + fo = k) (hs : ∀ β, s.den (env ρ') β = l) (hq : ∀ β, q.den (env ρ') β = l') (hp : ∀ β, densP (env ρ') β ps = m)
    (h : l' = l.take k ++ m ++ l.drop (k + m.length)) (hk : k + m.length ≤ l.length) (hK : evDen P K es ρ') : evDen P K (.put s i e fo ps q n :: es) ρ :=
  ⟨vs, hl, fun β => by rw [hρ, hi, hs, hp, hq]; exact ⟨h, hk⟩, by rw [hρ]; exact hK⟩
theorem ev_turn {nx : Nat} {f : FuncId} {xs : List SV} {p q m : List (Nat × MB)} {r : SW} {n : Nat} (vs : List Value) (hl : vs.length = n) (hρ : ρ ++ vs = ρ') (h : ∀ β, (∀ i ∈ p.map (·.1), ∀ j ∈ p.map (·.1), β i = β j → i = j) → Turns P (env ρ') β nx f (denV (env ρ) β xs) p q m r) (hK : evDen P K es ρ') :
    evDen P K (.turn nx f xs p q m r n :: es) ρ := ⟨vs, hl, fun β hβ => by rw [hρ]; exact h β hβ, by rw [hρ]; exact hK⟩
theorem ev_loop {f k : Nat} {st st' : Sx.St} {x : SExit} {alt : Option (Nat × SExit)} {n : Nat} (vs : List Value) (hl : vs.length = n) (hρ : ρ ++ vs = ρ') (h : Ev.holds P (env ρ') (.loop f k st st' x alt n)) (hK : evDen P K es ρ') : evDen P K (.loop f k st st' x alt n :: es) ρ :=
  ⟨vs, hl, by rw [hρ]; exact h, by rw [hρ]; exact hK⟩
theorem tree_leaf {α : Type} {Q : List Value → α → Prop} {ret : α} (h : evDen P (fun ρ' => Q ρ' ret) es ρ) : (Tree.leaf es ret).den P Q ρ := h
theorem tree_ite {α : Type} {Q : List Value → α → Prop} {c : BTm} {t e : Tree α} (h : evDen P (fun ρ' => (c.den (env ρ') = true → t.den P Q ρ') ∧ (c.den (env ρ') = false → e.den P Q ρ')) es ρ) : (Tree.ite es c t e).den P Q ρ := h
/-- A test whose result is known. -/
theorem way_true {α : Type} {Q : List Value → α → Prop} {c : BTm} {t e : Tree α} (hc : c.den (env ρ) = true) (h : t.den P Q ρ) : (c.den (env ρ) = true → t.den P Q ρ) ∧ (c.den (env ρ) = false → e.den P Q ρ) := ⟨fun _ => h, fun h2 => (by rw [hc] at h2; cases h2)⟩
theorem way_false {α : Type} {Q : List Value → α → Prop} {c : BTm} {t e : Tree α} (hc : c.den (env ρ) = false) (h : e.den P Q ρ) : (c.den (env ρ) = true → t.den P Q ρ) ∧ (c.den (env ρ) = false → e.den P Q ρ) := ⟨fun h2 => (by rw [hc] at h2; cases h2), fun _ => h⟩
end

theorem rng_i64 (z : Int) (h : -9223372036854775808 ≤ z ∧ z ≤ 9223372036854775807) : IntKind.i64.min ≤ z ∧ z ≤ IntKind.i64.max := by simpa [IntKind.min, IntKind.max, IntKind.signed, IntKind.bits] using h
theorem rng_u64 (z : Int) (h : 0 ≤ z ∧ z ≤ 18446744073709551615) : IntKind.u64.min ≤ z ∧ z ≤ IntKind.u64.max := by simpa [IntKind.min, IntKind.max, IntKind.signed, IntKind.bits] using h
theorem rng_u32 (z : Int) (h : 0 ≤ z ∧ z ≤ 4294967295) : IntKind.u32.min ≤ z ∧ z ≤ IntKind.u32.max := by simpa [IntKind.min, IntKind.max, IntKind.signed, IntKind.bits] using h
theorem rng_u8 (z : Int) (h : 0 ≤ z ∧ z ≤ 255) : IntKind.u8.min ≤ z ∧ z ≤ IntKind.u8.max := by simpa [IntKind.min, IntKind.max, IntKind.signed, IntKind.bits] using h
theorem wrap_u32 (n : Nat) : IntKind.u32.wrap ((n : Nat) : Int) = ((n % 4294967296 : Nat) : Int) := by rw [IntKind.wrap_u32]; omega

/-- The limbs of a number, as a list of cells. -/
def mgl (k n : Nat) : List Value := (mgk k n).toList
theorem mgl_length (k n : Nat) : (mgl k n).length = k := by simp [mgl, mgk_size]
theorem fix_lv (n : Nat) : fix (lv n) = lv n := rfl
theorem rowCells_mgk (k n : Nat) : rowCells (.agg (mgk k n)) k = mgl k n := by
  unfold rowCells
  have : ((Value.agg (mgk k n)).cells.toList.map fix) = mgl k n := by
    show (mgk k n).toList.map fix = (mgk k n).toList
    rw [List.map_congr_left (g := id) fun x hx => ?_, List.map_id]
    have : x ∈ mgk k n := by simpa using hx
    obtain ⟨i, hi, rfl⟩ := Array.mem_iff_getElem.1 this
    simp [mgk, fix_lv]
  rw [this, List.take_append_of_le_length (by rw [mgl_length]; exact Nat.le_refl _), List.take_of_length_le (by rw [mgl_length]; exact Nat.le_refl _)]
theorem mgl_get {k n i : Nat} (h : i < k) : (mgl k n)[i]? = some (.int .u32 ((limb n i : Nat) : Int)) := by
  simp only [mgl, Array.getElem?_toList]; exact mgk_get' h
theorem take_one {l : List Value} {i : Nat} {v : Value} (h : l[i]? = some v) : (l.drop i).take 1 = [v] := by
  obtain ⟨hi, rfl⟩ := List.getElem?_eq_some_iff.1 h
  rw [List.drop_eq_getElem_cons hi]; rfl
/-- One limb, read. -/
theorem mgl_elem {k n i : Nat} (h : i < k) : ((mgl k n).drop i).take 1 = [.int .u32 ((limb n i : Nat) : Int)] := take_one (mgl_get h)
/-- One limb, written. -/
theorem mgl_put {k n i v : Nat} {z : Int} (h : i < k) (hz : z = ((v : Nat) : Int)) (hv : v < 4294967296) : mgl k (put n i v) = (mgl k n).take i ++ [.int .u32 z] ++ (mgl k n).drop (i + 1) := by
  have hk : i < (mgk k n).toList.length := by simp [mgk_size, h]
  rw [mgl, ← mgk_put' n v hz hv]
  simp only [Array.toList_setIfInBounds, mgl]
  rw [List.set_eq_take_append_cons_drop, if_pos hk]
  simp
theorem mgl_zero (k : Nat) : mgl k 0 = List.replicate k (.int .u32 0) := by simp [mgl, mgk_zero]
theorem mgl_agg (k n : Nat) : Value.agg (mgl k n).toArray = .agg (mgk k n) := by simp [mgl]
theorem iv_list (s : Bool) (n : Nat) : (Value.bool s :: mgl 32 n).toArray = iv s n := by
  apply Array.toList_inj.1; simp [iv, mgl]
theorem iv_list' (s : Bool) (n : Nat) : (Value.bool s :: (mgl 32 n ++ [])).toArray = iv s n := by rw [List.append_nil]; exact iv_list s n

theorem plain : Plain Tryz.prog where
  names := by
    intro f fn h
    have : (Tryz.prog.funcs.toList.all fun fn => !(fn.name == "runtime.NumGoroutine")) = true := by kernel_rfl
    have h2 := List.all_eq_true.1 this fn (by
      have := Array.mem_of_getElem? h
      simpa using this)
    simpa using h2
  order := by kernel_rfl
theorem pure_gives {f : FuncId} {args : Array Value} {v : Value} (h : Gives Tryz.prog f args v) : Pure Tryz.prog f args v := h
theorem gives_pure {f : FuncId} {args : Array Value} {v : Value} (h : Pure Tryz.prog f args v) : Gives Tryz.prog f args v := h
end Go.Proofs.YtfdlgeomaballaaGreat
end
section
/- The document's own product. -/
namespace Go.Proofs.YtfdlgeomaballaaGreat
open Go.Proofs.YtfdlgeomaballaaGreat.Sx
set_option linter.unusedSimpArgs false
set_option linter.unusedVariables false

theorem shr32 (n : Nat) : shfI .shr .u64 ((n : Nat) : Int) 32 = ((n / 4294967296 : Nat) : Int) := by
  simp only [shfI, IntKind.bits]
  rw [Int.fdiv_eq_ediv_of_nonneg _ (by decide)]
  simp
set_option maxHeartbeats 1000000 in
theorem rmul_inner (s t : Bool) (n m i W : Nat) (hi : i < nl n) (hm : m < pw 32) (hW : W = n % pw i * m) (c' W' : Nat) (hc' : ∀ c V, c < 4294967296 → V < pw (i + nl m) → V + c * pw (i + nl m) = mulV n m i (nl m) → c = c' ∧ V = W') :
    Ev.holds Tryz.prog (env [.bool s, .agg (mgk 32 n), .bool t, .agg (mgk 32 m), .int .i64 (nl n : Nat), .int .i64 (nl m : Nat), .int .i64 (i : Nat), .agg (mgk 64 W), .int .i64 (nl m : Nat), .int .u64 (c' : Nat), .agg (mgk 64 W')]) (.loop 79 1 mulS79_1 mulH79_1 (.exit 2) .none 3) := by
  have h1 := nl_le n
  have h2 := nl_le m
  have hml := nl_lt hm
  refine loop_holds plain (m := 3) (x := .exit 2) (alt := none) [.bool s, .agg (mgk 32 n), .bool t, .agg (mgk 32 m), .int .i64 (nl n : Nat), .int .i64 (nl m : Nat), .int .i64 (i : Nat), .agg (mgk 64 W)] [.int .i64 (nl m : Nat), .int .u64 (c' : Nat), .agg (mgk 64 W')] tMul1_ok tMul1_fine
    (fun vs => ∃ j c V : Nat, j ≤ nl m ∧ c < 4294967296 ∧ V + c * pw (i + j) = mulV n m i j ∧ V < pw (i + nl m) ∧ vs = [.int .i64 (j : Nat), .int .u64 (c : Nat), .agg (mgk 64 V)])
    (fun vs => nl m - (vInt (vs.getD 0 undef)).toNat) tMul1_diff ?_ ?_
  · refine ⟨[.int .i64 (0 : Nat), .int .u64 (0 : Nat), .agg (mgk 64 W)], rfl, ⟨0, 0, W, by omega, by omega, ?_, ?_, rfl⟩, ?_⟩
    · rw [mulV_zero, hW]; omega
    · rw [hW]; exact mul_small hml
    · simp [tMul1_d, BTm.den, Tm.i, Tm.s, Tm.den, env, vInt, vBool, vStr, exI, SW.den, SV.den, Cell.den, densP, Piece.den, denV, denT]
  · rintro vs hl ⟨j, c, V, hj, hc, hV, hVb, rfl⟩
    clear hl
    refine tree_ite (ev_nil ⟨fun hlt => tree_leaf ?_, fun hlt => tree_leaf (ev_nil ?_)⟩)
    · have hlt : j < nl m := by simpa [BTm.den, Tm.i, Tm.s, Tm.den, env, vInt, vBool, vStr, exI] using hlt
      have hx := limb_lt n i
      have hy := limb_lt m j
      have hz := limb_lt V (i + j)
      have hT := mulT_lt (a := n) (b := m) (i := i) (j := j) (W := V) hc
      have hxy := mul_bound _ _ hx hy
      have hTd : mulT n m i j V c = c + (limb n i * limb m j + limb V (i + j)) := rfl
      have hTc : ((limb n i : Int) * (limb m j : Int) + (limb V (i + j) : Int) + (c : Int)) = ((mulT n m i j V c : Nat) : Int) := by rw [hTd]; push_cast; omega
      refine ev_need (by simp [BTm.den, Tm.i, Tm.s, Tm.den, env, vInt, vBool, vStr, exI] <;> omega) ?_
      refine ev_need (by simp [BTm.den, Tm.i, Tm.s, Tm.den, env, vInt, vBool, vStr, exI] <;> omega) ?_
      refine ev_elem [.int .u32 (limb n i : Nat)] rfl rfl (l := mgl 32 n) (m := [.int .u32 (limb n i : Nat)]) (k := i) (by simp [BTm.den, Tm.i, Tm.s, Tm.den, env, vInt, vBool, vStr, exI] <;> omega) (fun β => rowCells_mgk 32 n) (fun β => rfl) (mgl_elem (by omega)) ?_
      refine ev_fits ((limb n i : Nat)) (by simp [BTm.den, Tm.i, Tm.s, Tm.den, env, vInt, vBool, vStr, exI]) (rng_u64 _ (by omega)) ?_
      refine ev_need (by simp [BTm.den, Tm.i, Tm.s, Tm.den, env, vInt, vBool, vStr, exI] <;> omega) ?_
      refine ev_need (by simp [BTm.den, Tm.i, Tm.s, Tm.den, env, vInt, vBool, vStr, exI] <;> omega) ?_
      refine ev_elem [.int .u32 (limb m j : Nat)] rfl rfl (l := mgl 32 m) (m := [.int .u32 (limb m j : Nat)]) (k := j) (by simp [BTm.den, Tm.i, Tm.s, Tm.den, env, vInt, vBool, vStr, exI] <;> omega) (fun β => rowCells_mgk 32 m) (fun β => rfl) (mgl_elem (by omega)) ?_
      refine ev_fits ((limb m j : Nat)) (by simp [BTm.den, Tm.i, Tm.s, Tm.den, env, vInt, vBool, vStr, exI]) (rng_u64 _ (by omega)) ?_
      refine ev_fits (((limb n i * limb m j : Nat) : Int)) (by simp [BTm.den, Tm.i, Tm.s, Tm.den, env, vInt, vBool, vStr, exI]) (rng_u64 _ (by omega)) ?_
      refine ev_fits (((i + j : Nat) : Int)) (by simp [BTm.den, Tm.i, Tm.s, Tm.den, env, vInt, vBool, vStr, exI]) (rng_i64 _ (by omega)) ?_
      refine ev_need (by simp [BTm.den, Tm.i, Tm.s, Tm.den, env, vInt, vBool, vStr, exI] <;> omega) ?_
      refine ev_need (by simp [BTm.den, Tm.i, Tm.s, Tm.den, env, vInt, vBool, vStr, exI] <;> omega) ?_
      refine ev_elem [.int .u32 (limb V (i + j) : Nat)] rfl rfl (l := mgl 64 V) (m := [.int .u32 (limb V (i + j) : Nat)]) (k := i + j) (by simp [BTm.den, Tm.i, Tm.s, Tm.den, env, vInt, vBool, vStr, exI] <;> omega) (fun β => rowCells_mgk 64 V) (fun β => rfl) (mgl_elem (by omega)) ?_
      refine ev_fits ((limb V (i + j) : Nat)) (by simp [BTm.den, Tm.i, Tm.s, Tm.den, env, vInt, vBool, vStr, exI]) (rng_u64 _ (by omega)) ?_
      refine ev_fits (((limb n i * limb m j + limb V (i + j) : Nat) : Int)) (by simp [BTm.den, Tm.i, Tm.s, Tm.den, env, vInt, vBool, vStr, exI]) (rng_u64 _ (by omega)) ?_
      refine ev_fits ((mulT n m i j V c : Nat) : Int) (by simpa [BTm.den, Tm.i, Tm.s, Tm.den, env, vInt, vBool, vStr, exI] using hTc) (rng_u64 _ (by omega)) ?_
      refine ev_fits (((i + j : Nat) : Int)) (by simp [BTm.den, Tm.i, Tm.s, Tm.den, env, vInt, vBool, vStr, exI]) (rng_i64 _ (by omega)) ?_
      refine ev_need (by simp [BTm.den, Tm.i, Tm.s, Tm.den, env, vInt, vBool, vStr, exI] <;> omega) ?_
      refine ev_need (by simp [BTm.den, Tm.i, Tm.s, Tm.den, env, vInt, vBool, vStr, exI] <;> omega) ?_
      have hput : (mgl 64 V).take (i + j) ++ [.int .u32 ((mulT n m i j V c % 4294967296 : Nat) : Int)] ++ (mgl 64 V).drop (i + j + 1) = mgl 64 (put V (i + j) (mulT n m i j V c % 4294967296)) := (mgl_put (by omega) rfl (by omega)).symm
      refine ev_put [.agg (mgk 64 (put V (i + j) (mulT n m i j V c % 4294967296)))] rfl rfl (l := mgl 64 V) (l' := mgl 64 (put V (i + j) (mulT n m i j V c % 4294967296))) (m := [.int .u32 ((mulT n m i j V c % 4294967296 : Nat) : Int)]) (k := i + j) (by simp [BTm.den, Tm.i, Tm.s, Tm.den, env, vInt, vBool, vStr, exI]; omega) (fun β => rowCells_mgk 64 V) (fun β => rowCells_mgk 64 _) (fun β => ?_) hput.symm (by rw [mgl_length]; simp; omega) ?_
      · rw [← wrap_u32, ← hTc]; simp [BTm.den, Tm.i, Tm.s, Tm.den, env, vInt, vBool, vStr, exI, SW.den, SV.den, Cell.den, densP, Piece.den, denV, denT]
      refine ev_fits (((j + 1 : Nat) : Int)) (by simp [BTm.den, Tm.i, Tm.s, Tm.den, env, vInt, vBool, vStr, exI]) (rng_i64 _ (by omega)) ?_
      refine ev_nil ?_
      refine ⟨[.int .i64 (j + 1 : Nat), .int .u64 (mulT n m i j V c / 4294967296 : Nat), .agg (mgk 64 (put V (i + j) (mulT n m i j V c % 4294967296)))], rfl, ⟨j + 1, _, _, by omega, hT.2, mul_step hV, put_lt hVb (by omega) (by omega), rfl⟩, ?_, ?_⟩
      · simp [vInt]; omega
      · have hsh := shr32 (mulT n m i j V c)
        rw [← hTc] at hsh
        simp [BTm.den, Tm.i, Tm.s, Tm.den, env, vInt, vBool, vStr, exI, SW.den, SV.den, Cell.den, densP, Piece.den, denV, denT, hsh]
    · have hlt : ¬ j < nl m := by simpa [BTm.den, Tm.i, Tm.s, Tm.den, env, vInt, vBool, vStr, exI] using hlt
      have hjm : j = nl m := by omega
      subst hjm
      obtain ⟨rfl, rfl⟩ := hc' c V hc hVb hV
      exact ⟨rfl, by simp [BTm.den, Tm.i, Tm.s, Tm.den, env, vInt, vBool, vStr, exI, SW.den, SV.den, Cell.den, densP, Piece.den, denV, denT]⟩

/-- What the loop over one limb ends with. -/
theorem mul_carry {n m i : Nat} (hm : m < pw (nl m)) (c V : Nat) (hc : c < 4294967296) (hV : V < pw (i + nl m)) (h : V + c * pw (i + nl m) = mulV n m i (nl m)) : c = n % pw (i + 1) * m / pw (i + nl m) ∧ V = n % pw (i + 1) * m % pw (i + nl m) := by
  rw [mulV_round hm] at h
  have hp := pw_pos (i + nl m)
  rw [← h]
  constructor
  · rw [Nat.add_mul_div_right _ _ hp, Nat.div_eq_of_lt hV, Nat.zero_add]
  · rw [Nat.add_mul_mod_self_right, Nat.mod_eq_of_lt hV]
set_option maxHeartbeats 1000000 in
theorem rmul_outer (s t : Bool) (n m : Nat) (hn : n < pw 32) (hm : m < pw 32) :
    Ev.holds Tryz.prog (env [.bool s, .agg (mgk 32 n), .bool t, .agg (mgk 32 m), .int .i64 (nl n : Nat), .int .i64 (nl m : Nat), .int .i64 (nl n : Nat), .agg (mgk 64 (n * m))]) (.loop 79 0 mulS79_0 mulH79_0 (.exit 0) .none 2) := by
  have h1 := nl_le n
  have h2 := nl_le m
  have hml := nl_lt hm
  have hnl := nl_lt hn
  refine loop_holds plain (m := 2) (x := .exit 0) (alt := none) [.bool s, .agg (mgk 32 n), .bool t, .agg (mgk 32 m), .int .i64 (nl n : Nat), .int .i64 (nl m : Nat)] [.int .i64 (nl n : Nat), .agg (mgk 64 (n * m))] tMul0_ok tMul0_fine
    (fun vs => ∃ i : Nat, i ≤ nl n ∧ vs = [.int .i64 (i : Nat), .agg (mgk 64 (n % pw i * m))])
    (fun vs => nl n - (vInt (vs.getD 0 undef)).toNat) tMul0_diff ?_ ?_
  · refine ⟨[.int .i64 (0 : Nat), .agg (mgk 64 (n % pw 0 * m))], rfl, ⟨0, by omega, rfl⟩, ?_⟩
    have hz : rowCells (.agg (mgk 64 (n % pw 0 * m))) 64 = List.replicate 64 (.int .u32 0) := by rw [rowCells_mgk, mod_pw_zero, Nat.zero_mul, mgl_zero]
    simp [tMul0_d, BTm.den, Tm.i, Tm.s, Tm.den, env, vInt, vBool, vStr, exI, SW.den, SV.den, Cell.den, densP, Piece.den, denV, denT, hz]
  · rintro vs hl ⟨i, hi, rfl⟩
    clear hl
    refine tree_ite (ev_nil ⟨fun hlt => tree_leaf ?_, fun hlt => tree_leaf (ev_nil ?_)⟩)
    · have hlt : i < nl n := by simpa [BTm.den, Tm.i, Tm.s, Tm.den, env, vInt, vBool, vStr, exI] using hlt
      obtain ⟨C, V0, hC, hV0, hput0, hcr⟩ : ∃ C V0 : Nat, C < 4294967296 ∧ V0 < pw (i + nl m) ∧ put V0 (i + nl m) C = n % pw (i + 1) * m ∧ ∀ c V, c < 4294967296 → V < pw (i + nl m) → V + c * pw (i + nl m) = mulV n m i (nl m) → c = C ∧ V = V0 := by
        refine ⟨n % pw (i + 1) * m / pw (i + nl m), n % pw (i + 1) * m % pw (i + nl m), ?_, Nat.mod_lt _ (pw_pos _), ?_, mul_carry hml⟩
        · have := mul_small (a := n) (i := i + 1) hml
          rw [show i + 1 + nl m = i + nl m + 1 by omega, pw_succ] at this
          exact Nat.div_lt_of_lt_mul this
        · rw [put_low _ (Nat.mod_lt _ (pw_pos _)), Nat.mul_comm (_ / _)]; exact Nat.mod_add_div _ _
      obtain ⟨R, hR⟩ : ∃ R, R = n % pw (i + 1) * m := ⟨_, rfl⟩
      have hin := rmul_inner s t n m i (n % pw i * m) hlt hm rfl C V0 hcr
      obtain ⟨W, hW⟩ : ∃ W, W = n % pw i * m := ⟨_, rfl⟩
      rw [← hW] at hin ⊢
      rw [← hR] at hput0
      refine ev_loop [.int .i64 (nl m : Nat), .int .u64 (C : Nat), .agg (mgk 64 V0)] rfl rfl hin ?_
      refine ev_fits (((i + nl m : Nat) : Int)) (by simp [BTm.den, Tm.i, Tm.s, Tm.den, env, vInt, vBool, vStr, exI]) (rng_i64 _ (by omega)) ?_
      refine ev_need (by simp [BTm.den, Tm.i, Tm.s, Tm.den, env, vInt, vBool, vStr, exI] <;> omega) ?_
      refine ev_need (by simp [BTm.den, Tm.i, Tm.s, Tm.den, env, vInt, vBool, vStr, exI] <;> omega) ?_
      have hput : (mgl 64 V0).take (i + nl m) ++ [.int .u32 ((C : Nat) : Int)] ++ (mgl 64 V0).drop (i + nl m + 1) = mgl 64 R := by
        rw [← mgl_put (n := V0) (show i + nl m < 64 by omega) rfl hC, hput0]
      refine ev_put [.agg (mgk 64 R)] rfl rfl (l := mgl 64 V0) (l' := mgl 64 R) (m := [.int .u32 ((C : Nat) : Int)]) (k := i + nl m) (by simp [BTm.den, Tm.i, Tm.s, Tm.den, env, vInt, vBool, vStr, exI] <;> omega) (fun β => rowCells_mgk 64 _) (fun β => rowCells_mgk 64 _) (fun β => ?_) hput.symm (by rw [mgl_length]; simp; omega) ?_
      · have := wrap_u32 C
        rw [Nat.mod_eq_of_lt hC] at this
        simp [BTm.den, Tm.i, Tm.s, Tm.den, env, vInt, vBool, vStr, exI, SW.den, SV.den, Cell.den, densP, Piece.den, denV, denT, this]
      refine ev_fits (((i + 1 : Nat) : Int)) (by simp [BTm.den, Tm.i, Tm.s, Tm.den, env, vInt, vBool, vStr, exI]) (rng_i64 _ (by omega)) ?_
      refine ev_nil ⟨[.int .i64 (i + 1 : Nat), .agg (mgk 64 R)], rfl, ⟨i + 1, by omega, by rw [hR]⟩, ?_, ?_⟩
      · simp [vInt]; omega
      · simp [BTm.den, Tm.i, Tm.s, Tm.den, env, vInt, vBool, vStr, exI, SW.den, SV.den, Cell.den, densP, Piece.den, denV, denT]
    · have hlt : ¬ i < nl n := by simpa [BTm.den, Tm.i, Tm.s, Tm.den, env, vInt, vBool, vStr, exI] using hlt
      have hjm : i = nl n := by omega
      subst hjm
      refine ⟨rfl, ?_⟩
      have : n % pw (nl n) * m = n * m := mul_end hnl
      simp [BTm.den, Tm.i, Tm.s, Tm.den, env, vInt, vBool, vStr, exI, SW.den, SV.den, Cell.den, densP, Piece.den, denV, denT, this]

set_option maxHeartbeats 1000000 in
theorem rmul_last (s t : Bool) (n m V k : Nat) (e : Int) (b : Bool) (hk : (b = false ∧ k = 32 ∧ e = 0 ∧ ∀ j, j < 32 → limb V (32 + j) = 0) ∨ (b = true ∧ k < 32 ∧ e = 10 ∧ (∀ j, j < k → limb V (32 + j) = 0) ∧ limb V (32 + k) ≠ 0)) :
    Ev.holds Tryz.prog (env [.bool s, .agg (mgk 32 n), .bool t, .agg (mgk 32 m), .int .i64 (nl n : Nat), .int .i64 (nl m : Nat), .int .i64 (nl n : Nat), .agg (mgk 64 V), .int .i64 (k : Nat), .int .i64 e, .agg (mgk 32 (V % pw k)), .bool b]) (.loop 79 2 mulS79_2 mulH79_2 (.exit 4) (.some (11, .ret)) 4) := by
  refine loop_holds plain (m := 4) (x := .exit 4) (alt := .some (11, .ret)) [.bool s, .agg (mgk 32 n), .bool t, .agg (mgk 32 m), .int .i64 (nl n : Nat), .int .i64 (nl m : Nat), .int .i64 (nl n : Nat), .agg (mgk 64 V)] [.int .i64 (k : Nat), .int .i64 e, .agg (mgk 32 (V % pw k)), .bool b] tMul2_ok tMul2_fine
    (fun vs => ∃ i : Nat, i ≤ 32 ∧ (∀ j, j < i → limb V (32 + j) = 0) ∧ vs = [.int .i64 (i : Nat), .int .i64 0, .agg (mgk 32 (V % pw i)), .bool false])
    (fun vs => 32 - (vInt (vs.getD 0 undef)).toNat) tMul2_diff ?_ ?_
  · refine ⟨[.int .i64 (0 : Nat), .int .i64 0, .agg (mgk 32 (V % pw 0)), .bool false], rfl, ⟨0, by omega, fun j hj => by omega, rfl⟩, ?_⟩
    have hz : rowCells (.agg (mgk 32 (V % pw 0))) 32 = List.replicate 32 (.int .u32 0) := by rw [rowCells_mgk, mod_pw_zero, mgl_zero]
    simp [tMul2_d, BTm.den, Tm.i, Tm.s, Tm.den, env, vInt, vBool, vStr, exI, SW.den, SV.den, Cell.den, densP, Piece.den, denV, denT, hz]
  · rintro vs hl ⟨i, hi, hz, rfl⟩
    clear hl
    refine tree_ite (ev_nil ⟨fun hlt => tree_ite ?_, fun hlt => tree_leaf (ev_nil ?_)⟩)
    · have hlt : i < 32 := by
        have : (i : Int) < 32 := by simpa [BTm.den, Tm.i, Tm.s, Tm.den, env, vInt, vBool, vStr, exI] using hlt
        omega
      refine ev_fits (((32 + i : Nat) : Int)) (by simp [BTm.den, Tm.i, Tm.s, Tm.den, env, vInt, vBool, vStr, exI]) (rng_i64 _ (by omega)) ?_
      refine ev_need (by simp [BTm.den, Tm.i, Tm.s, Tm.den, env, vInt, vBool, vStr, exI] <;> omega) ?_
      refine ev_need (by simp [BTm.den, Tm.i, Tm.s, Tm.den, env, vInt, vBool, vStr, exI] <;> omega) ?_
      refine ev_elem [.int .u32 (limb V (32 + i) : Nat)] rfl rfl (l := mgl 64 V) (m := [.int .u32 (limb V (32 + i) : Nat)]) (k := 32 + i) (by simp [BTm.den, Tm.i, Tm.s, Tm.den, env, vInt, vBool, vStr, exI] <;> omega) (fun β => rowCells_mgk 64 V) (fun β => rfl) (mgl_elem (by omega)) ?_
      refine ev_nil ⟨fun h0 => tree_leaf ?_, fun h0 => tree_leaf (ev_nil ?_)⟩
      · have h0 : limb V (32 + i) = 0 := by
          have : ((limb V (32 + i) : Nat) : Int) = 0 := by simpa [BTm.den, Tm.i, Tm.s, Tm.den, env, vInt, vBool, vStr, exI] using h0
          omega
        have hb := limb_lt V i
        refine ev_need (by simp [BTm.den, Tm.i, Tm.s, Tm.den, env, vInt, vBool, vStr, exI] <;> omega) ?_
        refine ev_need (by simp [BTm.den, Tm.i, Tm.s, Tm.den, env, vInt, vBool, vStr, exI] <;> omega) ?_
        refine ev_elem [.int .u32 (limb V i : Nat)] rfl rfl (l := mgl 64 V) (m := [.int .u32 (limb V i : Nat)]) (k := i) (by simp [BTm.den, Tm.i, Tm.s, Tm.den, env, vInt, vBool, vStr, exI] <;> omega) (fun β => rowCells_mgk 64 V) (fun β => rfl) (mgl_elem (by omega)) ?_
        refine ev_need (by simp [BTm.den, Tm.i, Tm.s, Tm.den, env, vInt, vBool, vStr, exI] <;> omega) ?_
        refine ev_need (by simp [BTm.den, Tm.i, Tm.s, Tm.den, env, vInt, vBool, vStr, exI] <;> omega) ?_
        obtain ⟨W, hW⟩ : ∃ W, W = V % pw i := ⟨_, rfl⟩
        obtain ⟨W', hW'⟩ : ∃ W, W = V % pw (i + 1) := ⟨_, rfl⟩
        have hput : mgl 32 W' = (mgl 32 W).take i ++ [.int .u32 ((limb V i : Nat) : Int)] ++ (mgl 32 W).drop (i + 1) := by
          rw [← mgl_put (n := W) (show i < 32 by omega) rfl hb, put_low _ (by rw [hW]; exact Nat.mod_lt _ (pw_pos i)), hW', hW, mod_pw]
        rw [← hW]
        refine ev_put [.agg (mgk 32 W')] rfl rfl (l := mgl 32 W) (l' := mgl 32 W') (m := [.int .u32 ((limb V i : Nat) : Int)]) (k := i) (by simp [BTm.den, Tm.i, Tm.s, Tm.den, env, vInt, vBool, vStr, exI] <;> omega) (fun β => rowCells_mgk 32 _) (fun β => rowCells_mgk 32 _) (fun β => rfl) hput (by rw [mgl_length]; simp; omega) ?_
        refine ev_fits (((i + 1 : Nat) : Int)) (by simp [BTm.den, Tm.i, Tm.s, Tm.den, env, vInt, vBool, vStr, exI]) (rng_i64 _ (by omega)) ?_
        refine ev_nil ⟨[.int .i64 (i + 1 : Nat), .int .i64 0, .agg (mgk 32 W'), .bool false], rfl, ⟨i + 1, by omega, fun j hj => ?_, by rw [hW']⟩, ?_, ?_⟩
        · by_cases hji : j = i
          · subst hji; exact h0
          · exact hz j (by omega)
        · simp [vInt]; omega
        · simp [BTm.den, Tm.i, Tm.s, Tm.den, env, vInt, vBool, vStr, exI, SW.den, SV.den, Cell.den, densP, Piece.den, denV, denT]
      · have h0 : limb V (32 + i) ≠ 0 := by
          intro hc
          have : ¬ ((limb V (32 + i) : Nat) : Int) = 0 := by simpa [BTm.den, Tm.i, Tm.s, Tm.den, env, vInt, vBool, vStr, exI] using h0
          omega
        rcases hk with ⟨_, _, _, ha⟩ | ⟨rfl, hk, rfl, ha, hb⟩
        · exact absurd (ha i hlt) h0
        · have hik : i = k := by
            rcases Nat.lt_trichotomy i k with h | h | h
            · exact absurd (ha i h) h0
            · exact h
            · exact absurd (hz k h) hb
          subst hik
          exact ⟨rfl, by simp [BTm.den, Tm.i, Tm.s, Tm.den, env, vInt, vBool, vStr, exI, SW.den, SV.den, Cell.den, densP, Piece.den, denV, denT]⟩
    · have hi32 : i = 32 := by
        have : ¬ (i : Int) < 32 := by simpa [BTm.den, Tm.i, Tm.s, Tm.den, env, vInt, vBool, vStr, exI] using hlt
        omega
      subst hi32
      rcases hk with ⟨rfl, rfl, rfl, ha⟩ | ⟨rfl, hk, rfl, ha, hb⟩
      · exact ⟨rfl, by simp [BTm.den, Tm.i, Tm.s, Tm.den, env, vInt, vBool, vStr, exI, SW.den, SV.den, Cell.den, densP, Piece.den, denV, denT]⟩
      · exact absurd (hz k hk) hb

theorem up_zero {V : Nat} (hV : V < pw 64) (h : ∀ j, j < 32 → limb V (32 + j) = 0) : V < pw 32 := by
  have h0 : V / pw 32 = 0 := limb_ext (k := 32) (by rw [Nat.div_lt_iff_lt_mul (pw_pos _), ← pw_add]; exact hV) (pw_pos 32) fun j hj => by rw [← limb_up, h j hj, limb_zero]
  have := Nat.div_add_mod V (pw 32)
  rw [h0] at this
  have := Nat.mod_lt V (pw_pos 32)
  omega
theorem first_up (V : Nat) : ∀ K, (∀ j, j < K → limb V (32 + j) = 0) ∨ ∃ k, k < K ∧ (∀ j, j < k → limb V (32 + j) = 0) ∧ limb V (32 + k) ≠ 0
  | 0 => .inl fun j hj => by omega
  | K + 1 => by
    rcases first_up V K with h | ⟨k, h1, h2, h3⟩
    · by_cases hz : limb V (32 + K) = 0
      · refine .inl fun j hj => ?_
        by_cases hjk : j = K
        · subst hjk; exact hz
        · exact h j (by omega)
      · exact .inr ⟨K, by omega, h, hz⟩
    · exact .inr ⟨k, by omega, h2, h3⟩
theorem rvz_mul (s t : Bool) (n m : Nat) : vz s n * vz t m = vz (s != t) (n * m) := by
  unfold vz; cases s <;> cases t <;> simp [Int.neg_mul, Int.mul_neg]
set_option maxHeartbeats 1000000 in
theorem rmul_any (s t : Bool) (n m : Nat) (hn : n < pw 32) (hm : m < pw 32) : Gives Tryz.prog 79 #[.agg (iv s n), .agg (iv t m)] (resZ (vz s n * vz t m)) := by
  have hV : n * m < pw 64 := by
    rw [show (64 : Nat) = 32 + 32 by rfl, pw_add]
    exact Nat.mul_lt_mul_of_lt_of_le hn (Nat.le_of_lt hm) (pw_pos 32)
  have hlim : ∀ j, 0 ≤ j → n * m < pw 32 → limb (n * m) (32 + j) = 0 := fun j _ h => limb_of_ge (Nat.lt_of_lt_of_le h (pw_le (by omega)))
  have main : ∀ v, (∀ W : Nat, True) → v = resZ (vz s n * vz t m) → (tMul.den Tryz.prog (fun ρ' ret => ∀ β, ret.val.den (env ρ') β = v) [.bool s, .agg (mgk 32 n), .bool t, .agg (mgk 32 m)]) := by
    intro v _ hv
    refine tree_ite ?_
    refine ev_call [.int .i64 (nl n : Nat)] rfl rfl (pure_gives (rlimbs_any n)) (fun β => by simp [BTm.den, Tm.i, Tm.s, Tm.den, env, vInt, vBool, vStr, exI, SW.den, SV.den, Cell.den, densP, Piece.den, denV, rowCells_mgk, iv_list, mgl_agg]) (fun β => by simp [BTm.den, Tm.i, Tm.s, Tm.den, env, vInt, vBool, vStr, exI, SW.den, SV.den, Cell.den, densP, Piece.den, denV, rowCells_mgk, iv_list, mgl_agg]) ?_
    refine ev_call [.int .i64 (nl m : Nat)] rfl rfl (pure_gives (rlimbs_any m)) (fun β => by simp [BTm.den, Tm.i, Tm.s, Tm.den, env, vInt, vBool, vStr, exI, SW.den, SV.den, Cell.den, densP, Piece.den, denV, rowCells_mgk, iv_list, mgl_agg]) (fun β => by simp [BTm.den, Tm.i, Tm.s, Tm.den, env, vInt, vBool, vStr, exI, SW.den, SV.den, Cell.den, densP, Piece.den, denV, rowCells_mgk, iv_list, mgl_agg]) ?_
    refine ev_loop [.int .i64 (nl n : Nat), .agg (mgk 64 (n * m))] rfl rfl (rmul_outer s t n m hn hm) ?_
    rw [rvz_mul] at hv
    rcases first_up (n * m) 32 with h | ⟨k, h1, h2, h3⟩
    · have hfit := up_zero hV h
      have hmod : n * m % pw 32 = n * m := Nat.mod_eq_of_lt hfit
      refine ev_loop [.int .i64 (32 : Nat), .int .i64 0, .agg (mgk 32 (n * m % pw 32)), .bool false] rfl rfl (rmul_last s t n m (n * m) 32 0 false (.inl ⟨rfl, rfl, rfl, h⟩)) ?_
      rw [hmod]
      rw [resZ_fits (by rw [vz_abs]; exact hfit)] at hv
      refine ev_nil (way_false (by simp [BTm.den, Tm.i, Tm.s, Tm.den, env, vInt, vBool, vStr, exI]) (tree_ite (ev_nil ⟨fun ht => tree_leaf ?_, fun ht => tree_leaf ?_⟩)))
      · have ht : t = true := by simpa [BTm.den, Tm.i, Tm.s, Tm.den, env, vInt, vBool, vStr, exI] using ht
        subst ht
        have hc := rcanon (!s) (n * m) hfit
        refine ev_call [.bool (decide (vz (!s) (n * m) < 0)), .agg (mgk 32 (vz (!s) (n * m)).natAbs)] rfl rfl (pure_gives hc) (fun β => by simp [BTm.den, Tm.i, Tm.s, Tm.den, env, vInt, vBool, vStr, exI, SW.den, SV.den, Cell.den, densP, Piece.den, denV, denT, rowCells_mgk, mgl_agg]) (fun β => by simp [BTm.den, Tm.i, Tm.s, Tm.den, env, vInt, vBool, vStr, exI, SW.den, SV.den, Cell.den, densP, Piece.den, denV, denT, rowCells_mgk, iv_list, ivZ]) ?_
        refine ev_nil fun β => ?_
        rw [hv]
        have e : (s != true) = !s := by cases s <;> rfl
        simp [BTm.den, Tm.i, Tm.s, Tm.den, env, vInt, vBool, vStr, exI, SW.den, SV.den, Cell.den, densP, Piece.den, denV, denT, rowCells_mgk, iv_list, ivZ, e]
      · have ht : t = false := by simpa [BTm.den, Tm.i, Tm.s, Tm.den, env, vInt, vBool, vStr, exI] using ht
        subst ht
        have hc := rcanon s (n * m) hfit
        refine ev_call [.bool (decide (vz s (n * m) < 0)), .agg (mgk 32 (vz s (n * m)).natAbs)] rfl rfl (pure_gives hc) (fun β => by simp [BTm.den, Tm.i, Tm.s, Tm.den, env, vInt, vBool, vStr, exI, SW.den, SV.den, Cell.den, densP, Piece.den, denV, denT, rowCells_mgk, mgl_agg]) (fun β => by simp [BTm.den, Tm.i, Tm.s, Tm.den, env, vInt, vBool, vStr, exI, SW.den, SV.den, Cell.den, densP, Piece.den, denV, denT, rowCells_mgk, iv_list, ivZ]) ?_
        refine ev_nil fun β => ?_
        rw [hv]
        have e : (s != false) = s := by cases s <;> rfl
        simp [BTm.den, Tm.i, Tm.s, Tm.den, env, vInt, vBool, vStr, exI, SW.den, SV.den, Cell.den, densP, Piece.den, denV, denT, rowCells_mgk, iv_list, ivZ, e]
    · have hnot : ¬ n * m < pw 32 := fun h => h3 (hlim k (by omega) h)
      refine ev_loop [.int .i64 (k : Nat), .int .i64 10, .agg (mgk 32 (n * m % pw k)), .bool true] rfl rfl (rmul_last s t n m (n * m) k 10 true (.inr ⟨rfl, h1, rfl, h2, h3⟩)) ?_
      rw [resZ_not (by rw [vz_abs]; exact hnot)] at hv
      refine ev_nil (way_true (by simp [BTm.den, Tm.i, Tm.s, Tm.den, env, vInt, vBool, vStr, exI]) (tree_leaf (ev_nil fun β => ?_)))
      rw [hv, ivZ_zero, ← iv_list, mgl_zero]
      simp [BTm.den, Tm.i, Tm.s, Tm.den, env, vInt, vBool, vStr, exI, SW.den, SV.den, Cell.den, densP, Piece.den, denV, denT]
  have := pure_of plain [.bool s, .agg (mgk 32 n), .bool t, .agg (mgk 32 m)] tMul_ok (by kernel_rfl) _ (main _ (fun _ => trivial) rfl)
  refine gives_pure ?_
  have e : denT (env [.bool s, .agg (mgk 32 n), .bool t, .agg (mgk 32 m)]) (fun _ => 0) [intA 0, intA 2] = #[.agg (iv s n), .agg (iv t m)] := by
    simp [intA, BTm.den, Tm.i, Tm.s, Tm.den, env, vInt, vBool, vStr, exI, SW.den, SV.den, Cell.den, densP, Piece.den, denV, denT, rowCells_mgk, iv_list]
  rw [e] at this
  exact this
end Go.Proofs.YtfdlgeomaballaaGreat
end
section
/- Bits of numbers, as terms say them. -/
namespace Go.Proofs.YtfdlgeomaballaaGreat
open Go.RowKit Go.Proofs.YtfdlgeomaballaaGreat.Sx
set_option linter.unusedSimpArgs false
set_option linter.unusedVariables false

theorem ari_or32 {s : Nat} (a b : Nat) (ha : a < 4294967296) (hb : b < 4294967296) (hs : b < 2 ^ s) (hm : a % 2 ^ s = 0) : ariI .or .u32 ((a : Nat) : Int) ((b : Nat) : Int) = ((a + b : Nat) : Int) := by
  have := u32_or_nat a b ha hb
  rw [nat_join s a b hm hs] at this
  exact this
theorem ari_or64 {s : Nat} (a b : Nat) (ha : a < 18446744073709551616) (hb : b < 18446744073709551616) (hs : b < 2 ^ s) (hm : a % 2 ^ s = 0) : ariI .or .u64 ((a : Nat) : Int) ((b : Nat) : Int) = ((a + b : Nat) : Int) := by
  have := u64_or_nat a b ha hb
  rw [nat_join s a b hm hs] at this
  exact this
theorem wrap_u64n (n : Nat) : IntKind.u64.wrap ((n : Nat) : Int) = ((n % 18446744073709551616 : Nat) : Int) := by rw [IntKind.wrap_u64]; omega
theorem shl32_of (x s p : Nat) (hs : s ≤ 32) (hp : 2 ^ s = p) : shfI .shl .u32 ((x : Nat) : Int) ((s : Nat) : Int) = ((x * p % 4294967296 : Nat) : Int) := by
  have : min ((s : Nat) : Int).toNat 32 = s := by omega
  simp only [shfI, IntKind.bits, this]
  rw [← wrap_u32]
  congr 1
  rw [← hp]; push_cast; rfl
theorem shl64_of (x s p : Nat) (hs : s ≤ 64) (hp : 2 ^ s = p) : shfI .shl .u64 ((x : Nat) : Int) ((s : Nat) : Int) = ((x * p % 18446744073709551616 : Nat) : Int) := by
  have : min ((s : Nat) : Int).toNat 64 = s := by omega
  simp only [shfI, IntKind.bits, this]
  rw [← wrap_u64n]
  congr 1
  rw [← hp]; push_cast; rfl
theorem shr_of {k : IntKind} (x s p : Nat) (hs : s ≤ k.bits) (hp : 2 ^ s = p) : shfI .shr k ((x : Nat) : Int) ((s : Nat) : Int) = ((x / p : Nat) : Int) := by
  have : min ((s : Nat) : Int).toNat k.bits = s := by omega
  simp only [shfI, this]
  rw [Int.fdiv_eq_ediv_of_nonneg _ (by rw [show ((2 : Int) ^ s) = ((2 ^ s : Nat) : Int) by push_cast; rfl]; exact Int.natCast_nonneg _)]
  rw [← hp]; push_cast; rfl
/-! ### Doubling -/
def dblT (n b i : Nat) : Nat := 2 * (n % pw i) + b
def dblC (n b i : Nat) : Nat := dblT n b i / pw i
def dblR (n b i : Nat) : Nat := dblT n b i % pw i + n / pw i * pw i
theorem dblC_le {n b i : Nat} (hb : b ≤ 1) : dblC n b i ≤ 1 := by
  have h1 := Nat.mod_lt n (pw_pos i)
  unfold dblC dblT
  have : (2 * (n % pw i) + b) / pw i < 2 := by rw [Nat.div_lt_iff_lt_mul (pw_pos i)]; omega
  omega
theorem dbl_zero (n b : Nat) : dblC n b 0 = b ∧ dblR n b 0 = n := by
  unfold dblC dblR dblT; rw [mod_pw_zero, pw_zero]; simp [Nat.mod_one]
theorem dblT_next (n b i : Nat) : dblT n b (i + 1) = (2 * limb n i + dblC n b i) * pw i + dblT n b i % pw i := by
  have h := Nat.div_add_mod (dblT n b i) (pw i)
  have h2 := mod_pw n i
  have e : 2 * (limb n i * pw i) = 2 * limb n i * pw i := by rw [Nat.mul_assoc]
  have e2 : dblT n b (i + 1) = dblT n b i + 2 * (limb n i * pw i) := by unfold dblT; omega
  rw [e2, Nat.add_mul, ← e]
  unfold dblC
  rw [Nat.mul_comm (dblT n b i / pw i)]
  omega
theorem dbl_limb (n b i : Nat) : limb (dblR n b i) i = limb n i := by
  unfold dblR
  rw [Nat.add_comm, limb_split _ _ _ _ (Nat.mod_lt _ (pw_pos i)), if_neg (by omega), Nat.sub_self]
  unfold limb; rw [div_pw_zero]
theorem dbl_next {n b i : Nat} (hb : b ≤ 1) : dblC n b (i + 1) = limb n i / 2147483648 ∧ put (dblR n b i) i ((2 * limb n i) % 4294967296 + dblC n b i) = dblR n b (i + 1) := by
  have hc := dblC_le (n := n) (i := i) hb
  have hx := limb_lt n i
  have h := split_next (dblT_next n b i) (Nat.mod_lt _ (pw_pos i))
  have hs : (dblT n b i % pw i) < pw i := Nat.mod_lt _ (pw_pos i)
  constructor
  · rw [show dblC n b (i + 1) = dblT n b (i + 1) / pw (i + 1) from rfl, h.2]; omega
  · rw [put_eq]
    have e1 : dblR n b i % pw i = dblT n b i % pw i := by
      unfold dblR; rw [Nat.add_mul_mod_self_right, Nat.mod_mod]
    have e2 : dblR n b i / pw (i + 1) = n / pw (i + 1) := by
      rw [pw_succ, ← Nat.div_div_eq_div_mul, ← Nat.div_div_eq_div_mul]
      congr 1
      unfold dblR
      rw [Nat.add_mul_div_right _ _ (pw_pos i), Nat.div_eq_of_lt hs, Nat.zero_add]
    rw [e1, e2, show dblR n b (i + 1) = dblT n b (i + 1) % pw (i + 1) + n / pw (i + 1) * pw (i + 1) from rfl, h.1]
    have e3 : (2 * limb n i + dblC n b i) % 4294967296 = (2 * limb n i) % 4294967296 + dblC n b i := by omega
    rw [e3, pw_succ, Nat.add_mul]
    have e4 : ∀ N : Nat, N * 4294967296 * pw i = N * (pw i * 4294967296) := fun N => by rw [Nat.mul_assoc, Nat.mul_comm 4294967296]
    rw [e4]
    omega
theorem dbl_end {n b : Nat} (hn : n < pw 32) : dblC n b 32 = (2 * n + b) / pw 32 ∧ dblR n b 32 = (2 * n + b) % pw 32 := by
  unfold dblC dblR dblT
  rw [Nat.mod_eq_of_lt hn, Nat.div_eq_of_lt hn]; simp
end Go.Proofs.YtfdlgeomaballaaGreat
end
section
/- The document's own doubling, shifting, difference. -/
namespace Go.Proofs.YtfdlgeomaballaaGreat
open Go.RowKit Go.Proofs.YtfdlgeomaballaaGreat.Sx
set_option linter.unusedSimpArgs false
set_option linter.unusedVariables false

set_option maxHeartbeats 1000000 in
theorem rdouble_loop (n b : Nat) (hn : n < pw 32) (hb : b ≤ 1) :
    Ev.holds Tryz.prog (env [.agg (mgk 32 n), .int .u32 (b : Nat), .int .i64 (32 : Nat), .int .u32 (dblC n b 32 : Nat), .agg (mgk 32 (dblR n b 32))]) (.loop 92 0 divS92_0 divH92_0 (.exit 0) .none 3) := by
  refine loop_holds plain (m := 3) (x := .exit 0) (alt := none) [.agg (mgk 32 n), .int .u32 (b : Nat)] [.int .i64 (32 : Nat), .int .u32 (dblC n b 32 : Nat), .agg (mgk 32 (dblR n b 32))] tDouble0_ok tDouble0_fine
    (fun vs => ∃ i : Nat, i ≤ 32 ∧ vs = [.int .i64 (i : Nat), .int .u32 (dblC n b i : Nat), .agg (mgk 32 (dblR n b i))])
    (fun vs => 32 - (vInt (vs.getD 0 undef)).toNat) tDouble0_diff ?_ ?_
  · refine ⟨[.int .i64 (0 : Nat), .int .u32 (dblC n b 0 : Nat), .agg (mgk 32 (dblR n b 0))], rfl, ⟨0, by omega, rfl⟩, ?_⟩
    rw [(dbl_zero n b).1, (dbl_zero n b).2]
    simp [tDouble0_d, BTm.den, Tm.i, Tm.s, Tm.den, env, vInt, vBool, vStr, exI, SW.den, SV.den, Cell.den, densP, Piece.den, denV, denT]
  · rintro vs hl ⟨i, hi, rfl⟩
    clear hl
    refine tree_ite (ev_nil ⟨fun hlt => tree_leaf ?_, fun hlt => tree_leaf (ev_nil ?_)⟩)
    · have hlt : i < 32 := by
        have : (i : Int) < 32 := by simpa [BTm.den, Tm.i, Tm.s, Tm.den, env, vInt, vBool, vStr, exI] using hlt
        omega
      have hx := limb_lt n i
      have hc := dblC_le (n := n) (i := i) hb
      obtain ⟨h1, h2⟩ := dbl_next (n := n) (i := i) hb
      have h0 := dbl_limb n b i
      obtain ⟨c, hcc⟩ : ∃ c, c = dblC n b i := ⟨_, rfl⟩
      obtain ⟨c', hcc'⟩ : ∃ c, c = dblC n b (i + 1) := ⟨_, rfl⟩
      obtain ⟨W, hW⟩ : ∃ c, c = dblR n b i := ⟨_, rfl⟩
      obtain ⟨W', hW'⟩ : ∃ c, c = dblR n b (i + 1) := ⟨_, rfl⟩
      rw [← hcc, ← hW, ← hW'] at h2
      rw [← hcc'] at h1
      rw [← hW] at h0
      rw [← hcc] at hc
      rw [← hcc, ← hW]
      refine ev_need (by simp [BTm.den, Tm.i, Tm.s, Tm.den, env, vInt, vBool, vStr, exI] <;> omega) ?_
      refine ev_need (by simp [BTm.den, Tm.i, Tm.s, Tm.den, env, vInt, vBool, vStr, exI] <;> omega) ?_
      refine ev_elem [.int .u32 (limb n i : Nat)] rfl rfl (l := mgl 32 W) (m := [.int .u32 (limb n i : Nat)]) (k := i) (by simp [BTm.den, Tm.i, Tm.s, Tm.den, env, vInt, vBool, vStr, exI] <;> omega) (fun β => rowCells_mgk 32 W) (fun β => rfl) (by rw [← h0]; exact mgl_elem (by omega)) ?_
      refine ev_need (by simp [BTm.den, Tm.i, Tm.s, Tm.den, env, vInt, vBool, vStr, exI] <;> omega) ?_
      refine ev_need (by simp [BTm.den, Tm.i, Tm.s, Tm.den, env, vInt, vBool, vStr, exI] <;> omega) ?_
      refine ev_elem [.int .u32 (limb n i : Nat)] rfl rfl (l := mgl 32 W) (m := [.int .u32 (limb n i : Nat)]) (k := i) (by simp [BTm.den, Tm.i, Tm.s, Tm.den, env, vInt, vBool, vStr, exI] <;> omega) (fun β => rowCells_mgk 32 W) (fun β => rfl) (by rw [← h0]; exact mgl_elem (by omega)) ?_
      refine ev_need (by simp [BTm.den, Tm.i, Tm.s, Tm.den, env, vInt, vBool, vStr, exI] <;> omega) ?_
      refine ev_need (by simp [BTm.den, Tm.i, Tm.s, Tm.den, env, vInt, vBool, vStr, exI] <;> omega) ?_
      have hor := ari_or32 (s := 1) (2 * limb n i % 4294967296) c (by omega) (by omega) (by omega) (by omega)
      have hsl := shl32_of (limb n i) 1 2 (by omega) rfl
      rw [Nat.mul_comm] at hsl
      rw [← hsl] at hor
      have hsr := shr_of (k := .u32) (limb n i) 31 2147483648 (by decide) rfl
      have hput : mgl 32 W' = (mgl 32 W).take i ++ [.int .u32 ((2 * limb n i % 4294967296 + c : Nat) : Int)] ++ (mgl 32 W).drop (i + 1) := by
        rw [← h2]; exact mgl_put (by omega) rfl (by omega)
      refine ev_put [.agg (mgk 32 W')] rfl rfl (l := mgl 32 W) (l' := mgl 32 W') (m := [.int .u32 ((2 * limb n i % 4294967296 + c : Nat) : Int)]) (k := i) (by simp [BTm.den, Tm.i, Tm.s, Tm.den, env, vInt, vBool, vStr, exI] <;> omega) (fun β => rowCells_mgk 32 _) (fun β => rowCells_mgk 32 _) (fun β => ?_) hput (by rw [mgl_length]; simp; omega) ?_
      · rw [← hor]; simp [BTm.den, Tm.i, Tm.s, Tm.den, env, vInt, vBool, vStr, exI, SW.den, SV.den, Cell.den, densP, Piece.den, denV, denT]
      refine ev_fits (((i + 1 : Nat) : Int)) (by simp [BTm.den, Tm.i, Tm.s, Tm.den, env, vInt, vBool, vStr, exI]) (rng_i64 _ (by omega)) ?_
      refine ev_nil ⟨[.int .i64 (i + 1 : Nat), .int .u32 (c' : Nat), .agg (mgk 32 W')], rfl, ⟨i + 1, by omega, by rw [hcc', hW']⟩, ?_, ?_⟩
      · simp [vInt]; omega
      · rw [h1, ← hsr]; simp [BTm.den, Tm.i, Tm.s, Tm.den, env, vInt, vBool, vStr, exI, SW.den, SV.den, Cell.den, densP, Piece.den, denV, denT]
    · have hlt : i = 32 := by
        have : ¬ (i : Int) < 32 := by simpa [BTm.den, Tm.i, Tm.s, Tm.den, env, vInt, vBool, vStr, exI] using hlt
        omega
      subst hlt
      exact ⟨rfl, by simp [BTm.den, Tm.i, Tm.s, Tm.den, env, vInt, vBool, vStr, exI, SW.den, SV.den, Cell.den, densP, Piece.den, denV, denT]⟩
theorem rdouble (n b : Nat) (hn : n < pw 32) (hb : b ≤ 1) : Gives Tryz.prog 92 #[.agg (mgk 32 n), .int .u32 ((b : Nat) : Int)] (.tuple #[.agg (mgk 32 ((2 * n + b) % pw 32)), .bool (decide ((2 * n + b) / pw 32 = 1))]) := by
  have h := pure_of plain [.agg (mgk 32 n), .int .u32 (b : Nat)] tDouble_ok (by kernel_rfl) (.tuple #[.agg (mgk 32 ((2 * n + b) % pw 32)), .bool (decide ((2 * n + b) / pw 32 = 1))]) (tree_leaf ?_)
  · refine gives_pure ?_
    simpa [rowB, BTm.den, Tm.i, Tm.s, Tm.den, env, vInt, vBool, vStr, exI, SW.den, SV.den, Cell.den, densP, Piece.den, denV, denT, rowCells_mgk, mgl_agg] using h
  · have hl := rdouble_loop n b hn hb
    obtain ⟨e1, e2⟩ := dbl_end (b := b) hn
    rw [e1, e2] at hl
    refine ev_loop [.int .i64 (32 : Nat), .int .u32 ((2 * n + b) / pw 32 : Nat), .agg (mgk 32 ((2 * n + b) % pw 32))] rfl rfl hl (ev_nil fun β => ?_)
    obtain ⟨V, hV⟩ : ∃ V, V = (2 * n + b) % pw 32 := ⟨_, rfl⟩
    obtain ⟨c, hc⟩ : ∃ V, V = (2 * n + b) / pw 32 := ⟨_, rfl⟩
    rw [← hV, ← hc]
    simp [BTm.den, Tm.i, Tm.s, Tm.den, env, vInt, vBool, vStr, exI, SW.den, SV.den, Cell.den, densP, Piece.den, denV, denT, rowCells_mgk, mgl_agg]
    rw [Bool.eq_iff_iff]; simp; omega
end Go.Proofs.YtfdlgeomaballaaGreat
end
section
/- The document's own shifting and difference. -/
namespace Go.Proofs.YtfdlgeomaballaaGreat
open Go.RowKit Go.Proofs.YtfdlgeomaballaaGreat.Sx
set_option linter.unusedSimpArgs false
set_option linter.unusedVariables false

theorem two_split (s : Nat) : 2 ^ s = pw (s / 32) * 2 ^ (s % 32) := by
  unfold pw
  rw [show (4294967296 : Nat) = 2 ^ 32 by rfl, ← Nat.pow_mul, ← Nat.pow_add, Nat.div_add_mod]
theorem shr_parts (N s i : Nat) : N / 2 ^ s = N / pw (s / 32) / 2 ^ (s % 32) := by
  rw [two_split s, Nat.div_div_eq_div_mul]
theorem pq32 {r : Nat} (h : r ≤ 32) : 2 ^ r * 2 ^ (32 - r) = 4294967296 := by
  rw [← Nat.pow_add, show r + (32 - r) = 32 by omega]
/-- One limb of a shifted number. -/
theorem shrd_limb (N k r i : Nat) (hr : r ≤ 32) : limb (N / pw k / 2 ^ r) i = (limb N (i + k + 1) * 2 ^ (32 - r)) % 4294967296 + limb N (i + k) / 2 ^ r := by
  rw [shr_limb (pq32 hr) (Nat.two_pow_pos r), ← limb_up, ← limb_up, show k + (i + 1) = i + k + 1 by omega, show k + i = i + k by omega]
  have hx := limb_lt N (i + k)
  obtain ⟨x, hxx⟩ : ∃ x, x = limb N (i + k) := ⟨_, rfl⟩
  obtain ⟨y, hyy⟩ : ∃ x, x = limb N (i + k + 1) := ⟨_, rfl⟩
  have hpq := pq32 hr
  have hp := Nat.two_pow_pos r
  have hq := Nat.two_pow_pos (32 - r)
  rw [← hxx, ← hyy]
  rw [← hxx] at hx
  generalize 2 ^ r = p at *
  generalize 2 ^ (32 - r) = q at *
  have h1 : (y * 4294967296 + x) / p = y * q + x / p := by
    rw [← hpq, show y * (p * q) + x = x + y * q * p by rw [Nat.mul_comm p q]; rw [Nat.mul_assoc]; omega, Nat.add_mul_div_right _ _ hp, Nat.add_comm]
  have h2 : x / p < q := by rw [Nat.div_lt_iff_lt_mul hp, Nat.mul_comm, hpq]; exact hx
  rw [h1]
  have h3 : (y * q) % 4294967296 = (y % p) * q := by
    rw [← hpq, Nat.mul_mod_mul_right]
  have h4 : (y % p) * q + q ≤ 4294967296 := by
    have : (y % p + 1) * q ≤ p * q := Nat.mul_le_mul_right _ (Nat.mod_lt _ hp)
    rw [Nat.add_mul, Nat.one_mul, hpq] at this
    exact this
  rw [h3]
  have h5 : (y * q + x / p) % 4294967296 = ((y * q) % 4294967296 + x / p) % 4294967296 := by omega
  rw [h5, h3, Nat.mod_eq_of_lt (by omega)]
theorem shr_or (y x r : Nat) (hx : x < 4294967296) (hr : r ≤ 32) : ariI .or .u32 ((x / 2 ^ r : Nat) : Int) ((y * 2 ^ (32 - r) % 4294967296 : Nat) : Int) = ((y * 2 ^ (32 - r) % 4294967296 + x / 2 ^ r : Nat) : Int) := by
  have hpq := pq32 hr
  have hp := Nat.two_pow_pos r
  have hq := Nat.two_pow_pos (32 - r)
  have h2 : x / 2 ^ r < 2 ^ (32 - r) := by rw [Nat.div_lt_iff_lt_mul hp, Nat.mul_comm, hpq]; exact hx
  have h3 : (y * 2 ^ (32 - r)) % 4294967296 = (y % 2 ^ r) * 2 ^ (32 - r) := by
    rw [← hpq, Nat.mul_mod_mul_right]
  have h4 : (y * 2 ^ (32 - r)) % 4294967296 % 2 ^ (32 - r) = 0 := by rw [h3]; exact Nat.mul_mod_left ..
  have h5 : 2 ^ (32 - r) ≤ 4294967296 := by rw [show (4294967296 : Nat) = 2 ^ 32 by rfl]; exact Nat.pow_le_pow_right (by omega) (by omega)
  have h6 : (y * 2 ^ (32 - r)) % 4294967296 < 4294967296 := Nat.mod_lt _ (by omega)
  have := u32_or_nat (x / 2 ^ r) ((y * 2 ^ (32 - r)) % 4294967296) (by omega) h6
  rw [Nat.or_comm, nat_join (32 - r) _ _ h4 h2] at this
  exact this
theorem tdivN (a b : Nat) : ((a : Nat) : Int).tdiv ((b : Nat) : Int) = ((a / b : Nat) : Int) := rfl
theorem tmodN (a b : Nat) : ((a : Nat) : Int).tmod ((b : Nat) : Int) = ((a % b : Nat) : Int) := rfl
theorem limb_row {N i : Nat} (h : True) : (N % pw (i + 1)) = put (N % pw i) i (limb N i) := by
  rw [put_low _ (Nat.mod_lt _ (pw_pos i)), mod_pw]
theorem put_put (n j v w : Nat) (hv : v < 4294967296) (hw : w < 4294967296) : put (put n j v) j w = put n j w := by
  have h := put_add (put n j v) j w
  have h1 := put_add n j v
  have h2 := put_add n j w
  rw [limb_put _ _ _ _ hv, if_pos rfl] at h
  omega
set_option maxHeartbeats 2000000 in
theorem rshifted_loop (n s : Nat) (hn : n < pw 32) (hs : s ≤ 1024) (A : Nat) (hA : A = n / 2 ^ s) :
    Ev.holds Tryz.prog (env [.agg (mgk 32 n), .int .i64 (s : Nat), .int .i64 (32 - s / 32 : Nat), .agg (mgk 32 A)]) (.loop 91 0 divS91_0 divH91_0 (.exit 0) .none 2) := by
  have hq : (s : Int).tdiv 32 = ((s / 32 : Nat) : Int) := tdivN s 32
  have hr : (s : Int).tmod 32 = ((s % 32 : Nat) : Int) := tmodN s 32
  have hAk : A = n / pw (s / 32) / 2 ^ (s % 32) := by rw [hA, shr_parts n s 0]
  have hk : s / 32 ≤ 32 := by omega
  have hr2 : s % 32 ≤ 31 := by omega
  obtain ⟨k, hkk⟩ : ∃ k, k = s / 32 := ⟨_, rfl⟩
  obtain ⟨r, hrr⟩ : ∃ k, k = s % 32 := ⟨_, rfl⟩
  rw [← hkk] at hq hAk hk ⊢
  rw [← hrr] at hr hAk hr2
  refine loop_holds plain (m := 2) (x := .exit 0) (alt := none) [.agg (mgk 32 n), .int .i64 (s : Nat)] [.int .i64 (32 - k : Nat), .agg (mgk 32 A)] tShifted0_ok tShifted0_fine
    (fun vs => ∃ i : Nat, i ≤ 32 - k ∧ vs = [.int .i64 (i : Nat), .agg (mgk 32 (A % pw i))])
    (fun vs => 32 - (vInt (vs.getD 0 undef)).toNat) tShifted0_diff ?_ ?_
  · refine ⟨[.int .i64 (0 : Nat), .agg (mgk 32 (A % pw 0))], rfl, ⟨0, by omega, rfl⟩, ?_⟩
    have hz : rowCells (.agg (mgk 32 (A % pw 0))) 32 = List.replicate 32 (.int .u32 0) := by rw [rowCells_mgk, mod_pw_zero, mgl_zero]
    simp [tShifted0_d, BTm.den, Tm.i, Tm.s, Tm.den, env, vInt, vBool, vStr, exI, SW.den, SV.den, Cell.den, densP, Piece.den, denV, denT, hz]
  · rintro vs hl ⟨i, hi, rfl⟩
    clear hl
    have hsum : ((i : Int) + (k : Int)) = ((i + k : Nat) : Int) := by push_cast; rfl
    have hsum1 : ((i : Int) + (k : Int) + 1) = ((i + k + 1 : Nat) : Int) := by push_cast; rfl
    refine tree_ite ?_
    refine ev_fits ((i + k : Nat) : Int) (by simp [BTm.den, Tm.i, Tm.s, Tm.den, env, vInt, vBool, vStr, exI, hq]) (rng_i64 _ (by omega)) ?_
    refine ev_nil ⟨fun hlt => tree_ite ?_, fun hlt => tree_leaf (ev_nil ?_)⟩
    · have hlt : i + k < 32 := by
        have : (i : Int) + (k : Int) < 32 := by simpa [BTm.den, Tm.i, Tm.s, Tm.den, env, vInt, vBool, vStr, exI, hq] using hlt
        omega
      have hx := limb_lt n (i + k)
      have hy := limb_lt n (i + k + 1)
      have hL : limb A i = limb n (i + k + 1) * 2 ^ (32 - r) % 4294967296 + limb n (i + k) / 2 ^ r := by rw [hAk]; exact shrd_limb n k r i (by omega)
      have hor := shr_or (limb n (i + k + 1)) (limb n (i + k)) r hx (by omega)
      have hsl := shl32_of (limb n (i + k + 1)) (32 - r) (2 ^ (32 - r)) (by omega) rfl
      have hsr := shr_of (k := .u32) (limb n (i + k)) r (2 ^ r) (by show r ≤ 32; omega) rfl
      have hlr : limb n (i + k) / 2 ^ r < 4294967296 := Nat.lt_of_le_of_lt (Nat.div_le_self _ _) hx
      have hLl := limb_lt A i
      have hrow := limb_row (N := A) (i := i) trivial
      rw [← hL] at hor
      obtain ⟨L, hLL⟩ : ∃ L, L = limb A i := ⟨_, rfl⟩
      rw [← hLL] at hL hor hLl hrow
      obtain ⟨X, hX⟩ : ∃ L, L = limb n (i + k) / 2 ^ r := ⟨_, rfl⟩
      obtain ⟨Y, hY⟩ : ∃ L, L = limb n (i + k + 1) * 2 ^ (32 - r) % 4294967296 := ⟨_, rfl⟩
      rw [← hX] at hlr hsr hor hL
      rw [← hY] at hsl hor hL
      obtain ⟨W, hW⟩ : ∃ W, W = A % pw i := ⟨_, rfl⟩
      obtain ⟨W', hW'⟩ : ∃ W, W = A % pw (i + 1) := ⟨_, rfl⟩
      rw [← hW, ← hW'] at hrow
      rw [← hW]
      refine ev_fits ((i + k : Nat) : Int) (by simp [BTm.den, Tm.i, Tm.s, Tm.den, env, vInt, vBool, vStr, exI, hq]) (rng_i64 _ (by omega)) ?_
      refine ev_need (by simp [BTm.den, Tm.i, Tm.s, Tm.den, env, vInt, vBool, vStr, exI, hq] <;> omega) ?_
      refine ev_need (by simp [BTm.den, Tm.i, Tm.s, Tm.den, env, vInt, vBool, vStr, exI, hq] <;> omega) ?_
      refine ev_elem [.int .u32 (limb n (i + k) : Nat)] rfl rfl (l := mgl 32 n) (m := [.int .u32 (limb n (i + k) : Nat)]) (k := i + k) (by simp [BTm.den, Tm.i, Tm.s, Tm.den, env, vInt, vBool, vStr, exI, hq] <;> omega) (fun β => rowCells_mgk 32 n) (fun β => rfl) (mgl_elem (by omega)) ?_
      refine ev_need (by simp [BTm.den, Tm.i, Tm.s, Tm.den, env, vInt, vBool, vStr, exI, hr]) ?_
      refine ev_need (by simp [BTm.den, Tm.i, Tm.s, Tm.den, env, vInt, vBool, vStr, exI] <;> omega) ?_
      refine ev_need (by simp [BTm.den, Tm.i, Tm.s, Tm.den, env, vInt, vBool, vStr, exI] <;> omega) ?_
      have hput : mgl 32 (put W i X) = (mgl 32 W).take i ++ [.int .u32 (X : Nat)] ++ (mgl 32 W).drop (i + 1) := mgl_put (by omega) rfl hlr
      refine ev_put [.agg (mgk 32 (put W i X))] rfl rfl (l := mgl 32 W) (l' := mgl 32 (put W i X)) (m := [.int .u32 (X : Nat)]) (k := i) (by simp [BTm.den, Tm.i, Tm.s, Tm.den, env, vInt, vBool, vStr, exI] <;> omega) (fun β => rowCells_mgk 32 _) (fun β => rowCells_mgk 32 _) (fun β => ?_) hput (by rw [mgl_length]; simp; omega) ?_
      · simp [BTm.den, Tm.i, Tm.s, Tm.den, env, vInt, vBool, vStr, exI, SW.den, SV.den, Cell.den, densP, Piece.den, denV, denT, hr, hsr]
      have hfin : X = L → W' = put W i X := fun h => by rw [h]; exact hrow
      refine ev_nil ⟨fun h0 => tree_ite ?_, fun h0 => tree_leaf ?_⟩
      · have h0 : 0 < r := by simpa [BTm.den, Tm.i, Tm.s, Tm.den, env, vInt, vBool, vStr, exI, hr] using h0
        refine ev_fits ((i + k : Nat) : Int) (by simp [BTm.den, Tm.i, Tm.s, Tm.den, env, vInt, vBool, vStr, exI, hq]) (rng_i64 _ (by omega)) ?_
        refine ev_fits ((i + k + 1 : Nat) : Int) (by simp [BTm.den, Tm.i, Tm.s, Tm.den, env, vInt, vBool, vStr, exI, hq]) (rng_i64 _ (by omega)) ?_
        refine ev_nil ⟨fun h1 => tree_leaf ?_, fun h1 => tree_leaf ?_⟩
        · have h1 : i + k + 1 < 32 := by
            have : (i : Int) + (k : Int) + 1 < 32 := by simpa [BTm.den, Tm.i, Tm.s, Tm.den, env, vInt, vBool, vStr, exI, hq] using h1
            omega
          have hX2 : ((mgl 32 (put W i X)).drop i).take 1 = [.int .u32 ((X : Nat) : Int)] := by
            have := mgl_elem (n := put W i X) (show i < 32 by omega)
            rwa [limb_put _ _ _ _ hlr, if_pos rfl] at this
          refine ev_need (by simp [BTm.den, Tm.i, Tm.s, Tm.den, env, vInt, vBool, vStr, exI] <;> omega) ?_
          refine ev_need (by simp [BTm.den, Tm.i, Tm.s, Tm.den, env, vInt, vBool, vStr, exI] <;> omega) ?_
          refine ev_elem [.int .u32 (X : Nat)] rfl rfl (l := mgl 32 (put W i X)) (m := [.int .u32 (X : Nat)]) (k := i) (by simp [BTm.den, Tm.i, Tm.s, Tm.den, env, vInt, vBool, vStr, exI] <;> omega) (fun β => rowCells_mgk 32 _) (fun β => rfl) (hX2) ?_
          refine ev_fits ((i + k : Nat) : Int) (by simp [BTm.den, Tm.i, Tm.s, Tm.den, env, vInt, vBool, vStr, exI, hq]) (rng_i64 _ (by omega)) ?_
          refine ev_fits ((i + k + 1 : Nat) : Int) (by simp [BTm.den, Tm.i, Tm.s, Tm.den, env, vInt, vBool, vStr, exI, hq]) (rng_i64 _ (by omega)) ?_
          refine ev_need (by simp [BTm.den, Tm.i, Tm.s, Tm.den, env, vInt, vBool, vStr, exI, hq] <;> omega) ?_
          refine ev_need (by simp [BTm.den, Tm.i, Tm.s, Tm.den, env, vInt, vBool, vStr, exI, hq] <;> omega) ?_
          refine ev_elem [.int .u32 (limb n (i + k + 1) : Nat)] rfl rfl (l := mgl 32 n) (m := [.int .u32 (limb n (i + k + 1) : Nat)]) (k := i + k + 1) (by simp [BTm.den, Tm.i, Tm.s, Tm.den, env, vInt, vBool, vStr, exI, hq] <;> omega) (fun β => rowCells_mgk 32 n) (fun β => rfl) (mgl_elem (by omega)) ?_
          have hsub : ariI .sub .u64 32 ((r : Nat) : Int) = ((32 - r : Nat) : Int) := by
            simp only [ariI, IntKind.wrap_u64]; omega
          refine ev_need (by simp [BTm.den, Tm.i, Tm.s, Tm.den, env, vInt, vBool, vStr, exI, hr, hsub]) ?_
          refine ev_need (by simp [BTm.den, Tm.i, Tm.s, Tm.den, env, vInt, vBool, vStr, exI] <;> omega) ?_
          refine ev_need (by simp [BTm.den, Tm.i, Tm.s, Tm.den, env, vInt, vBool, vStr, exI] <;> omega) ?_
          have hput2 : mgl 32 W' = (mgl 32 (put W i X)).take i ++ [.int .u32 (L : Nat)] ++ (mgl 32 (put W i X)).drop (i + 1) := by
            rw [hrow, ← put_put W i X L hlr hLl]; exact mgl_put (by omega) rfl hLl
          refine ev_put [.agg (mgk 32 W')] rfl rfl (l := mgl 32 (put W i X)) (l' := mgl 32 W') (m := [.int .u32 (L : Nat)]) (k := i) (by simp [BTm.den, Tm.i, Tm.s, Tm.den, env, vInt, vBool, vStr, exI] <;> omega) (fun β => rowCells_mgk 32 _) (fun β => rowCells_mgk 32 _) (fun β => ?_) hput2 (by rw [mgl_length]; simp; omega) ?_
          · rw [← hor, ← hsl, ← hsub, ← hr]; simp [BTm.den, Tm.i, Tm.s, Tm.den, env, vInt, vBool, vStr, exI, SW.den, SV.den, Cell.den, densP, Piece.den, denV, denT]
          refine ev_fits (((i + 1 : Nat) : Int)) (by simp [BTm.den, Tm.i, Tm.s, Tm.den, env, vInt, vBool, vStr, exI]) (rng_i64 _ (by omega)) ?_
          refine ev_nil ⟨[.int .i64 (i + 1 : Nat), .agg (mgk 32 W')], rfl, ⟨i + 1, by omega, by rw [hW']⟩, ?_, ?_⟩
          · simp [vInt]; omega
          · simp [BTm.den, Tm.i, Tm.s, Tm.den, env, vInt, vBool, vStr, exI, SW.den, SV.den, Cell.den, densP, Piece.den, denV, denT]
        · have h1 : i + k + 1 = 32 := by
            have : ¬ (i : Int) + (k : Int) + 1 < 32 := by simpa [BTm.den, Tm.i, Tm.s, Tm.den, env, vInt, vBool, vStr, exI, hq] using h1
            omega
          have hY0 : Y = 0 := by rw [hY, h1, limb_of_ge hn, Nat.zero_mul, Nat.zero_mod]
          have e := hfin (by omega)
          refine ev_fits (((i + 1 : Nat) : Int)) (by simp [BTm.den, Tm.i, Tm.s, Tm.den, env, vInt, vBool, vStr, exI]) (rng_i64 _ (by omega)) ?_
          rw [← e]
          refine ev_nil ⟨[.int .i64 (i + 1 : Nat), .agg (mgk 32 W')], rfl, ⟨i + 1, by omega, by rw [hW']⟩, ?_, ?_⟩
          · simp [vInt]; omega
          · simp [BTm.den, Tm.i, Tm.s, Tm.den, env, vInt, vBool, vStr, exI, SW.den, SV.den, Cell.den, densP, Piece.den, denV, denT]
      · have h0 : r = 0 := by
          have : ¬ 0 < r := by simpa [BTm.den, Tm.i, Tm.s, Tm.den, env, vInt, vBool, vStr, exI, hr] using h0
          omega
        have hY0 : Y = 0 := by rw [hY, h0, show (2 : Nat) ^ (32 - 0) = 4294967296 by rfl, Nat.mul_mod_left]
        have e := hfin (by omega)
        refine ev_fits (((i + 1 : Nat) : Int)) (by simp [BTm.den, Tm.i, Tm.s, Tm.den, env, vInt, vBool, vStr, exI]) (rng_i64 _ (by omega)) ?_
        rw [← e]
        refine ev_nil ⟨[.int .i64 (i + 1 : Nat), .agg (mgk 32 W')], rfl, ⟨i + 1, by omega, by rw [hW']⟩, ?_, ?_⟩
        · simp [vInt]; omega
        · simp [BTm.den, Tm.i, Tm.s, Tm.den, env, vInt, vBool, vStr, exI, SW.den, SV.den, Cell.den, densP, Piece.den, denV, denT]
    · have hlt : i = 32 - k := by
        have : ¬ (i : Int) + (k : Int) < 32 := by simpa [BTm.den, Tm.i, Tm.s, Tm.den, env, vInt, vBool, vStr, exI, hq] using hlt
        omega
      subst hlt
      refine ⟨rfl, ?_⟩
      have hAs : A % pw (32 - k) = A := by
        refine Nat.mod_eq_of_lt ?_
        rw [hAk]
        refine Nat.lt_of_le_of_lt (Nat.div_le_self _ _) ?_
        rw [Nat.div_lt_iff_lt_mul (pw_pos k), ← pw_add, show 32 - k + k = 32 by omega]; exact hn
      rw [hAs]
      simp [BTm.den, Tm.i, Tm.s, Tm.den, env, vInt, vBool, vStr, exI, SW.den, SV.den, Cell.den, densP, Piece.den, denV, denT]
theorem rshifted (n s : Nat) (hn : n < pw 32) (hs : s ≤ 1024) : Gives Tryz.prog 91 #[.agg (mgk 32 n), .int .i64 ((s : Nat) : Int)] (.agg (mgk 32 (n / 2 ^ s))) := by
  obtain ⟨A, hA⟩ : ∃ A, A = n / 2 ^ s := ⟨_, rfl⟩
  have hl := rshifted_loop n s hn hs A hA
  rw [← hA]
  have hq : (s : Int).tdiv 32 = ((s / 32 : Nat) : Int) := tdivN s 32
  have hr : (s : Int).tmod 32 = ((s % 32 : Nat) : Int) := tmodN s 32
  have h := pure_of plain [.agg (mgk 32 n), .int .i64 (s : Nat)] tShifted_ok (by kernel_rfl) (.agg (mgk 32 A)) (tree_leaf ?_)
  · refine gives_pure ?_
    simpa [rowB, BTm.den, Tm.i, Tm.s, Tm.den, env, vInt, vBool, vStr, exI, SW.den, SV.den, Cell.den, densP, Piece.den, denV, denT, rowCells_mgk, mgl_agg] using h
  · refine ev_fits ((s / 32 : Nat) : Int) (by simp [BTm.den, Tm.i, Tm.s, Tm.den, env, vInt, vBool, vStr, exI, hq]) (rng_i64 _ (by omega)) ?_
    refine ev_fits ((s % 32 : Nat) : Int) (by simp [BTm.den, Tm.i, Tm.s, Tm.den, env, vInt, vBool, vStr, exI, hr]) (rng_i64 _ (by omega)) ?_
    refine ev_fits ((s % 32 : Nat) : Int) (by simp [BTm.den, Tm.i, Tm.s, Tm.den, env, vInt, vBool, vStr, exI, hr]) (rng_u64 _ (by omega)) ?_
    refine ev_loop [.int .i64 (32 - s / 32 : Nat), .agg (mgk 32 A)] rfl rfl hl (ev_nil fun β => ?_)
    simp [BTm.den, Tm.i, Tm.s, Tm.den, env, vInt, vBool, vStr, exI, SW.den, SV.den, Cell.den, densP, Piece.den, denV, denT, rowCells_mgk, mgl_agg]
end Go.Proofs.YtfdlgeomaballaaGreat
end
section
/- The document's own difference; numbers of two limbs. -/
namespace Go.Proofs.YtfdlgeomaballaaGreat
open Go.RowKit Go.Proofs.YtfdlgeomaballaaGreat.Sx
set_option linter.unusedSimpArgs false
set_option linter.unusedVariables false

theorem diff_limb (x y c : Nat) (hx : x < 4294967296) (hy : y < 4294967296) (hc : c ≤ 1) :
    IntKind.u32.wrap (ariI .sub .u64 (ariI .sub .u64 ((x : Nat) : Int) ((y : Nat) : Int)) ((c : Nat) : Int)) = (((x + 4294967296 - y - c) % 4294967296 : Nat) : Int) ∧
    shfI .shr .u64 (ariI .sub .u64 (ariI .sub .u64 ((x : Nat) : Int) ((y : Nat) : Int)) ((c : Nat) : Int)) 63 = ((brw x y c : Nat) : Int) := by
  have e : ariI .sub .u64 (ariI .sub .u64 ((x : Nat) : Int) ((y : Nat) : Int)) ((c : Nat) : Int) = (((x + 18446744073709551616 - y - c) % 18446744073709551616 : Nat) : Int) := by
    simp only [ariI, IntKind.wrap_u64]; omega
  rw [e]
  constructor
  · rw [wrap_u32]; congr 1; omega
  · have := shr_of (k := .u64) ((x + 18446744073709551616 - y - c) % 18446744073709551616) 63 9223372036854775808 (by decide) rfl
    rw [show ((63 : Nat) : Int) = 63 by rfl] at this
    rw [this]; congr 1
    unfold brw; split <;> omega
set_option maxHeartbeats 1000000 in
theorem rdiff_loop (n m : Nat) :
    Ev.holds Tryz.prog (env [.agg (mgk 32 n), .agg (mgk 32 m), .int .i64 (32 : Nat), .int .u64 (mbrw n m 32 : Nat), .agg (mgk 32 (mdif n m 32))]) (.loop 71 0 divS71_0 divH71_0 (.exit 0) .none 3) := by
  refine loop_holds plain (m := 3) (x := .exit 0) (alt := none) [.agg (mgk 32 n), .agg (mgk 32 m)] [.int .i64 (32 : Nat), .int .u64 (mbrw n m 32 : Nat), .agg (mgk 32 (mdif n m 32))] tDiff0_ok tDiff0_fine
    (fun vs => ∃ i : Nat, i ≤ 32 ∧ vs = [.int .i64 (i : Nat), .int .u64 (mbrw n m i : Nat), .agg (mgk 32 (mdif n m i))])
    (fun vs => 32 - (vInt (vs.getD 0 undef)).toNat) tDiff0_diff ?_ ?_
  · refine ⟨[.int .i64 (0 : Nat), .int .u64 (mbrw n m 0 : Nat), .agg (mgk 32 (mdif n m 0))], rfl, ⟨0, by omega, rfl⟩, ?_⟩
    have hz : rowCells (.agg (mgk 32 0)) 32 = List.replicate 32 (.int .u32 0) := by rw [rowCells_mgk, mgl_zero]
    rw [mbrw_zero, mdif_zero]
    simp [tDiff0_d, BTm.den, Tm.i, Tm.s, Tm.den, env, vInt, vBool, vStr, exI, SW.den, SV.den, Cell.den, densP, Piece.den, denV, denT, hz]
  · rintro vs hl ⟨i, hi, rfl⟩
    clear hl
    refine tree_ite (ev_nil ⟨fun hlt => tree_leaf ?_, fun hlt => tree_leaf (ev_nil ?_)⟩)
    · have hlt : i < 32 := by
        have : (i : Int) < 32 := by simpa [BTm.den, Tm.i, Tm.s, Tm.den, env, vInt, vBool, vStr, exI] using hlt
        omega
      have hx := limb_lt n i
      have hy := limb_lt m i
      have hc := mbrw_le n m i
      obtain ⟨h1, h2⟩ := diff_limb (limb n i) (limb m i) (mbrw n m i) hx hy hc
      have h3 := mbrw_next n m i
      have h4 := mdif_next n m i
      have h5 := mdif_lt n m i
      rw [← h3] at h2
      obtain ⟨c, hcc⟩ : ∃ c, c = mbrw n m i := ⟨_, rfl⟩
      obtain ⟨c', hcc'⟩ : ∃ c, c = mbrw n m (i + 1) := ⟨_, rfl⟩
      obtain ⟨W, hW⟩ : ∃ c, c = mdif n m i := ⟨_, rfl⟩
      obtain ⟨W', hW'⟩ : ∃ c, c = mdif n m (i + 1) := ⟨_, rfl⟩
      rw [← hcc, ← hW, ← hW'] at h4
      rw [← hcc] at h1 h2 hc
      rw [← hcc'] at h2
      rw [← hW] at h5
      rw [← hcc, ← hW]
      refine ev_need (by simp [BTm.den, Tm.i, Tm.s, Tm.den, env, vInt, vBool, vStr, exI] <;> omega) ?_
      refine ev_need (by simp [BTm.den, Tm.i, Tm.s, Tm.den, env, vInt, vBool, vStr, exI] <;> omega) ?_
      refine ev_elem [.int .u32 (limb n i : Nat)] rfl rfl (l := mgl 32 n) (m := [.int .u32 (limb n i : Nat)]) (k := i) (by simp [BTm.den, Tm.i, Tm.s, Tm.den, env, vInt, vBool, vStr, exI] <;> omega) (fun β => rowCells_mgk 32 n) (fun β => rfl) (mgl_elem (by omega)) ?_
      refine ev_fits ((limb n i : Nat)) (by simp [BTm.den, Tm.i, Tm.s, Tm.den, env, vInt, vBool, vStr, exI]) (rng_u64 _ (by omega)) ?_
      refine ev_need (by simp [BTm.den, Tm.i, Tm.s, Tm.den, env, vInt, vBool, vStr, exI] <;> omega) ?_
      refine ev_need (by simp [BTm.den, Tm.i, Tm.s, Tm.den, env, vInt, vBool, vStr, exI] <;> omega) ?_
      refine ev_elem [.int .u32 (limb m i : Nat)] rfl rfl (l := mgl 32 m) (m := [.int .u32 (limb m i : Nat)]) (k := i) (by simp [BTm.den, Tm.i, Tm.s, Tm.den, env, vInt, vBool, vStr, exI] <;> omega) (fun β => rowCells_mgk 32 m) (fun β => rfl) (mgl_elem (by omega)) ?_
      refine ev_fits ((limb m i : Nat)) (by simp [BTm.den, Tm.i, Tm.s, Tm.den, env, vInt, vBool, vStr, exI]) (rng_u64 _ (by omega)) ?_
      refine ev_need (by simp [BTm.den, Tm.i, Tm.s, Tm.den, env, vInt, vBool, vStr, exI] <;> omega) ?_
      refine ev_need (by simp [BTm.den, Tm.i, Tm.s, Tm.den, env, vInt, vBool, vStr, exI] <;> omega) ?_
      obtain ⟨D, hD⟩ : ∃ D, D = (limb n i + 4294967296 - limb m i - c) % 4294967296 := ⟨_, rfl⟩
      have hDl : D < 4294967296 := by omega
      rw [← hD] at h1 h4
      have hput : mgl 32 W' = (mgl 32 W).take i ++ [.int .u32 (D : Nat)] ++ (mgl 32 W).drop (i + 1) := by
        rw [h4, ← put_low _ h5]; exact mgl_put (by omega) rfl hDl
      refine ev_put [.agg (mgk 32 W')] rfl rfl (l := mgl 32 W) (l' := mgl 32 W') (m := [.int .u32 (D : Nat)]) (k := i) (by simp [BTm.den, Tm.i, Tm.s, Tm.den, env, vInt, vBool, vStr, exI] <;> omega) (fun β => rowCells_mgk 32 _) (fun β => rowCells_mgk 32 _) (fun β => ?_) hput (by rw [mgl_length]; simp; omega) ?_
      · rw [← h1]; simp [BTm.den, Tm.i, Tm.s, Tm.den, env, vInt, vBool, vStr, exI, SW.den, SV.den, Cell.den, densP, Piece.den, denV, denT]
      refine ev_fits (((i + 1 : Nat) : Int)) (by simp [BTm.den, Tm.i, Tm.s, Tm.den, env, vInt, vBool, vStr, exI]) (rng_i64 _ (by omega)) ?_
      refine ev_nil ⟨[.int .i64 (i + 1 : Nat), .int .u64 (c' : Nat), .agg (mgk 32 W')], rfl, ⟨i + 1, by omega, by rw [hcc', hW']⟩, ?_, ?_⟩
      · simp [vInt]; omega
      · rw [← h2]; simp [BTm.den, Tm.i, Tm.s, Tm.den, env, vInt, vBool, vStr, exI, SW.den, SV.den, Cell.den, densP, Piece.den, denV, denT]
    · have hlt : i = 32 := by
        have : ¬ (i : Int) < 32 := by simpa [BTm.den, Tm.i, Tm.s, Tm.den, env, vInt, vBool, vStr, exI] using hlt
        omega
      subst hlt
      exact ⟨rfl, by simp [BTm.den, Tm.i, Tm.s, Tm.den, env, vInt, vBool, vStr, exI, SW.den, SV.den, Cell.den, densP, Piece.den, denV, denT]⟩
theorem mdif_all {n m : Nat} (hn : n < pw 32) (hm : m < pw 32) : mdif n m 32 = (n + pw 32 - m) % pw 32 := by
  unfold mdif; rw [Nat.mod_eq_of_lt hn, Nat.mod_eq_of_lt hm]
theorem rdiff_any (n m : Nat) : Gives Tryz.prog 71 #[.agg (mgk 32 n), .agg (mgk 32 m)] (.agg (mgk 32 (mdif n m 32))) := by
  have h := pure_of plain [.agg (mgk 32 n), .agg (mgk 32 m)] tDiff_ok (by kernel_rfl) (.agg (mgk 32 (mdif n m 32))) (tree_leaf ?_)
  · refine gives_pure ?_
    simpa [rowB, BTm.den, Tm.i, Tm.s, Tm.den, env, vInt, vBool, vStr, exI, SW.den, SV.den, Cell.den, densP, Piece.den, denV, denT, rowCells_mgk, mgl_agg] using h
  · have hl := rdiff_loop n m
    generalize mdif n m 32 = V at *
    generalize mbrw n m 32 = c at *
    refine ev_loop [.int .i64 (32 : Nat), .int .u64 (c : Nat), .agg (mgk 32 V)] rfl rfl hl (ev_nil fun β => ?_)
    simp [BTm.den, Tm.i, Tm.s, Tm.den, env, vInt, vBool, vStr, exI, SW.den, SV.den, Cell.den, densP, Piece.den, denV, denT, rowCells_mgk, mgl_agg]
theorem two_join (n : Nat) (hn : n < pw 2) : limb n 1 * 4294967296 + limb n 0 = n := by
  have h1 := mod_pw n 1
  have h0 := mod_pw n 0
  rw [mod_pw_zero] at h0
  rw [pw_zero] at h0
  rw [Nat.mod_eq_of_lt hn, h0, pw_one] at h1
  omega
theorem join_limbs (n : Nat) : ariI .or .u64 (shfI .shl .u64 ((limb n 1 : Nat) : Int) 32) ((limb n 0 : Nat) : Int) = ((limb n 1 * 4294967296 + limb n 0 : Nat) : Int) := by
  have h1 := limb_lt n 1
  have h0 := limb_lt n 0
  have := shl64_of (limb n 1) 32 4294967296 (by omega) rfl
  rw [show ((32 : Nat) : Int) = 32 by rfl] at this
  rw [this, Nat.mod_eq_of_lt (by omega)]
  exact ari_or64 (s := 32) _ _ (by omega) (by omega) (by omega) (by omega)
theorem rlow (n : Nat) (hn : n < pw 2) : Gives Tryz.prog 90 #[.agg (mgk 32 n)] (.int .u64 ((n : Nat) : Int)) := by
  have h := pure_of plain [.agg (mgk 32 n)] tLow_ok (by kernel_rfl) (.int .u64 ((n : Nat) : Int)) (tree_leaf ?_)
  · refine gives_pure ?_
    simpa [rowB, BTm.den, Tm.i, Tm.s, Tm.den, env, vInt, vBool, vStr, exI, SW.den, SV.den, Cell.den, densP, Piece.den, denV, denT, rowCells_mgk, mgl_agg] using h
  · have h1 := limb_lt n 1
    have h0 := limb_lt n 0
    have hj := join_limbs n
    rw [two_join n hn] at hj
    refine ev_elem [.int .u32 (limb n 1 : Nat)] rfl rfl (l := mgl 32 n) (m := [.int .u32 (limb n 1 : Nat)]) (k := 1) (by simp [BTm.den, Tm.i, Tm.s, Tm.den, env, vInt, vBool, vStr, exI] <;> omega) (fun β => rowCells_mgk 32 n) (fun β => rfl) (mgl_elem (by omega)) ?_
    refine ev_fits ((limb n 1 : Nat)) (by simp [BTm.den, Tm.i, Tm.s, Tm.den, env, vInt, vBool, vStr, exI]) (rng_u64 _ (by omega)) ?_
    refine ev_elem [.int .u32 (limb n 0 : Nat)] rfl rfl (l := mgl 32 n) (m := [.int .u32 (limb n 0 : Nat)]) (k := 0) (by simp [BTm.den, Tm.i, Tm.s, Tm.den, env, vInt, vBool, vStr, exI] <;> omega) (fun β => rowCells_mgk 32 n) (fun β => rfl) (mgl_elem (by omega)) ?_
    refine ev_fits ((limb n 0 : Nat)) (by simp [BTm.den, Tm.i, Tm.s, Tm.den, env, vInt, vBool, vStr, exI]) (rng_u64 _ (by omega)) ?_
    refine ev_nil fun β => ?_
    rw [← hj]
    simp [BTm.den, Tm.i, Tm.s, Tm.den, env, vInt, vBool, vStr, exI, SW.den, SV.den, Cell.den, densP, Piece.den, denV, denT]
theorem mgl_two (n : Nat) (hn : n < pw 2) : mgl 32 n = .int .u32 ((limb n 0 : Nat) : Int) :: .int .u32 ((limb n 1 : Nat) : Int) :: List.replicate 30 (.int .u32 0) := by
  apply List.ext_getElem?
  intro i
  by_cases hi : i < 32
  · rw [mgl_get hi]
    rcases Nat.lt_or_ge i 2 with h | h
    · rcases (by omega : i = 0 ∨ i = 1) with rfl | rfl <;> rfl
    · obtain ⟨j, rfl⟩ : ∃ j, i = j + 2 := ⟨i - 2, by omega⟩
      rw [limb_of_ge (Nat.lt_of_lt_of_le hn (pw_le h))]
      rw [List.getElem?_cons_succ, List.getElem?_cons_succ, List.getElem?_replicate, if_pos (by omega)]; rfl
  · rw [List.getElem?_eq_none (by rw [mgl_length]; omega), List.getElem?_eq_none (by simp; omega)]
theorem rsmall (n : Nat) (hn : n < pw 2) : Gives Tryz.prog 89 #[.int .u64 ((n : Nat) : Int)] (.agg (mgk 32 n)) := by
  have h := pure_of plain [.int .u64 (n : Nat)] tSmall_ok (by kernel_rfl) (.agg (mgk 32 n)) (tree_leaf (ev_nil fun β => ?_))
  · refine gives_pure ?_
    simpa [rowB, BTm.den, Tm.i, Tm.s, Tm.den, env, vInt, vBool, vStr, exI, SW.den, SV.den, Cell.den, densP, Piece.den, denV, denT, rowCells_mgk, mgl_agg] using h
  · rw [← mgl_agg, mgl_two n hn]
    have e0 : limb n 0 = n % 4294967296 := by unfold limb; rw [div_pw_zero]
    have e1 : limb n 1 = n / 4294967296 % 4294967296 := by unfold limb; rw [pw_one]
    have := shr32 n
    rw [e0, e1, ← wrap_u32, ← wrap_u32, ← this]
    simp [BTm.den, Tm.i, Tm.s, Tm.den, env, vInt, vBool, vStr, exI, SW.den, SV.den, Cell.den, densP, Piece.den, denV, denT]
end Go.Proofs.YtfdlgeomaballaaGreat
end
section
/- The document's own division: bit by bit. -/
namespace Go.Proofs.YtfdlgeomaballaaGreat
open Go.RowKit Go.Proofs.YtfdlgeomaballaaGreat.Sx
set_option linter.unusedSimpArgs false
set_option linter.unusedVariables false

theorem half_bit (A i : Nat) : A / 2 ^ i = 2 * (A / 2 ^ (i + 1)) + A / 2 ^ i % 2 := by
  rw [Nat.pow_succ, ← Nat.div_div_eq_div_mul]; omega
/-- One more bit of the dividend. -/
theorem bit_step {A B i : Nat} (hB : 0 < B) :
    A / 2 ^ i % B = (if B ≤ 2 * (A / 2 ^ (i + 1) % B) + A / 2 ^ i % 2 then 2 * (A / 2 ^ (i + 1) % B) + A / 2 ^ i % 2 - B else 2 * (A / 2 ^ (i + 1) % B) + A / 2 ^ i % 2) ∧
    A / 2 ^ i / B = 2 * (A / 2 ^ (i + 1) / B) + (if B ≤ 2 * (A / 2 ^ (i + 1) % B) + A / 2 ^ i % 2 then 1 else 0) := by
  have h := half_bit A i
  have hb : A / 2 ^ i % 2 < 2 := Nat.mod_lt _ (by omega)
  generalize A / 2 ^ i % 2 = b at *
  generalize A / 2 ^ i = D at *
  generalize A / 2 ^ (i + 1) = C at *
  have h1 := Nat.div_add_mod C B
  have h2 := Nat.mod_lt C hB
  generalize C / B = Q at *
  generalize C % B = R at *
  have e : 2 * (B * Q) = B * (2 * Q) := by rw [Nat.mul_left_comm]
  have e2 : B * (2 * Q + 1) = B * (2 * Q) + B := by rw [Nat.mul_add, Nat.mul_one]
  split
  · rename_i hle
    have hD : D = (2 * R + b - B) + B * (2 * Q + 1) := by omega
    have hlt : 2 * R + b - B < B := by omega
    rw [hD, Nat.add_mul_mod_self_left, Nat.mod_eq_of_lt hlt, Nat.add_mul_div_left _ _ hB, Nat.div_eq_of_lt hlt]
    omega
  · rename_i hle
    have hD : D = (2 * R + b) + B * (2 * Q) := by omega
    have hlt : 2 * R + b < B := by omega
    rw [hD, Nat.add_mul_mod_self_left, Nat.mod_eq_of_lt hlt, Nat.add_mul_div_left _ _ hB, Nat.div_eq_of_lt hlt]
    omega
theorem bit_limb (A i : Nat) : limb A (i / 32) / 2 ^ (i % 32) % 2 = A / 2 ^ i % 2 := by
  have hr : i % 32 < 32 := Nat.mod_lt _ (by omega)
  rw [shr_parts A i 0]
  unfold limb
  generalize A / pw (i / 32) = M
  rw [← pq32 (Nat.le_of_lt hr), Nat.mod_mul_right_div_self, Nat.mod_mod_of_dvd]
  exact ⟨2 ^ (31 - i % 32), by rw [Nat.mul_comm, ← Nat.pow_succ]; congr 1; omega⟩
theorem and_one32 (x : Nat) (hx : x < 4294967296) : ariI .and .u32 ((x : Nat) : Int) 1 = ((x % 2 : Nat) : Int) := by
  have := u32_and_nat x 1 hx (by omega)
  rw [Nat.and_one_is_mod] at this
  exact this
/-- The next bit of the quotient. -/
theorem quo_bit (Q i : Nat) (hlt : Q * 2 ^ (i + 1) < pw 32) :
    ariI .or .u32 ((limb (Q * 2 ^ (i + 1)) (i / 32) : Nat) : Int) ((2 ^ (i % 32) : Nat) : Int) = ((limb (Q * 2 ^ (i + 1)) (i / 32) + 2 ^ (i % 32) : Nat) : Int) ∧ limb (Q * 2 ^ (i + 1)) (i / 32) + 2 ^ (i % 32) < 4294967296 ∧ put (Q * 2 ^ (i + 1)) (i / 32) (limb (Q * 2 ^ (i + 1)) (i / 32) + 2 ^ (i % 32)) = (2 * Q + 1) * 2 ^ i := by
  have hr : i % 32 < 32 := Nat.mod_lt _ (by omega)
  have hs : 2 ^ (i + 1) = 2 ^ (i % 32 + 1) * pw (i / 32) := by
    rw [Nat.pow_succ, two_split i, Nat.pow_succ, Nat.mul_comm (pw _)]; ac_rfl
  have hl : limb (Q * 2 ^ (i + 1)) (i / 32) % 2 ^ (i % 32 + 1) = 0 := by
    unfold limb
    rw [hs, ← Nat.mul_assoc, Nat.mul_div_cancel _ (pw_pos _)]
    have := pq32 (show i % 32 + 1 ≤ 32 by omega)
    rw [← this, Nat.mod_mul_right_mod, Nat.mul_mod_left]
  have hp : put (Q * 2 ^ (i + 1)) (i / 32) (limb (Q * 2 ^ (i + 1)) (i / 32) + 2 ^ (i % 32)) = (2 * Q + 1) * 2 ^ i := by
    have h := put_add (Q * 2 ^ (i + 1)) (i / 32) (limb (Q * 2 ^ (i + 1)) (i / 32) + 2 ^ (i % 32))
    rw [Nat.add_mul _ _ (pw _)] at h
    have h2 : 2 ^ (i % 32) * pw (i / 32) = 2 ^ i := by rw [two_split i, Nat.mul_comm]
    have h3 : Q * 2 ^ (i + 1) = 2 * Q * 2 ^ i := by rw [Nat.pow_succ]; ac_rfl
    rw [h2] at h
    have h4 : (2 * Q + 1) * 2 ^ i = 2 * Q * 2 ^ i + 2 ^ i := by rw [Nat.add_mul, Nat.one_mul]
    omega
  have hll := limb_lt (Q * 2 ^ (i + 1)) (i / 32)
  generalize limb (Q * 2 ^ (i + 1)) (i / 32) = x at *
  have hpp := pq32 (show i % 32 + 1 ≤ 32 by omega)
  have hpr : 2 ^ (i % 32 + 1) = 2 * 2 ^ (i % 32) := by rw [Nat.pow_succ, Nat.mul_comm]
  have hpos := Nat.two_pow_pos (i % 32)
  have hb : x + 2 ^ (i % 32 + 1) ≤ 4294967296 := by
    have h1 := Nat.div_add_mod x (2 ^ (i % 32 + 1))
    rw [hl, Nat.add_zero] at h1
    have h2 : x / 2 ^ (i % 32 + 1) < 2 ^ (32 - (i % 32 + 1)) := by
      rw [Nat.div_lt_iff_lt_mul (Nat.two_pow_pos _), Nat.mul_comm, hpp]; exact hll
    have h3 : 2 ^ (i % 32 + 1) * (x / 2 ^ (i % 32 + 1) + 1) ≤ 4294967296 := by
      rw [← hpp]; exact Nat.mul_le_mul_left _ h2
    rw [Nat.mul_add, Nat.mul_one, h1] at h3
    exact h3
  exact ⟨ari_or32 (s := i % 32 + 1) x (2 ^ (i % 32)) hll (by omega) (by omega) hl, by omega, hp⟩
theorem one_shl {r : Nat} (hr : r < 32) : shfI .shl .u32 1 ((r : Nat) : Int) = ((2 ^ r : Nat) : Int) := by
  have := shl32_of 1 r (2 ^ r) (by omega) rfl
  rw [Nat.one_mul, Nat.mod_eq_of_lt] at this
  · exact this
  · rw [show (4294967296 : Nat) = 2 ^ 32 by rfl]; exact Nat.pow_lt_pow_right (by omega) hr
theorem cmpv_neg (a b : Nat) : cmpv a b < 0 ↔ a < b := by unfold cmpv; split <;> (try split) <;> omega

set_option maxHeartbeats 2000000 in
theorem rdivide_loop (A B s0 : Nat) (la lb ba bb : Int) (W0 : Nat) (hA : A < pw 32) (hB : 0 < B) (hBl : B < pw 32) (h0 : W0 = A / 2 ^ s0) (hlt : A / 2 ^ s0 < B) (hs : s0 ≤ 1024) (hst : ba - (bb - 1) - 1 = (s0 : Int) - 1) (Qe Re : Nat) (hQe : Qe = A / B) (hRe : Re = A % B) :
    Ev.holds Tryz.prog (env [.agg (mgk 32 A), .agg (mgk 32 B), .int .i64 (la : Int), .int .i64 (ba : Int), .int .i64 (bb : Int), .agg (mgk 32 W0), .int .i64 (-1), .agg (mgk 32 Qe), .agg (mgk 32 Re)]) (.loop 70 0 divS70_0 divH70_0 (.exit 0) .none 3) := by
  refine loop_holds plain (m := 3) (x := .exit 0) (alt := none) [.agg (mgk 32 A), .agg (mgk 32 B), .int .i64 (la : Int), .int .i64 (ba : Int), .int .i64 (bb : Int), .agg (mgk 32 W0)] [.int .i64 (-1), .agg (mgk 32 Qe), .agg (mgk 32 Re)] tDivide0_ok tDivide0_fine
    (fun vs => ∃ j : Nat, j ≤ s0 ∧ vs = [.int .i64 ((j : Int) - 1), .agg (mgk 32 (A / 2 ^ j / B * 2 ^ j)), .agg (mgk 32 (A / 2 ^ j % B))])
    (fun vs => (vInt (vs.getD 0 undef) + 1).toNat) tDivide0_diff ?_ ?_
  · refine ⟨[.int .i64 ((s0 : Int) - 1), .agg (mgk 32 (A / 2 ^ s0 / B * 2 ^ s0)), .agg (mgk 32 (A / 2 ^ s0 % B))], rfl, ⟨s0, by omega, rfl⟩, ?_⟩
    rw [Nat.div_eq_of_lt hlt, Nat.mod_eq_of_lt hlt, Nat.zero_mul, ← h0]
    have hz : rowCells (.agg (mgk 32 0)) 32 = List.replicate 32 (.int .u32 0) := by rw [rowCells_mgk, mgl_zero]
    simp [tDivide0_d, BTm.den, Tm.i, Tm.s, Tm.den, env, vInt, vBool, vStr, exI, SW.den, SV.den, Cell.den, densP, Piece.den, denV, denT, hz]
    omega
  · rintro vs hl ⟨j, hj, rfl⟩
    clear hl
    rcases j with _ | i
    · refine tree_ite (ev_nil (way_true (by simp [BTm.den, Tm.i, Tm.s, Tm.den, env, vInt, vBool, vStr, exI]) (tree_leaf (ev_nil ⟨rfl, ?_⟩))))
      have e1 : A / 2 ^ 0 / B * 2 ^ 0 = Qe := by rw [hQe, Nat.pow_zero, Nat.div_one, Nat.mul_one]
      have e2 : A / 2 ^ 0 % B = Re := by rw [hRe, Nat.pow_zero, Nat.div_one]
      rw [e1, e2]
      simp [BTm.den, Tm.i, Tm.s, Tm.den, env, vInt, vBool, vStr, exI, SW.den, SV.den, Cell.den, densP, Piece.den, denV, denT]
    · rw [show (((i + 1 : Nat) : Int) - 1) = ((i : Nat) : Int) by omega]
      have hqb := quo_bit (A / 2 ^ (i + 1) / B) i (Nat.lt_of_le_of_lt (Nat.le_trans (Nat.mul_le_mul_right _ (Nat.div_le_self _ _)) (Nat.div_mul_le_self _ _)) hA)
      obtain ⟨hbs1, hbs2⟩ := bit_step (A := A) (i := i) hB
      have hbit := bit_limb A i
      have hb2 : A / 2 ^ i % 2 < 2 := Nat.mod_lt _ (by omega)
      have hR : A / 2 ^ (i + 1) % B < B := Nat.mod_lt _ hB
      have hq : (i : Int).tdiv 32 = ((i / 32 : Nat) : Int) := tdivN i 32
      have hr : (i : Int).tmod 32 = ((i % 32 : Nat) : Int) := tmodN i 32
      have hil : i < 1024 := by omega
      have hx := limb_lt A (i / 32)
      have hsr := shr_of (k := .u32) (limb A (i / 32)) (i % 32) (2 ^ (i % 32)) (by show i % 32 ≤ 32; omega) rfl
      have hand := and_one32 (limb A (i / 32) / 2 ^ (i % 32)) (Nat.lt_of_le_of_lt (Nat.div_le_self _ _) hx)
      rw [hbit, ← hsr] at hand
      have h1s := one_shl (r := i % 32) (by omega)
      obtain ⟨hq1, hq2, hq3⟩ := hqb
      rw [← h1s] at hq1
      obtain ⟨bit, hbt⟩ : ∃ b, b = A / 2 ^ i % 2 := ⟨_, rfl⟩
      obtain ⟨R, hRR⟩ : ∃ b, b = A / 2 ^ (i + 1) % B := ⟨_, rfl⟩
      obtain ⟨R', hRR'⟩ : ∃ b, b = A / 2 ^ i % B := ⟨_, rfl⟩
      obtain ⟨Q, hQQ⟩ : ∃ b, b = A / 2 ^ (i + 1) / B := ⟨_, rfl⟩
      obtain ⟨Q', hQQ'⟩ : ∃ b, b = A / 2 ^ i / B := ⟨_, rfl⟩
      rw [← hbt, ← hRR, ← hRR'] at hbs1
      rw [← hbt, ← hRR, ← hQQ, ← hQQ'] at hbs2
      rw [← hbt] at hb2 hand
      rw [← hRR] at hR
      rw [← hQQ] at hq1 hq2 hq3
      rw [← hRR, ← hQQ]
      have hS' : (2 * Q) * 2 ^ i = Q * 2 ^ (i + 1) := by rw [Nat.pow_succ]; ac_rfl
      have hnext : Q' * 2 ^ i = if B ≤ 2 * R + bit then (2 * Q + 1) * 2 ^ i else Q * 2 ^ (i + 1) := by
        rw [hbs2]; split
        · rfl
        · rw [Nat.add_zero, hS']
      obtain ⟨S, hSS⟩ : ∃ b, b = Q * 2 ^ (i + 1) := ⟨_, rfl⟩
      obtain ⟨S', hSS'⟩ : ∃ b, b = Q' * 2 ^ i := ⟨_, rfl⟩
      obtain ⟨T, hTT⟩ : ∃ b, b = (2 * Q + 1) * 2 ^ i := ⟨_, rfl⟩
      rw [← hSS] at hq1 hq2 hq3 hnext
      rw [← hTT] at hq3 hnext
      rw [← hSS'] at hnext
      rw [← hSS]
      have hput : mgl 32 T = (mgl 32 S).take (i / 32) ++ [.int .u32 ((limb S (i / 32) + 2 ^ (i % 32) : Nat) : Int)] ++ (mgl 32 S).drop (i / 32 + 1) := by
        rw [← hq3]; exact mgl_put (by omega) rfl hq2
      have hD : (2 * R + bit) / pw 32 ≤ 1 := by
        have : (2 * R + bit) / pw 32 < 2 := by rw [Nat.div_lt_iff_lt_mul (pw_pos 32)]; omega
        omega
      have hdm := Nat.div_add_mod (2 * R + bit) (pw 32)
      have hdl := Nat.mod_lt (2 * R + bit) (pw_pos 32)
      have hdb := rdouble R bit (by omega) (by omega)
      have hmd := mdif_all (n := (2 * R + bit) % pw 32) hdl hBl
      have hdf := rdiff_any ((2 * R + bit) % pw 32) B
      rw [hmd] at hdf
      have hcm := rcompare ((2 * R + bit) % pw 32) B hdl hBl
      have hc0 := cmpv_neg ((2 * R + bit) % pw 32) B
      have hfin1 : (2 * R + bit) / pw 32 = 1 → S' = T ∧ R' = ((2 * R + bit) % pw 32 + pw 32 - B) % pw 32 := by
        intro h
        rw [h, Nat.mul_one] at hdm
        have hle : B ≤ 2 * R + bit := by omega
        rw [if_pos hle] at hnext hbs1
        refine ⟨hnext, ?_⟩
        rw [hbs1, Nat.mod_eq_of_lt (by omega)]; omega
      have hfin2 : (2 * R + bit) / pw 32 ≠ 1 → B ≤ (2 * R + bit) % pw 32 → S' = T ∧ R' = ((2 * R + bit) % pw 32 + pw 32 - B) % pw 32 := by
        intro h h2
        rw [(Nat.le_one_iff_eq_zero_or_eq_one.1 hD).resolve_right h, Nat.mul_zero, Nat.zero_add] at hdm
        have hle : B ≤ 2 * R + bit := by omega
        rw [if_pos hle] at hnext hbs1
        refine ⟨hnext, ?_⟩
        rw [hbs1, show (2 * R + bit) % pw 32 + pw 32 - B = (2 * R + bit - B) + pw 32 by omega, Nat.add_mod_right, Nat.mod_eq_of_lt (by omega)]
      have hfin3 : (2 * R + bit) / pw 32 ≠ 1 → (2 * R + bit) % pw 32 < B → S' = S ∧ R' = (2 * R + bit) % pw 32 := by
        intro h h2
        rw [(Nat.le_one_iff_eq_zero_or_eq_one.1 hD).resolve_right h, Nat.mul_zero, Nat.zero_add] at hdm
        have hle : ¬ B ≤ 2 * R + bit := by omega
        rw [if_neg hle] at hnext hbs1
        exact ⟨hnext, by omega⟩
      obtain ⟨E, hE⟩ : ∃ b, b = (2 * R + bit) % pw 32 := ⟨_, rfl⟩
      obtain ⟨c, hc⟩ : ∃ b, b = decide ((2 * R + bit) / pw 32 = 1) := ⟨_, rfl⟩
      obtain ⟨F, hF⟩ : ∃ b, b = (E + pw 32 - B) % pw 32 := ⟨_, rfl⟩
      rw [← hE, ← hc] at hdb
      rw [← hE, ← hF] at hfin1 hfin2 hdf
      rw [← hE] at hfin3 hcm hc0
      obtain ⟨cv, hcv⟩ : ∃ b, b = cmpv E B := ⟨_, rfl⟩
      rw [← hcv] at hc0 hcm
      have hinv : ∃ j : Nat, j ≤ s0 ∧ [Value.int .i64 ((i : Int) - 1), .agg (mgk 32 S'), .agg (mgk 32 R')] = [.int .i64 ((j : Int) - 1), .agg (mgk 32 (A / 2 ^ j / B * 2 ^ j)), .agg (mgk 32 (A / 2 ^ j % B))] :=
        ⟨i, by omega, by rw [hSS', hRR', hQQ']⟩
      clear hdm hdl hmd hD hbs1 hbs2 hnext
      refine tree_ite (ev_nil (way_false (by simp [BTm.den, Tm.i, Tm.s, Tm.den, env, vInt, vBool, vStr, exI] <;> omega) (tree_ite ?_)))
      refine ev_fits ((i / 32 : Nat) : Int) (by simp [BTm.den, Tm.i, Tm.s, Tm.den, env, vInt, vBool, vStr, exI, hq]) (rng_i64 _ (by omega)) ?_
      refine ev_need (by simp [BTm.den, Tm.i, Tm.s, Tm.den, env, vInt, vBool, vStr, exI, hq] <;> omega) ?_
      refine ev_need (by simp [BTm.den, Tm.i, Tm.s, Tm.den, env, vInt, vBool, vStr, exI, hq] <;> omega) ?_
      refine ev_elem [.int .u32 (limb A (i / 32) : Nat)] rfl rfl (l := mgl 32 A) (m := [.int .u32 (limb A (i / 32) : Nat)]) (k := i / 32) (by simp [BTm.den, Tm.i, Tm.s, Tm.den, env, vInt, vBool, vStr, exI, hq] <;> omega) (fun β => rowCells_mgk 32 A) (fun β => rfl) (mgl_elem (by omega)) ?_
      refine ev_fits ((i % 32 : Nat) : Int) (by simp [BTm.den, Tm.i, Tm.s, Tm.den, env, vInt, vBool, vStr, exI, hr]) (rng_i64 _ (by omega)) ?_
      refine ev_fits ((i % 32 : Nat) : Int) (by simp [BTm.den, Tm.i, Tm.s, Tm.den, env, vInt, vBool, vStr, exI, hr]) (rng_u64 _ (by omega)) ?_
      refine ev_need (by simp [BTm.den, Tm.i, Tm.s, Tm.den, env, vInt, vBool, vStr, exI, hr] <;> omega) ?_
      refine ev_call [.agg (mgk 32 E), .bool c] rfl rfl (pure_gives hdb) (fun β => by rw [← hand, ← hr]; simp [BTm.den, Tm.i, Tm.s, Tm.den, env, vInt, vBool, vStr, exI, SW.den, SV.den, Cell.den, densP, Piece.den, denV, denT, rowCells_mgk, mgl_agg]) (fun β => by simp [BTm.den, Tm.i, Tm.s, Tm.den, env, vInt, vBool, vStr, exI, SW.den, SV.den, Cell.den, densP, Piece.den, denV, denT, rowCells_mgk, mgl_agg]) ?_
      refine ev_nil ⟨fun hc1 => tree_leaf ?_, fun hc1 => tree_ite ?_⟩
      · have hc1 : c = true := by simpa [BTm.den, Tm.i, Tm.s, Tm.den, env, vInt, vBool, vStr, exI] using hc1
        obtain ⟨hf1, hf2⟩ := hfin1 (by rw [hc] at hc1; simpa using hc1)
        refine ev_call [.agg (mgk 32 F)] rfl rfl (pure_gives hdf) (fun β => by simp [BTm.den, Tm.i, Tm.s, Tm.den, env, vInt, vBool, vStr, exI, SW.den, SV.den, Cell.den, densP, Piece.den, denV, denT, rowCells_mgk, mgl_agg]) (fun β => by simp [BTm.den, Tm.i, Tm.s, Tm.den, env, vInt, vBool, vStr, exI, SW.den, SV.den, Cell.den, densP, Piece.den, denV, denT, rowCells_mgk, mgl_agg]) ?_
        refine ev_fits ((i / 32 : Nat) : Int) (by simp [BTm.den, Tm.i, Tm.s, Tm.den, env, vInt, vBool, vStr, exI, hq]) (rng_i64 _ (by omega)) ?_
        refine ev_need (by simp [BTm.den, Tm.i, Tm.s, Tm.den, env, vInt, vBool, vStr, exI, hq] <;> omega) ?_
        refine ev_need (by simp [BTm.den, Tm.i, Tm.s, Tm.den, env, vInt, vBool, vStr, exI, hq] <;> omega) ?_
        refine ev_elem [.int .u32 (limb S (i / 32) : Nat)] rfl rfl (l := mgl 32 S) (m := [.int .u32 (limb S (i / 32) : Nat)]) (k := i / 32) (by simp [BTm.den, Tm.i, Tm.s, Tm.den, env, vInt, vBool, vStr, exI, hq] <;> omega) (fun β => rowCells_mgk 32 S) (fun β => rfl) (mgl_elem (by omega)) ?_
        refine ev_fits ((i % 32 : Nat) : Int) (by simp [BTm.den, Tm.i, Tm.s, Tm.den, env, vInt, vBool, vStr, exI, hr]) (rng_i64 _ (by omega)) ?_
        refine ev_fits ((i % 32 : Nat) : Int) (by simp [BTm.den, Tm.i, Tm.s, Tm.den, env, vInt, vBool, vStr, exI, hr]) (rng_u64 _ (by omega)) ?_
        refine ev_need (by simp [BTm.den, Tm.i, Tm.s, Tm.den, env, vInt, vBool, vStr, exI, hr] <;> omega) ?_
        refine ev_need (by simp [BTm.den, Tm.i, Tm.s, Tm.den, env, vInt, vBool, vStr, exI, hq] <;> omega) ?_
        refine ev_need (by simp [BTm.den, Tm.i, Tm.s, Tm.den, env, vInt, vBool, vStr, exI, hq] <;> omega) ?_
        refine ev_put [.agg (mgk 32 T)] rfl rfl (l := mgl 32 S) (l' := mgl 32 T) (m := [.int .u32 ((limb S (i / 32) + 2 ^ (i % 32) : Nat) : Int)]) (k := i / 32) (by simp [BTm.den, Tm.i, Tm.s, Tm.den, env, vInt, vBool, vStr, exI, hq] <;> omega) (fun β => rowCells_mgk 32 _) (fun β => rowCells_mgk 32 _) (fun β => ?_) hput (by rw [mgl_length]; simp; omega) ?_
        · rw [← hq1, ← hr]; simp [BTm.den, Tm.i, Tm.s, Tm.den, env, vInt, vBool, vStr, exI, SW.den, SV.den, Cell.den, densP, Piece.den, denV, denT]
        refine ev_fits ((i : Int) - 1) (by simp [BTm.den, Tm.i, Tm.s, Tm.den, env, vInt, vBool, vStr, exI]) (rng_i64 _ (by omega)) ?_
        refine ev_nil ⟨[.int .i64 ((i : Int) - 1), .agg (mgk 32 S'), .agg (mgk 32 R')], rfl, hinv, ?_, ?_⟩
        · simp [vInt]
        · rw [hf1, hf2]; simp [BTm.den, Tm.i, Tm.s, Tm.den, env, vInt, vBool, vStr, exI, SW.den, SV.den, Cell.den, densP, Piece.den, denV, denT]
      · have hc1 : c = false := by simpa [BTm.den, Tm.i, Tm.s, Tm.den, env, vInt, vBool, vStr, exI] using hc1
        have hcc : (2 * R + bit) / pw 32 ≠ 1 := by rw [hc] at hc1; simpa using hc1
        refine ev_call [.int .i64 cv] rfl rfl (pure_gives hcm) (fun β => by simp [BTm.den, Tm.i, Tm.s, Tm.den, env, vInt, vBool, vStr, exI, SW.den, SV.den, Cell.den, densP, Piece.den, denV, denT, rowCells_mgk, mgl_agg]) (fun β => by simp [BTm.den, Tm.i, Tm.s, Tm.den, env, vInt, vBool, vStr, exI, SW.den, SV.den, Cell.den, densP, Piece.den, denV, denT, rowCells_mgk, mgl_agg]) ?_
        refine ev_nil ⟨fun hc2 => tree_leaf ?_, fun hc2 => tree_leaf ?_⟩
        · have hc2 : cv < 0 := by simpa [BTm.den, Tm.i, Tm.s, Tm.den, env, vInt, vBool, vStr, exI] using hc2
          obtain ⟨hf1, hf2⟩ := hfin3 hcc (hc0.1 hc2)
          refine ev_fits ((i : Int) - 1) (by simp [BTm.den, Tm.i, Tm.s, Tm.den, env, vInt, vBool, vStr, exI]) (rng_i64 _ (by omega)) ?_
          refine ev_nil ⟨[.int .i64 ((i : Int) - 1), .agg (mgk 32 S'), .agg (mgk 32 R')], rfl, hinv, ?_, ?_⟩
          · simp [vInt]
          · rw [hf1, hf2]; simp [BTm.den, Tm.i, Tm.s, Tm.den, env, vInt, vBool, vStr, exI, SW.den, SV.den, Cell.den, densP, Piece.den, denV, denT]
        · have hc2 : ¬ cv < 0 := by simpa [BTm.den, Tm.i, Tm.s, Tm.den, env, vInt, vBool, vStr, exI] using hc2
          obtain ⟨hf1, hf2⟩ := hfin2 hcc (by have := mt hc0.2 hc2; omega)
          refine ev_call [.agg (mgk 32 F)] rfl rfl (pure_gives hdf) (fun β => by simp [BTm.den, Tm.i, Tm.s, Tm.den, env, vInt, vBool, vStr, exI, SW.den, SV.den, Cell.den, densP, Piece.den, denV, denT, rowCells_mgk, mgl_agg]) (fun β => by simp [BTm.den, Tm.i, Tm.s, Tm.den, env, vInt, vBool, vStr, exI, SW.den, SV.den, Cell.den, densP, Piece.den, denV, denT, rowCells_mgk, mgl_agg]) ?_
          refine ev_fits ((i / 32 : Nat) : Int) (by simp [BTm.den, Tm.i, Tm.s, Tm.den, env, vInt, vBool, vStr, exI, hq]) (rng_i64 _ (by omega)) ?_
          refine ev_need (by simp [BTm.den, Tm.i, Tm.s, Tm.den, env, vInt, vBool, vStr, exI, hq] <;> omega) ?_
          refine ev_need (by simp [BTm.den, Tm.i, Tm.s, Tm.den, env, vInt, vBool, vStr, exI, hq] <;> omega) ?_
          refine ev_elem [.int .u32 (limb S (i / 32) : Nat)] rfl rfl (l := mgl 32 S) (m := [.int .u32 (limb S (i / 32) : Nat)]) (k := i / 32) (by simp [BTm.den, Tm.i, Tm.s, Tm.den, env, vInt, vBool, vStr, exI, hq] <;> omega) (fun β => rowCells_mgk 32 S) (fun β => rfl) (mgl_elem (by omega)) ?_
          refine ev_fits ((i % 32 : Nat) : Int) (by simp [BTm.den, Tm.i, Tm.s, Tm.den, env, vInt, vBool, vStr, exI, hr]) (rng_i64 _ (by omega)) ?_
          refine ev_fits ((i % 32 : Nat) : Int) (by simp [BTm.den, Tm.i, Tm.s, Tm.den, env, vInt, vBool, vStr, exI, hr]) (rng_u64 _ (by omega)) ?_
          refine ev_need (by simp [BTm.den, Tm.i, Tm.s, Tm.den, env, vInt, vBool, vStr, exI, hr] <;> omega) ?_
          refine ev_need (by simp [BTm.den, Tm.i, Tm.s, Tm.den, env, vInt, vBool, vStr, exI, hq] <;> omega) ?_
          refine ev_need (by simp [BTm.den, Tm.i, Tm.s, Tm.den, env, vInt, vBool, vStr, exI, hq] <;> omega) ?_
          refine ev_put [.agg (mgk 32 T)] rfl rfl (l := mgl 32 S) (l' := mgl 32 T) (m := [.int .u32 ((limb S (i / 32) + 2 ^ (i % 32) : Nat) : Int)]) (k := i / 32) (by simp [BTm.den, Tm.i, Tm.s, Tm.den, env, vInt, vBool, vStr, exI, hq] <;> omega) (fun β => rowCells_mgk 32 _) (fun β => rowCells_mgk 32 _) (fun β => ?_) hput (by rw [mgl_length]; simp; omega) ?_
          · rw [← hq1, ← hr]; simp [BTm.den, Tm.i, Tm.s, Tm.den, env, vInt, vBool, vStr, exI, SW.den, SV.den, Cell.den, densP, Piece.den, denV, denT]
          refine ev_fits ((i : Int) - 1) (by simp [BTm.den, Tm.i, Tm.s, Tm.den, env, vInt, vBool, vStr, exI]) (rng_i64 _ (by omega)) ?_
          refine ev_nil ⟨[.int .i64 ((i : Int) - 1), .agg (mgk 32 S'), .agg (mgk 32 R')], rfl, hinv, ?_, ?_⟩
          · simp [vInt]
          · rw [hf1, hf2]; simp [BTm.den, Tm.i, Tm.s, Tm.den, env, vInt, vBool, vStr, exI, SW.den, SV.den, Cell.den, densP, Piece.den, denV, denT]

set_option maxHeartbeats 2000000 in
theorem rdivide_loopb (A B s0 : Nat) (la lb ba bb : Int) (W0 : Nat) (hA : A < pw 32) (hB : 0 < B) (hBl : B < pw 32) (h0 : W0 = A / 2 ^ s0) (hlt : A / 2 ^ s0 < B) (hs : s0 ≤ 1024) (hst : ba - (bb - 1) - 1 = (s0 : Int) - 1) (Qe Re : Nat) (hQe : Qe = A / B) (hRe : Re = A % B) :
    Ev.holds Tryz.prog (env [.agg (mgk 32 A), .agg (mgk 32 B), .int .i64 (la : Int), .int .i64 (lb : Int), .int .i64 (ba : Int), .int .i64 (bb : Int), .agg (mgk 32 W0), .int .i64 (-1), .agg (mgk 32 Qe), .agg (mgk 32 Re)]) (.loop 70 0 divS70_0b divH70_0b (.exit 0) .none 3) := by
  refine loop_holds plain (m := 3) (x := .exit 0) (alt := none) [.agg (mgk 32 A), .agg (mgk 32 B), .int .i64 (la : Int), .int .i64 (lb : Int), .int .i64 (ba : Int), .int .i64 (bb : Int), .agg (mgk 32 W0)] [.int .i64 (-1), .agg (mgk 32 Qe), .agg (mgk 32 Re)] tDivide0b_ok tDivide0b_fine
    (fun vs => ∃ j : Nat, j ≤ s0 ∧ vs = [.int .i64 ((j : Int) - 1), .agg (mgk 32 (A / 2 ^ j / B * 2 ^ j)), .agg (mgk 32 (A / 2 ^ j % B))])
    (fun vs => (vInt (vs.getD 0 undef) + 1).toNat) tDivide0b_diff ?_ ?_
  · refine ⟨[.int .i64 ((s0 : Int) - 1), .agg (mgk 32 (A / 2 ^ s0 / B * 2 ^ s0)), .agg (mgk 32 (A / 2 ^ s0 % B))], rfl, ⟨s0, by omega, rfl⟩, ?_⟩
    rw [Nat.div_eq_of_lt hlt, Nat.mod_eq_of_lt hlt, Nat.zero_mul, ← h0]
    have hz : rowCells (.agg (mgk 32 0)) 32 = List.replicate 32 (.int .u32 0) := by rw [rowCells_mgk, mgl_zero]
    simp [tDivide0b_d, BTm.den, Tm.i, Tm.s, Tm.den, env, vInt, vBool, vStr, exI, SW.den, SV.den, Cell.den, densP, Piece.den, denV, denT, hz]
    omega
  · rintro vs hl ⟨j, hj, rfl⟩
    clear hl
    rcases j with _ | i
    · refine tree_ite (ev_nil (way_true (by simp [BTm.den, Tm.i, Tm.s, Tm.den, env, vInt, vBool, vStr, exI]) (tree_leaf (ev_nil ⟨rfl, ?_⟩))))
      have e1 : A / 2 ^ 0 / B * 2 ^ 0 = Qe := by rw [hQe, Nat.pow_zero, Nat.div_one, Nat.mul_one]
      have e2 : A / 2 ^ 0 % B = Re := by rw [hRe, Nat.pow_zero, Nat.div_one]
      rw [e1, e2]
      simp [BTm.den, Tm.i, Tm.s, Tm.den, env, vInt, vBool, vStr, exI, SW.den, SV.den, Cell.den, densP, Piece.den, denV, denT]
    · rw [show (((i + 1 : Nat) : Int) - 1) = ((i : Nat) : Int) by omega]
      have hqb := quo_bit (A / 2 ^ (i + 1) / B) i (Nat.lt_of_le_of_lt (Nat.le_trans (Nat.mul_le_mul_right _ (Nat.div_le_self _ _)) (Nat.div_mul_le_self _ _)) hA)
      obtain ⟨hbs1, hbs2⟩ := bit_step (A := A) (i := i) hB
      have hbit := bit_limb A i
      have hb2 : A / 2 ^ i % 2 < 2 := Nat.mod_lt _ (by omega)
      have hR : A / 2 ^ (i + 1) % B < B := Nat.mod_lt _ hB
      have hq : (i : Int).tdiv 32 = ((i / 32 : Nat) : Int) := tdivN i 32
      have hr : (i : Int).tmod 32 = ((i % 32 : Nat) : Int) := tmodN i 32
      have hil : i < 1024 := by omega
      have hx := limb_lt A (i / 32)
      have hsr := shr_of (k := .u32) (limb A (i / 32)) (i % 32) (2 ^ (i % 32)) (by show i % 32 ≤ 32; omega) rfl
      have hand := and_one32 (limb A (i / 32) / 2 ^ (i % 32)) (Nat.lt_of_le_of_lt (Nat.div_le_self _ _) hx)
      rw [hbit, ← hsr] at hand
      have h1s := one_shl (r := i % 32) (by omega)
      obtain ⟨hq1, hq2, hq3⟩ := hqb
      rw [← h1s] at hq1
      obtain ⟨bit, hbt⟩ : ∃ b, b = A / 2 ^ i % 2 := ⟨_, rfl⟩
      obtain ⟨R, hRR⟩ : ∃ b, b = A / 2 ^ (i + 1) % B := ⟨_, rfl⟩
      obtain ⟨R', hRR'⟩ : ∃ b, b = A / 2 ^ i % B := ⟨_, rfl⟩
      obtain ⟨Q, hQQ⟩ : ∃ b, b = A / 2 ^ (i + 1) / B := ⟨_, rfl⟩
      obtain ⟨Q', hQQ'⟩ : ∃ b, b = A / 2 ^ i / B := ⟨_, rfl⟩
      rw [← hbt, ← hRR, ← hRR'] at hbs1
      rw [← hbt, ← hRR, ← hQQ, ← hQQ'] at hbs2
      rw [← hbt] at hb2 hand
      rw [← hRR] at hR
      rw [← hQQ] at hq1 hq2 hq3
      rw [← hRR, ← hQQ]
      have hS' : (2 * Q) * 2 ^ i = Q * 2 ^ (i + 1) := by rw [Nat.pow_succ]; ac_rfl
      have hnext : Q' * 2 ^ i = if B ≤ 2 * R + bit then (2 * Q + 1) * 2 ^ i else Q * 2 ^ (i + 1) := by
        rw [hbs2]; split
        · rfl
        · rw [Nat.add_zero, hS']
      obtain ⟨S, hSS⟩ : ∃ b, b = Q * 2 ^ (i + 1) := ⟨_, rfl⟩
      obtain ⟨S', hSS'⟩ : ∃ b, b = Q' * 2 ^ i := ⟨_, rfl⟩
      obtain ⟨T, hTT⟩ : ∃ b, b = (2 * Q + 1) * 2 ^ i := ⟨_, rfl⟩
      rw [← hSS] at hq1 hq2 hq3 hnext
      rw [← hTT] at hq3 hnext
      rw [← hSS'] at hnext
      rw [← hSS]
      have hput : mgl 32 T = (mgl 32 S).take (i / 32) ++ [.int .u32 ((limb S (i / 32) + 2 ^ (i % 32) : Nat) : Int)] ++ (mgl 32 S).drop (i / 32 + 1) := by
        rw [← hq3]; exact mgl_put (by omega) rfl hq2
      have hD : (2 * R + bit) / pw 32 ≤ 1 := by
        have : (2 * R + bit) / pw 32 < 2 := by rw [Nat.div_lt_iff_lt_mul (pw_pos 32)]; omega
        omega
      have hdm := Nat.div_add_mod (2 * R + bit) (pw 32)
      have hdl := Nat.mod_lt (2 * R + bit) (pw_pos 32)
      have hdb := rdouble R bit (by omega) (by omega)
      have hmd := mdif_all (n := (2 * R + bit) % pw 32) hdl hBl
      have hdf := rdiff_any ((2 * R + bit) % pw 32) B
      rw [hmd] at hdf
      have hcm := rcompare ((2 * R + bit) % pw 32) B hdl hBl
      have hc0 := cmpv_neg ((2 * R + bit) % pw 32) B
      have hfin1 : (2 * R + bit) / pw 32 = 1 → S' = T ∧ R' = ((2 * R + bit) % pw 32 + pw 32 - B) % pw 32 := by
        intro h
        rw [h, Nat.mul_one] at hdm
        have hle : B ≤ 2 * R + bit := by omega
        rw [if_pos hle] at hnext hbs1
        refine ⟨hnext, ?_⟩
        rw [hbs1, Nat.mod_eq_of_lt (by omega)]; omega
      have hfin2 : (2 * R + bit) / pw 32 ≠ 1 → B ≤ (2 * R + bit) % pw 32 → S' = T ∧ R' = ((2 * R + bit) % pw 32 + pw 32 - B) % pw 32 := by
        intro h h2
        rw [(Nat.le_one_iff_eq_zero_or_eq_one.1 hD).resolve_right h, Nat.mul_zero, Nat.zero_add] at hdm
        have hle : B ≤ 2 * R + bit := by omega
        rw [if_pos hle] at hnext hbs1
        refine ⟨hnext, ?_⟩
        rw [hbs1, show (2 * R + bit) % pw 32 + pw 32 - B = (2 * R + bit - B) + pw 32 by omega, Nat.add_mod_right, Nat.mod_eq_of_lt (by omega)]
      have hfin3 : (2 * R + bit) / pw 32 ≠ 1 → (2 * R + bit) % pw 32 < B → S' = S ∧ R' = (2 * R + bit) % pw 32 := by
        intro h h2
        rw [(Nat.le_one_iff_eq_zero_or_eq_one.1 hD).resolve_right h, Nat.mul_zero, Nat.zero_add] at hdm
        have hle : ¬ B ≤ 2 * R + bit := by omega
        rw [if_neg hle] at hnext hbs1
        exact ⟨hnext, by omega⟩
      obtain ⟨E, hE⟩ : ∃ b, b = (2 * R + bit) % pw 32 := ⟨_, rfl⟩
      obtain ⟨c, hc⟩ : ∃ b, b = decide ((2 * R + bit) / pw 32 = 1) := ⟨_, rfl⟩
      obtain ⟨F, hF⟩ : ∃ b, b = (E + pw 32 - B) % pw 32 := ⟨_, rfl⟩
      rw [← hE, ← hc] at hdb
      rw [← hE, ← hF] at hfin1 hfin2 hdf
      rw [← hE] at hfin3 hcm hc0
      obtain ⟨cv, hcv⟩ : ∃ b, b = cmpv E B := ⟨_, rfl⟩
      rw [← hcv] at hc0 hcm
      have hinv : ∃ j : Nat, j ≤ s0 ∧ [Value.int .i64 ((i : Int) - 1), .agg (mgk 32 S'), .agg (mgk 32 R')] = [.int .i64 ((j : Int) - 1), .agg (mgk 32 (A / 2 ^ j / B * 2 ^ j)), .agg (mgk 32 (A / 2 ^ j % B))] :=
        ⟨i, by omega, by rw [hSS', hRR', hQQ']⟩
      clear hdm hdl hmd hD hbs1 hbs2 hnext
      refine tree_ite (ev_nil (way_false (by simp [BTm.den, Tm.i, Tm.s, Tm.den, env, vInt, vBool, vStr, exI] <;> omega) (tree_ite ?_)))
      refine ev_fits ((i / 32 : Nat) : Int) (by simp [BTm.den, Tm.i, Tm.s, Tm.den, env, vInt, vBool, vStr, exI, hq]) (rng_i64 _ (by omega)) ?_
      refine ev_need (by simp [BTm.den, Tm.i, Tm.s, Tm.den, env, vInt, vBool, vStr, exI, hq] <;> omega) ?_
      refine ev_need (by simp [BTm.den, Tm.i, Tm.s, Tm.den, env, vInt, vBool, vStr, exI, hq] <;> omega) ?_
      refine ev_elem [.int .u32 (limb A (i / 32) : Nat)] rfl rfl (l := mgl 32 A) (m := [.int .u32 (limb A (i / 32) : Nat)]) (k := i / 32) (by simp [BTm.den, Tm.i, Tm.s, Tm.den, env, vInt, vBool, vStr, exI, hq] <;> omega) (fun β => rowCells_mgk 32 A) (fun β => rfl) (mgl_elem (by omega)) ?_
      refine ev_fits ((i % 32 : Nat) : Int) (by simp [BTm.den, Tm.i, Tm.s, Tm.den, env, vInt, vBool, vStr, exI, hr]) (rng_i64 _ (by omega)) ?_
      refine ev_fits ((i % 32 : Nat) : Int) (by simp [BTm.den, Tm.i, Tm.s, Tm.den, env, vInt, vBool, vStr, exI, hr]) (rng_u64 _ (by omega)) ?_
      refine ev_need (by simp [BTm.den, Tm.i, Tm.s, Tm.den, env, vInt, vBool, vStr, exI, hr] <;> omega) ?_
      refine ev_call [.agg (mgk 32 E), .bool c] rfl rfl (pure_gives hdb) (fun β => by rw [← hand, ← hr]; simp [BTm.den, Tm.i, Tm.s, Tm.den, env, vInt, vBool, vStr, exI, SW.den, SV.den, Cell.den, densP, Piece.den, denV, denT, rowCells_mgk, mgl_agg]) (fun β => by simp [BTm.den, Tm.i, Tm.s, Tm.den, env, vInt, vBool, vStr, exI, SW.den, SV.den, Cell.den, densP, Piece.den, denV, denT, rowCells_mgk, mgl_agg]) ?_
      refine ev_nil ⟨fun hc1 => tree_leaf ?_, fun hc1 => tree_ite ?_⟩
      · have hc1 : c = true := by simpa [BTm.den, Tm.i, Tm.s, Tm.den, env, vInt, vBool, vStr, exI] using hc1
        obtain ⟨hf1, hf2⟩ := hfin1 (by rw [hc] at hc1; simpa using hc1)
        refine ev_call [.agg (mgk 32 F)] rfl rfl (pure_gives hdf) (fun β => by simp [BTm.den, Tm.i, Tm.s, Tm.den, env, vInt, vBool, vStr, exI, SW.den, SV.den, Cell.den, densP, Piece.den, denV, denT, rowCells_mgk, mgl_agg]) (fun β => by simp [BTm.den, Tm.i, Tm.s, Tm.den, env, vInt, vBool, vStr, exI, SW.den, SV.den, Cell.den, densP, Piece.den, denV, denT, rowCells_mgk, mgl_agg]) ?_
        refine ev_fits ((i / 32 : Nat) : Int) (by simp [BTm.den, Tm.i, Tm.s, Tm.den, env, vInt, vBool, vStr, exI, hq]) (rng_i64 _ (by omega)) ?_
        refine ev_need (by simp [BTm.den, Tm.i, Tm.s, Tm.den, env, vInt, vBool, vStr, exI, hq] <;> omega) ?_
        refine ev_need (by simp [BTm.den, Tm.i, Tm.s, Tm.den, env, vInt, vBool, vStr, exI, hq] <;> omega) ?_
        refine ev_elem [.int .u32 (limb S (i / 32) : Nat)] rfl rfl (l := mgl 32 S) (m := [.int .u32 (limb S (i / 32) : Nat)]) (k := i / 32) (by simp [BTm.den, Tm.i, Tm.s, Tm.den, env, vInt, vBool, vStr, exI, hq] <;> omega) (fun β => rowCells_mgk 32 S) (fun β => rfl) (mgl_elem (by omega)) ?_
        refine ev_fits ((i % 32 : Nat) : Int) (by simp [BTm.den, Tm.i, Tm.s, Tm.den, env, vInt, vBool, vStr, exI, hr]) (rng_i64 _ (by omega)) ?_
        refine ev_fits ((i % 32 : Nat) : Int) (by simp [BTm.den, Tm.i, Tm.s, Tm.den, env, vInt, vBool, vStr, exI, hr]) (rng_u64 _ (by omega)) ?_
        refine ev_need (by simp [BTm.den, Tm.i, Tm.s, Tm.den, env, vInt, vBool, vStr, exI, hr] <;> omega) ?_
        refine ev_need (by simp [BTm.den, Tm.i, Tm.s, Tm.den, env, vInt, vBool, vStr, exI, hq] <;> omega) ?_
        refine ev_need (by simp [BTm.den, Tm.i, Tm.s, Tm.den, env, vInt, vBool, vStr, exI, hq] <;> omega) ?_
        refine ev_put [.agg (mgk 32 T)] rfl rfl (l := mgl 32 S) (l' := mgl 32 T) (m := [.int .u32 ((limb S (i / 32) + 2 ^ (i % 32) : Nat) : Int)]) (k := i / 32) (by simp [BTm.den, Tm.i, Tm.s, Tm.den, env, vInt, vBool, vStr, exI, hq] <;> omega) (fun β => rowCells_mgk 32 _) (fun β => rowCells_mgk 32 _) (fun β => ?_) hput (by rw [mgl_length]; simp; omega) ?_
        · rw [← hq1, ← hr]; simp [BTm.den, Tm.i, Tm.s, Tm.den, env, vInt, vBool, vStr, exI, SW.den, SV.den, Cell.den, densP, Piece.den, denV, denT]
        refine ev_fits ((i : Int) - 1) (by simp [BTm.den, Tm.i, Tm.s, Tm.den, env, vInt, vBool, vStr, exI]) (rng_i64 _ (by omega)) ?_
        refine ev_nil ⟨[.int .i64 ((i : Int) - 1), .agg (mgk 32 S'), .agg (mgk 32 R')], rfl, hinv, ?_, ?_⟩
        · simp [vInt]
        · rw [hf1, hf2]; simp [BTm.den, Tm.i, Tm.s, Tm.den, env, vInt, vBool, vStr, exI, SW.den, SV.den, Cell.den, densP, Piece.den, denV, denT]
      · have hc1 : c = false := by simpa [BTm.den, Tm.i, Tm.s, Tm.den, env, vInt, vBool, vStr, exI] using hc1
        have hcc : (2 * R + bit) / pw 32 ≠ 1 := by rw [hc] at hc1; simpa using hc1
        refine ev_call [.int .i64 cv] rfl rfl (pure_gives hcm) (fun β => by simp [BTm.den, Tm.i, Tm.s, Tm.den, env, vInt, vBool, vStr, exI, SW.den, SV.den, Cell.den, densP, Piece.den, denV, denT, rowCells_mgk, mgl_agg]) (fun β => by simp [BTm.den, Tm.i, Tm.s, Tm.den, env, vInt, vBool, vStr, exI, SW.den, SV.den, Cell.den, densP, Piece.den, denV, denT, rowCells_mgk, mgl_agg]) ?_
        refine ev_nil ⟨fun hc2 => tree_leaf ?_, fun hc2 => tree_leaf ?_⟩
        · have hc2 : cv < 0 := by simpa [BTm.den, Tm.i, Tm.s, Tm.den, env, vInt, vBool, vStr, exI] using hc2
          obtain ⟨hf1, hf2⟩ := hfin3 hcc (hc0.1 hc2)
          refine ev_fits ((i : Int) - 1) (by simp [BTm.den, Tm.i, Tm.s, Tm.den, env, vInt, vBool, vStr, exI]) (rng_i64 _ (by omega)) ?_
          refine ev_nil ⟨[.int .i64 ((i : Int) - 1), .agg (mgk 32 S'), .agg (mgk 32 R')], rfl, hinv, ?_, ?_⟩
          · simp [vInt]
          · rw [hf1, hf2]; simp [BTm.den, Tm.i, Tm.s, Tm.den, env, vInt, vBool, vStr, exI, SW.den, SV.den, Cell.den, densP, Piece.den, denV, denT]
        · have hc2 : ¬ cv < 0 := by simpa [BTm.den, Tm.i, Tm.s, Tm.den, env, vInt, vBool, vStr, exI] using hc2
          obtain ⟨hf1, hf2⟩ := hfin2 hcc (by have := mt hc0.2 hc2; omega)
          refine ev_call [.agg (mgk 32 F)] rfl rfl (pure_gives hdf) (fun β => by simp [BTm.den, Tm.i, Tm.s, Tm.den, env, vInt, vBool, vStr, exI, SW.den, SV.den, Cell.den, densP, Piece.den, denV, denT, rowCells_mgk, mgl_agg]) (fun β => by simp [BTm.den, Tm.i, Tm.s, Tm.den, env, vInt, vBool, vStr, exI, SW.den, SV.den, Cell.den, densP, Piece.den, denV, denT, rowCells_mgk, mgl_agg]) ?_
          refine ev_fits ((i / 32 : Nat) : Int) (by simp [BTm.den, Tm.i, Tm.s, Tm.den, env, vInt, vBool, vStr, exI, hq]) (rng_i64 _ (by omega)) ?_
          refine ev_need (by simp [BTm.den, Tm.i, Tm.s, Tm.den, env, vInt, vBool, vStr, exI, hq] <;> omega) ?_
          refine ev_need (by simp [BTm.den, Tm.i, Tm.s, Tm.den, env, vInt, vBool, vStr, exI, hq] <;> omega) ?_
          refine ev_elem [.int .u32 (limb S (i / 32) : Nat)] rfl rfl (l := mgl 32 S) (m := [.int .u32 (limb S (i / 32) : Nat)]) (k := i / 32) (by simp [BTm.den, Tm.i, Tm.s, Tm.den, env, vInt, vBool, vStr, exI, hq] <;> omega) (fun β => rowCells_mgk 32 S) (fun β => rfl) (mgl_elem (by omega)) ?_
          refine ev_fits ((i % 32 : Nat) : Int) (by simp [BTm.den, Tm.i, Tm.s, Tm.den, env, vInt, vBool, vStr, exI, hr]) (rng_i64 _ (by omega)) ?_
          refine ev_fits ((i % 32 : Nat) : Int) (by simp [BTm.den, Tm.i, Tm.s, Tm.den, env, vInt, vBool, vStr, exI, hr]) (rng_u64 _ (by omega)) ?_
          refine ev_need (by simp [BTm.den, Tm.i, Tm.s, Tm.den, env, vInt, vBool, vStr, exI, hr] <;> omega) ?_
          refine ev_need (by simp [BTm.den, Tm.i, Tm.s, Tm.den, env, vInt, vBool, vStr, exI, hq] <;> omega) ?_
          refine ev_need (by simp [BTm.den, Tm.i, Tm.s, Tm.den, env, vInt, vBool, vStr, exI, hq] <;> omega) ?_
          refine ev_put [.agg (mgk 32 T)] rfl rfl (l := mgl 32 S) (l' := mgl 32 T) (m := [.int .u32 ((limb S (i / 32) + 2 ^ (i % 32) : Nat) : Int)]) (k := i / 32) (by simp [BTm.den, Tm.i, Tm.s, Tm.den, env, vInt, vBool, vStr, exI, hq] <;> omega) (fun β => rowCells_mgk 32 _) (fun β => rowCells_mgk 32 _) (fun β => ?_) hput (by rw [mgl_length]; simp; omega) ?_
          · rw [← hq1, ← hr]; simp [BTm.den, Tm.i, Tm.s, Tm.den, env, vInt, vBool, vStr, exI, SW.den, SV.den, Cell.den, densP, Piece.den, denV, denT]
          refine ev_fits ((i : Int) - 1) (by simp [BTm.den, Tm.i, Tm.s, Tm.den, env, vInt, vBool, vStr, exI]) (rng_i64 _ (by omega)) ?_
          refine ev_nil ⟨[.int .i64 ((i : Int) - 1), .agg (mgk 32 S'), .agg (mgk 32 R')], rfl, hinv, ?_, ?_⟩
          · simp [vInt]
          · rw [hf1, hf2]; simp [BTm.den, Tm.i, Tm.s, Tm.den, env, vInt, vBool, vStr, exI, SW.den, SV.den, Cell.den, densP, Piece.den, denV, denT]

end Go.Proofs.YtfdlgeomaballaaGreat
end
section
/- The document's own DivMod, Gcd, Abs, ToInt. -/
namespace Go.Proofs.YtfdlgeomaballaaGreat
open Go.RowKit Go.Proofs.YtfdlgeomaballaaGreat.Sx
set_option linter.unusedSimpArgs false
set_option linter.unusedVariables false

theorem bl_le1024 {n : Nat} (h : n < pw 32) : bl n ≤ 1024 := by
  obtain ⟨K, hK, e⟩ := pw32_bits
  rw [e] at h
  have := bl_le h
  omega
theorem start_lt {A B s0 : Nat} (hB : 0 < B) (hs : s0 + (bl B - 1) = bl A) : A / 2 ^ s0 < B := by
  have h1 := bl_lt A
  have h2 := bl_ge (n := B) (by omega)
  rw [← hs, Nat.pow_add] at h1
  refine Nat.lt_of_lt_of_le ?_ h2
  rw [Nat.div_lt_iff_lt_mul (Nat.two_pow_pos _), Nat.mul_comm]; exact h1
theorem short_lt {A B : Nat} (hB : 0 < B) (h : bl A ≤ bl B - 1) : A < B :=
  Nat.lt_of_lt_of_le (bl_lt A) (Nat.le_trans (Nat.pow_le_pow_right (by omega) h) (bl_ge (by omega)))
theorem iv_cells (s : Bool) (n : Nat) : (Value.bool s :: rowCells (.agg (mgk 32 n)) 32).toArray = iv s n := by rw [rowCells_mgk, iv_list]
set_option maxHeartbeats 2000000 in
theorem rdivide (A B : Nat) (hA : A < pw 32) (hBl : B < pw 32) (hB : 0 < B) : Gives Tryz.prog 70 #[.agg (mgk 32 A), .agg (mgk 32 B)] (.tuple #[.agg (mgk 32 (A / B)), .agg (mgk 32 (A % B))]) := by
  obtain ⟨Q, hQ⟩ : ∃ Q, Q = A / B := ⟨_, rfl⟩
  obtain ⟨R, hR⟩ : ∃ Q, Q = A % B := ⟨_, rfl⟩
  rw [← hQ, ← hR]
  have hmain : ∀ v, v = Value.tuple #[.agg (mgk 32 Q), .agg (mgk 32 R)] → tDivide.den Tryz.prog (fun ρ' ret => ∀ β, ret.val.den (env ρ') β = v) [.agg (mgk 32 A), .agg (mgk 32 B)] := by
    intro v hv
    have hla := rlimbs_any A
    have hlb := rlimbs_any B
    have hba := rbits_any false A hA
    have hbb := rbits_any false B hBl
    have h1 := bl_le1024 hA
    have h2 := bl_le1024 hBl
    have h3 := bl_pos (n := B) (by omega)
    obtain ⟨la, hla2⟩ : ∃ la, la = nl A := ⟨_, rfl⟩
    obtain ⟨lb, hlb2⟩ : ∃ la, la = nl B := ⟨_, rfl⟩
    obtain ⟨ba, hba2⟩ : ∃ la, la = bl A := ⟨_, rfl⟩
    obtain ⟨bb, hbb2⟩ : ∃ la, la = bl B := ⟨_, rfl⟩
    rw [← hla2] at hla
    rw [← hlb2] at hlb
    rw [← hba2] at hba
    rw [← hbb2] at hbb
    have hsmall : bl A ≤ bl B - 1 → Q = 0 ∧ R = A := fun h => by
      have := short_lt hB h
      rw [hQ, hR, Nat.div_eq_of_lt this, Nat.mod_eq_of_lt this]; exact ⟨rfl, rfl⟩
    have hz : ∀ β : Nat → Nat, List.replicate 32 (Value.int .u32 0) = mgl 32 0 := fun _ => (mgl_zero 32).symm
    refine tree_ite ?_
    refine ev_call [.int .i64 (la : Nat)] rfl rfl (pure_gives hla) (fun β => by simp [BTm.den, Tm.i, Tm.s, Tm.den, env, vInt, vBool, vStr, exI, SW.den, SV.den, Cell.den, densP, Piece.den, denV, denT, rowCells_mgk, mgl_agg]) (fun β => by simp [BTm.den, Tm.i, Tm.s, Tm.den, env, vInt, vBool, vStr, exI, SW.den, SV.den, Cell.den, densP, Piece.den, denV, denT]) ?_
    refine ev_nil ⟨fun hc => tree_ite ?_, fun hc => tree_ite ?_⟩
    · refine ev_call [.int .i64 (ba : Nat)] rfl rfl (pure_gives hba) (fun β => by simp [BTm.den, Tm.i, Tm.s, Tm.den, env, vInt, vBool, vStr, exI, SW.den, SV.den, Cell.den, densP, Piece.den, denV, denT, rowCells_mgk, iv_list]) (fun β => by simp [BTm.den, Tm.i, Tm.s, Tm.den, env, vInt, vBool, vStr, exI, SW.den, SV.den, Cell.den, densP, Piece.den, denV, denT]) ?_
      refine ev_call [.int .i64 (bb : Nat)] rfl rfl (pure_gives hbb) (fun β => by simp [BTm.den, Tm.i, Tm.s, Tm.den, env, vInt, vBool, vStr, exI, SW.den, SV.den, Cell.den, densP, Piece.den, denV, denT, rowCells_mgk, iv_list]) (fun β => by simp [BTm.den, Tm.i, Tm.s, Tm.den, env, vInt, vBool, vStr, exI, SW.den, SV.den, Cell.den, densP, Piece.den, denV, denT]) ?_
      refine ev_fits ((bb : Int) - 1) (by simp [BTm.den, Tm.i, Tm.s, Tm.den, env, vInt, vBool, vStr, exI]) (rng_i64 _ (by omega)) ?_
      refine ev_nil ⟨fun hd => tree_leaf ?_, fun hd => tree_leaf (ev_nil fun β => ?_)⟩
      · have hd : bb - 1 < ba := by
          have : (bb : Int) - 1 < ba := by simpa [BTm.den, Tm.i, Tm.s, Tm.den, env, vInt, vBool, vStr, exI] using hd
          omega
        obtain ⟨s0, hs0⟩ : ∃ s0, s0 + (bb - 1) = ba := ⟨ba - (bb - 1), by omega⟩
        have hlt := start_lt (A := A) (s0 := s0) hB (by omega)
        have hsh := rshifted A s0 hA (by omega)
        obtain ⟨W0, hW0⟩ : ∃ W, W = A / 2 ^ s0 := ⟨_, rfl⟩
        have hloop := rdivide_loop A B s0 la 0 ba bb W0 hA hB hBl hW0 hlt (by omega) (by omega) Q R hQ hR
        rw [← hW0] at hsh
        refine ev_fits ((s0 : Nat) : Int) (by simp [BTm.den, Tm.i, Tm.s, Tm.den, env, vInt, vBool, vStr, exI]; omega) (rng_i64 _ (by omega)) ?_
        refine ev_call [.agg (mgk 32 W0)] rfl rfl (pure_gives hsh) (fun β => by rw [show ((s0 : Nat) : Int) = (ba : Int) - ((bb : Int) - 1) by omega]; simp [BTm.den, Tm.i, Tm.s, Tm.den, env, vInt, vBool, vStr, exI, SW.den, SV.den, Cell.den, densP, Piece.den, denV, denT, rowCells_mgk, mgl_agg]) (fun β => by simp [BTm.den, Tm.i, Tm.s, Tm.den, env, vInt, vBool, vStr, exI, SW.den, SV.den, Cell.den, densP, Piece.den, denV, denT, rowCells_mgk, mgl_agg]) ?_
        refine ev_fits ((s0 : Nat) : Int) (by simp [BTm.den, Tm.i, Tm.s, Tm.den, env, vInt, vBool, vStr, exI]; omega) (rng_i64 _ (by omega)) ?_
        refine ev_fits ((s0 : Int) - 1) (by simp [BTm.den, Tm.i, Tm.s, Tm.den, env, vInt, vBool, vStr, exI]; omega) (rng_i64 _ (by omega)) ?_
        refine ev_loop [.int .i64 (-1), .agg (mgk 32 Q), .agg (mgk 32 R)] rfl rfl hloop (ev_nil fun β => ?_)
        rw [hv]; simp [BTm.den, Tm.i, Tm.s, Tm.den, env, vInt, vBool, vStr, exI, SW.den, SV.den, Cell.den, densP, Piece.den, denV, denT, rowCells_mgk, mgl_agg]
      · have hd : ¬ (bb : Int) - 1 < ba := by simpa [BTm.den, Tm.i, Tm.s, Tm.den, env, vInt, vBool, vStr, exI] using hd
        obtain ⟨e1, e2⟩ := hsmall (by omega)
        rw [hv, e1, e2, ← mgl_agg 32 0, mgl_zero]; simp [BTm.den, Tm.i, Tm.s, Tm.den, env, vInt, vBool, vStr, exI, SW.den, SV.den, Cell.den, densP, Piece.den, denV, denT, rowCells_mgk, mgl_agg]
    · have hc : ¬ (2 : Int) < la := by simpa [BTm.den, Tm.i, Tm.s, Tm.den, env, vInt, vBool, vStr, exI] using hc
      refine ev_call [.int .i64 (lb : Nat)] rfl rfl (pure_gives hlb) (fun β => by simp [BTm.den, Tm.i, Tm.s, Tm.den, env, vInt, vBool, vStr, exI, SW.den, SV.den, Cell.den, densP, Piece.den, denV, denT, rowCells_mgk, mgl_agg]) (fun β => by simp [BTm.den, Tm.i, Tm.s, Tm.den, env, vInt, vBool, vStr, exI, SW.den, SV.den, Cell.den, densP, Piece.den, denV, denT]) ?_
      refine ev_nil ⟨fun hc2 => tree_ite ?_, fun hc2 => tree_leaf ?_⟩
      · refine ev_call [.int .i64 (ba : Nat)] rfl rfl (pure_gives hba) (fun β => by simp [BTm.den, Tm.i, Tm.s, Tm.den, env, vInt, vBool, vStr, exI, SW.den, SV.den, Cell.den, densP, Piece.den, denV, denT, rowCells_mgk, iv_list]) (fun β => by simp [BTm.den, Tm.i, Tm.s, Tm.den, env, vInt, vBool, vStr, exI, SW.den, SV.den, Cell.den, densP, Piece.den, denV, denT]) ?_
        refine ev_call [.int .i64 (bb : Nat)] rfl rfl (pure_gives hbb) (fun β => by simp [BTm.den, Tm.i, Tm.s, Tm.den, env, vInt, vBool, vStr, exI, SW.den, SV.den, Cell.den, densP, Piece.den, denV, denT, rowCells_mgk, iv_list]) (fun β => by simp [BTm.den, Tm.i, Tm.s, Tm.den, env, vInt, vBool, vStr, exI, SW.den, SV.den, Cell.den, densP, Piece.den, denV, denT]) ?_
        refine ev_fits ((bb : Int) - 1) (by simp [BTm.den, Tm.i, Tm.s, Tm.den, env, vInt, vBool, vStr, exI]) (rng_i64 _ (by omega)) ?_
        refine ev_nil ⟨fun hd => tree_leaf ?_, fun hd => tree_leaf (ev_nil fun β => ?_)⟩
        · have hd : bb - 1 < ba := by
            have : (bb : Int) - 1 < ba := by simpa [BTm.den, Tm.i, Tm.s, Tm.den, env, vInt, vBool, vStr, exI] using hd
            omega
          obtain ⟨s0, hs0⟩ : ∃ s0, s0 + (bb - 1) = ba := ⟨ba - (bb - 1), by omega⟩
          have hlt := start_lt (A := A) (s0 := s0) hB (by omega)
          have hsh := rshifted A s0 hA (by omega)
          obtain ⟨W0, hW0⟩ : ∃ W, W = A / 2 ^ s0 := ⟨_, rfl⟩
          have hloop := rdivide_loopb A B s0 la lb ba bb W0 hA hB hBl hW0 hlt (by omega) (by omega) Q R hQ hR
          rw [← hW0] at hsh
          refine ev_fits ((s0 : Nat) : Int) (by simp [BTm.den, Tm.i, Tm.s, Tm.den, env, vInt, vBool, vStr, exI]; omega) (rng_i64 _ (by omega)) ?_
          refine ev_call [.agg (mgk 32 W0)] rfl rfl (pure_gives hsh) (fun β => by rw [show ((s0 : Nat) : Int) = (ba : Int) - ((bb : Int) - 1) by omega]; simp [BTm.den, Tm.i, Tm.s, Tm.den, env, vInt, vBool, vStr, exI, SW.den, SV.den, Cell.den, densP, Piece.den, denV, denT, rowCells_mgk, mgl_agg]) (fun β => by simp [BTm.den, Tm.i, Tm.s, Tm.den, env, vInt, vBool, vStr, exI, SW.den, SV.den, Cell.den, densP, Piece.den, denV, denT, rowCells_mgk, mgl_agg]) ?_
          refine ev_fits ((s0 : Nat) : Int) (by simp [BTm.den, Tm.i, Tm.s, Tm.den, env, vInt, vBool, vStr, exI]; omega) (rng_i64 _ (by omega)) ?_
          refine ev_fits ((s0 : Int) - 1) (by simp [BTm.den, Tm.i, Tm.s, Tm.den, env, vInt, vBool, vStr, exI]; omega) (rng_i64 _ (by omega)) ?_
          refine ev_loop [.int .i64 (-1), .agg (mgk 32 Q), .agg (mgk 32 R)] rfl rfl hloop (ev_nil fun β => ?_)
          rw [hv]; simp [BTm.den, Tm.i, Tm.s, Tm.den, env, vInt, vBool, vStr, exI, SW.den, SV.den, Cell.den, densP, Piece.den, denV, denT, rowCells_mgk, mgl_agg]
        · have hd : ¬ (bb : Int) - 1 < ba := by simpa [BTm.den, Tm.i, Tm.s, Tm.den, env, vInt, vBool, vStr, exI] using hd
          obtain ⟨e1, e2⟩ := hsmall (by omega)
          rw [hv, e1, e2, ← mgl_agg 32 0, mgl_zero]; simp [BTm.den, Tm.i, Tm.s, Tm.den, env, vInt, vBool, vStr, exI, SW.den, SV.den, Cell.den, densP, Piece.den, denV, denT, rowCells_mgk, mgl_agg]
      · have hc2 : ¬ (2 : Int) < lb := by simpa [BTm.den, Tm.i, Tm.s, Tm.den, env, vInt, vBool, vStr, exI] using hc2
        have hA2 : A < pw 2 := Nat.lt_of_lt_of_le (nl_lt hA) (pw_le (by omega))
        have hB2 : B < pw 2 := Nat.lt_of_lt_of_le (nl_lt hBl) (pw_le (by omega))
        have hQ2 : Q < pw 2 := by rw [hQ]; exact Nat.lt_of_le_of_lt (Nat.div_le_self _ _) hA2
        have hR2 : R < pw 2 := by rw [hR]; exact Nat.lt_of_le_of_lt (Nat.mod_le _ _) hA2
        have hp2 : pw 2 = 18446744073709551616 := rfl
        have eQ : (A : Int).tdiv B = (Q : Nat) := by rw [hQ]; exact tdivN A B
        have eR : (A : Int).tmod B = (R : Nat) := by rw [hR]; exact tmodN A B
        refine ev_call [.int .u64 (A : Nat)] rfl rfl (pure_gives (rlow A hA2)) (fun β => by simp [BTm.den, Tm.i, Tm.s, Tm.den, env, vInt, vBool, vStr, exI, SW.den, SV.den, Cell.den, densP, Piece.den, denV, denT, rowCells_mgk, mgl_agg]) (fun β => by simp [BTm.den, Tm.i, Tm.s, Tm.den, env, vInt, vBool, vStr, exI, SW.den, SV.den, Cell.den, densP, Piece.den, denV, denT]) ?_
        refine ev_call [.int .u64 (B : Nat)] rfl rfl (pure_gives (rlow B hB2)) (fun β => by simp [BTm.den, Tm.i, Tm.s, Tm.den, env, vInt, vBool, vStr, exI, SW.den, SV.den, Cell.den, densP, Piece.den, denV, denT, rowCells_mgk, mgl_agg]) (fun β => by simp [BTm.den, Tm.i, Tm.s, Tm.den, env, vInt, vBool, vStr, exI, SW.den, SV.den, Cell.den, densP, Piece.den, denV, denT]) ?_
        refine ev_need (by simp [BTm.den, Tm.i, Tm.s, Tm.den, env, vInt, vBool, vStr, exI] <;> omega) ?_
        refine ev_fits ((Q : Nat) : Int) (by simp [BTm.den, Tm.i, Tm.s, Tm.den, env, vInt, vBool, vStr, exI, eQ]) (rng_u64 _ (by omega)) ?_
        refine ev_call [.agg (mgk 32 Q)] rfl rfl (pure_gives (rsmall Q hQ2)) (fun β => by simp [BTm.den, Tm.i, Tm.s, Tm.den, env, vInt, vBool, vStr, exI, SW.den, SV.den, Cell.den, densP, Piece.den, denV, denT, eQ]) (fun β => by simp [BTm.den, Tm.i, Tm.s, Tm.den, env, vInt, vBool, vStr, exI, SW.den, SV.den, Cell.den, densP, Piece.den, denV, denT, rowCells_mgk, mgl_agg]) ?_
        refine ev_call [.int .u64 (A : Nat)] rfl rfl (pure_gives (rlow A hA2)) (fun β => by simp [BTm.den, Tm.i, Tm.s, Tm.den, env, vInt, vBool, vStr, exI, SW.den, SV.den, Cell.den, densP, Piece.den, denV, denT, rowCells_mgk, mgl_agg]) (fun β => by simp [BTm.den, Tm.i, Tm.s, Tm.den, env, vInt, vBool, vStr, exI, SW.den, SV.den, Cell.den, densP, Piece.den, denV, denT]) ?_
        refine ev_call [.int .u64 (B : Nat)] rfl rfl (pure_gives (rlow B hB2)) (fun β => by simp [BTm.den, Tm.i, Tm.s, Tm.den, env, vInt, vBool, vStr, exI, SW.den, SV.den, Cell.den, densP, Piece.den, denV, denT, rowCells_mgk, mgl_agg]) (fun β => by simp [BTm.den, Tm.i, Tm.s, Tm.den, env, vInt, vBool, vStr, exI, SW.den, SV.den, Cell.den, densP, Piece.den, denV, denT]) ?_
        refine ev_need (by simp [BTm.den, Tm.i, Tm.s, Tm.den, env, vInt, vBool, vStr, exI] <;> omega) ?_
        refine ev_fits ((R : Nat) : Int) (by simp [BTm.den, Tm.i, Tm.s, Tm.den, env, vInt, vBool, vStr, exI, eR]) (rng_u64 _ (by omega)) ?_
        refine ev_call [.agg (mgk 32 R)] rfl rfl (pure_gives (rsmall R hR2)) (fun β => by simp [BTm.den, Tm.i, Tm.s, Tm.den, env, vInt, vBool, vStr, exI, SW.den, SV.den, Cell.den, densP, Piece.den, denV, denT, eR]) (fun β => by simp [BTm.den, Tm.i, Tm.s, Tm.den, env, vInt, vBool, vStr, exI, SW.den, SV.den, Cell.den, densP, Piece.den, denV, denT, rowCells_mgk, mgl_agg]) ?_
        refine ev_nil fun β => ?_
        rw [hv]; simp [BTm.den, Tm.i, Tm.s, Tm.den, env, vInt, vBool, vStr, exI, SW.den, SV.den, Cell.den, densP, Piece.den, denV, denT, rowCells_mgk, mgl_agg]
  have h := pure_of plain [.agg (mgk 32 A), .agg (mgk 32 B)] tDivide_ok (by kernel_rfl) _ (hmain _ rfl)
  refine gives_pure ?_
  simpa [rowB, BTm.den, Tm.i, Tm.s, Tm.den, env, vInt, vBool, vStr, exI, SW.den, SV.den, Cell.den, densP, Piece.den, denV, denT, rowCells_mgk, mgl_agg] using h
end Go.Proofs.YtfdlgeomaballaaGreat
end
section
/- The document's own DivMod, Gcd, Abs, ToInt. -/
namespace Go.Proofs.YtfdlgeomaballaaGreat
open Go.RowKit Go.Proofs.YtfdlgeomaballaaGreat.Sx
set_option linter.unusedSimpArgs false
set_option linter.unusedVariables false

theorem one_row : (Value.int .u32 1 :: List.replicate 31 (.int .u32 0)).toArray = mgk 32 1 := by
  rw [← Array.toList_inj]
  have := mgl_two 1 (by rw [show pw 2 = 18446744073709551616 by rfl]; omega)
  have e0 : limb 1 0 = 1 := by rw [limb_small _ (by omega)]; rfl
  have e1 : limb 1 1 = 0 := by rw [limb_small _ (by omega)]; rfl
  rw [e0, e1] at this
  show _ = mgl 32 1
  rw [this]; rfl
set_option maxHeartbeats 2000000 in
theorem rdivMod_any (s t : Bool) (n m : Nat) (hn : n < pw 32) (hm : m < pw 32) (h0 : 0 < m) : Gives Tryz.prog 44 #[.agg (iv s n), .agg (iv t m)] (divR (vz s n) (vz t m)) := by
  have hmain : ∀ v, v = divR (vz s n) (vz t m) → tDivMod.den Tryz.prog (fun ρ' ret => ∀ β, ret.val.den (env ρ') β = v) [.bool s, .agg (mgk 32 n), .bool t, .agg (mgk 32 m)] := by
    intro v hv
    have hzm := rzero_any m hm
    rw [isz_false (by omega)] at hzm
    have hdv := rdivide n m hn hm h0
    have hQl : n / m < pw 32 := Nat.lt_of_le_of_lt (Nat.div_le_self _ _) hn
    have hRl : n % m < m := Nat.mod_lt _ h0
    have hzr := rzero_any (n % m) (by omega)
    refine tree_ite ?_
    refine ev_call [.bool false] rfl rfl (pure_gives hzm) (fun β => by simp [BTm.den, Tm.i, Tm.s, Tm.den, env, vInt, vBool, vStr, exI, SW.den, SV.den, Cell.den, densP, Piece.den, denV, denT, rowCells_mgk, mgl_agg]) (fun β => by simp [BTm.den, Tm.i, Tm.s, Tm.den, env, vInt, vBool, vStr, exI, SW.den, SV.den, Cell.den, densP, Piece.den, denV, denT]) ?_
    refine ev_nil (way_false (by simp [BTm.den, Tm.i, Tm.s, Tm.den, env, vInt, vBool, vStr, exI]) (tree_ite ?_))
    have hplain : s = false ∨ n % m = 0 → v = .tuple #[.agg (ivZ (vz (s != t) (n / m))), .agg (ivZ (vz false (n % m))), .int .i64 0] := fun h => by
      obtain ⟨e1, e2⟩ := divZ_plain (t := t) h0 h
      rw [hv]; unfold divR; rw [e1, e2]; rfl
    have hmore : s = true → n % m ≠ 0 → v = .tuple #[.agg (ivZ (vz (s != t) (n / m + 1))), .agg (ivZ (vz false (m - n % m))), .int .i64 0] := fun hs h => by
      obtain ⟨e1, e2⟩ := divZ_more (t := t) h0 h
      rw [hv]; unfold divR; rw [hs, e1, e2]; rfl
    have hroom := div_room (n := n) (m := m) (K := pw 32) hn h0
    have hc1 := fun b => rcanon b (n / m) hQl
    have hc2 := rcanon false (n % m) (by omega)
    have hdf := rdiff m (n % m) hm (by omega)
    have hsm := rsum (n / m) 1 hQl (by have := pw_le (show 1 ≤ 32 by omega); rw [pw_one] at this; omega)
    clear hv
    obtain ⟨Q, hQ⟩ : ∃ Q, Q = n / m := ⟨_, rfl⟩
    obtain ⟨R, hR⟩ : ∃ Q, Q = n % m := ⟨_, rfl⟩
    rw [← hQ] at hdv hQl hplain hmore hroom hsm
    rw [← hR] at hdv hRl hplain hmore hroom hc2 hdf hzr
    rw [← hQ] at hc1
    refine ev_call [.agg (mgk 32 Q), .agg (mgk 32 R)] rfl rfl (pure_gives hdv) (fun β => by simp [BTm.den, Tm.i, Tm.s, Tm.den, env, vInt, vBool, vStr, exI, SW.den, SV.den, Cell.den, densP, Piece.den, denV, denT, rowCells_mgk, mgl_agg]) (fun β => by simp [BTm.den, Tm.i, Tm.s, Tm.den, env, vInt, vBool, vStr, exI, SW.den, SV.den, Cell.den, densP, Piece.den, denV, denT, rowCells_mgk, mgl_agg]) ?_
    have fin : ∀ (ρ : List Value) (b : Bool) (X Y : Nat), True := fun _ _ _ _ => trivial
    refine ev_nil ⟨fun hs => tree_ite ?_, fun hs => tree_ite (ev_nil ⟨fun ht => tree_leaf ?_, fun ht => tree_leaf ?_⟩)⟩
    · have hs : s = true := by simpa [BTm.den, Tm.i, Tm.s, Tm.den, env, vInt, vBool, vStr, exI] using hs
      subst hs
      refine ev_call [.bool (isz R)] rfl rfl (pure_gives hzr) (fun β => by simp [BTm.den, Tm.i, Tm.s, Tm.den, env, vInt, vBool, vStr, exI, SW.den, SV.den, Cell.den, densP, Piece.den, denV, denT, rowCells_mgk, mgl_agg]) (fun β => by simp [BTm.den, Tm.i, Tm.s, Tm.den, env, vInt, vBool, vStr, exI, SW.den, SV.den, Cell.den, densP, Piece.den, denV, denT]) ?_
      refine ev_nil ⟨fun hz => tree_ite (ev_nil ⟨fun ht => tree_leaf ?_, fun ht => tree_leaf ?_⟩), fun hz => tree_ite ?_⟩
      · have ht : t = true := by simpa [BTm.den, Tm.i, Tm.s, Tm.den, env, vInt, vBool, vStr, exI] using ht
        have hz' : R = 0 := by simpa [BTm.den, Tm.i, Tm.s, Tm.den, env, vInt, vBool, vStr, exI, isz] using hz
        subst ht
        have hv := hplain (.inr hz')
        have hc := hc1 (true != true)
        refine ev_call [.bool (decide (vz (true != true) Q < 0)), .agg (mgk 32 (vz (true != true) Q).natAbs)] rfl rfl (pure_gives hc) (fun β => by simp [BTm.den, Tm.i, Tm.s, Tm.den, env, vInt, vBool, vStr, exI, SW.den, SV.den, Cell.den, densP, Piece.den, denV, denT, rowCells_mgk, mgl_agg]) (fun β => by simp [BTm.den, Tm.i, Tm.s, Tm.den, env, vInt, vBool, vStr, exI, SW.den, SV.den, Cell.den, densP, Piece.den, denV, denT, rowCells_mgk, iv_list, ivZ]) ?_
        refine ev_call [.bool (decide (vz false R < 0)), .agg (mgk 32 (vz false R).natAbs)] rfl rfl (pure_gives hc2) (fun β => by simp [BTm.den, Tm.i, Tm.s, Tm.den, env, vInt, vBool, vStr, exI, SW.den, SV.den, Cell.den, densP, Piece.den, denV, denT, rowCells_mgk, mgl_agg]) (fun β => by simp [BTm.den, Tm.i, Tm.s, Tm.den, env, vInt, vBool, vStr, exI, SW.den, SV.den, Cell.den, densP, Piece.den, denV, denT, rowCells_mgk, iv_list, ivZ]) ?_
        refine ev_nil fun β => ?_
        rw [hv]
        simp [BTm.den, Tm.i, Tm.s, Tm.den, env, vInt, vBool, vStr, exI, SW.den, SV.den, Cell.den, densP, Piece.den, denV, denT, rowCells_mgk, iv_list, ivZ]
      · have ht : t = false := by simpa [BTm.den, Tm.i, Tm.s, Tm.den, env, vInt, vBool, vStr, exI] using ht
        have hz' : R = 0 := by simpa [BTm.den, Tm.i, Tm.s, Tm.den, env, vInt, vBool, vStr, exI, isz] using hz
        subst ht
        have hv := hplain (.inr hz')
        have hc := hc1 (true != false)
        refine ev_call [.bool (decide (vz (true != false) Q < 0)), .agg (mgk 32 (vz (true != false) Q).natAbs)] rfl rfl (pure_gives hc) (fun β => by simp [BTm.den, Tm.i, Tm.s, Tm.den, env, vInt, vBool, vStr, exI, SW.den, SV.den, Cell.den, densP, Piece.den, denV, denT, rowCells_mgk, mgl_agg]) (fun β => by simp [BTm.den, Tm.i, Tm.s, Tm.den, env, vInt, vBool, vStr, exI, SW.den, SV.den, Cell.den, densP, Piece.den, denV, denT, rowCells_mgk, iv_list, ivZ]) ?_
        refine ev_call [.bool (decide (vz false R < 0)), .agg (mgk 32 (vz false R).natAbs)] rfl rfl (pure_gives hc2) (fun β => by simp [BTm.den, Tm.i, Tm.s, Tm.den, env, vInt, vBool, vStr, exI, SW.den, SV.den, Cell.den, densP, Piece.den, denV, denT, rowCells_mgk, mgl_agg]) (fun β => by simp [BTm.den, Tm.i, Tm.s, Tm.den, env, vInt, vBool, vStr, exI, SW.den, SV.den, Cell.den, densP, Piece.den, denV, denT, rowCells_mgk, iv_list, ivZ]) ?_
        refine ev_nil fun β => ?_
        rw [hv]
        simp [BTm.den, Tm.i, Tm.s, Tm.den, env, vInt, vBool, vStr, exI, SW.den, SV.den, Cell.den, densP, Piece.den, denV, denT, rowCells_mgk, iv_list, ivZ]
      · have hz : R ≠ 0 := by simpa [BTm.den, Tm.i, Tm.s, Tm.den, env, vInt, vBool, vStr, exI, isz] using hz
        have hv := hmore rfl hz
        have hroom := hroom hz
        rw [Nat.mod_eq_of_lt hroom] at hsm
        refine ev_call [.agg (mgk 32 (m - R))] rfl rfl (pure_gives hdf) (fun β => by simp [BTm.den, Tm.i, Tm.s, Tm.den, env, vInt, vBool, vStr, exI, SW.den, SV.den, Cell.den, densP, Piece.den, denV, denT, rowCells_mgk, mgl_agg]) (fun β => by simp [BTm.den, Tm.i, Tm.s, Tm.den, env, vInt, vBool, vStr, exI, SW.den, SV.den, Cell.den, densP, Piece.den, denV, denT, rowCells_mgk, mgl_agg]) ?_
        refine ev_call [.agg (mgk 32 (Q + 1)), .bool (decide (Q + 1 < pw 32))] rfl rfl (pure_gives hsm) (fun β => by rw [← one_row]; simp [BTm.den, Tm.i, Tm.s, Tm.den, env, vInt, vBool, vStr, exI, SW.den, SV.den, Cell.den, densP, Piece.den, denV, denT, rowCells_mgk, mgl_agg]) (fun β => by simp [BTm.den, Tm.i, Tm.s, Tm.den, env, vInt, vBool, vStr, exI, SW.den, SV.den, Cell.den, densP, Piece.den, denV, denT, rowCells_mgk, mgl_agg]) ?_
        have hc2 := rcanon false (m - R) (by omega)
        have hc1 := fun b => rcanon b (Q + 1) hroom
        refine ev_nil ⟨fun ht => tree_leaf ?_, fun ht => tree_leaf ?_⟩
        · have ht : t = true := by simpa [BTm.den, Tm.i, Tm.s, Tm.den, env, vInt, vBool, vStr, exI] using ht
          subst ht
          have hc := hc1 (true != true)
          refine ev_call [.bool (decide (vz (true != true) (Q + 1) < 0)), .agg (mgk 32 (vz (true != true) (Q + 1)).natAbs)] rfl rfl (pure_gives hc) (fun β => by simp [BTm.den, Tm.i, Tm.s, Tm.den, env, vInt, vBool, vStr, exI, SW.den, SV.den, Cell.den, densP, Piece.den, denV, denT, rowCells_mgk, mgl_agg]) (fun β => by simp [BTm.den, Tm.i, Tm.s, Tm.den, env, vInt, vBool, vStr, exI, SW.den, SV.den, Cell.den, densP, Piece.den, denV, denT, rowCells_mgk, iv_list, ivZ]) ?_
          refine ev_call [.bool (decide (vz false (m - R) < 0)), .agg (mgk 32 (vz false (m - R)).natAbs)] rfl rfl (pure_gives hc2) (fun β => by simp [BTm.den, Tm.i, Tm.s, Tm.den, env, vInt, vBool, vStr, exI, SW.den, SV.den, Cell.den, densP, Piece.den, denV, denT, rowCells_mgk, mgl_agg]) (fun β => by simp [BTm.den, Tm.i, Tm.s, Tm.den, env, vInt, vBool, vStr, exI, SW.den, SV.den, Cell.den, densP, Piece.den, denV, denT, rowCells_mgk, iv_list, ivZ]) ?_
          refine ev_nil fun β => ?_
          rw [hv]
          simp [BTm.den, Tm.i, Tm.s, Tm.den, env, vInt, vBool, vStr, exI, SW.den, SV.den, Cell.den, densP, Piece.den, denV, denT, rowCells_mgk, iv_list, ivZ]
        · have ht : t = false := by simpa [BTm.den, Tm.i, Tm.s, Tm.den, env, vInt, vBool, vStr, exI] using ht
          subst ht
          have hc := hc1 (true != false)
          refine ev_call [.bool (decide (vz (true != false) (Q + 1) < 0)), .agg (mgk 32 (vz (true != false) (Q + 1)).natAbs)] rfl rfl (pure_gives hc) (fun β => by simp [BTm.den, Tm.i, Tm.s, Tm.den, env, vInt, vBool, vStr, exI, SW.den, SV.den, Cell.den, densP, Piece.den, denV, denT, rowCells_mgk, mgl_agg]) (fun β => by simp [BTm.den, Tm.i, Tm.s, Tm.den, env, vInt, vBool, vStr, exI, SW.den, SV.den, Cell.den, densP, Piece.den, denV, denT, rowCells_mgk, iv_list, ivZ]) ?_
          refine ev_call [.bool (decide (vz false (m - R) < 0)), .agg (mgk 32 (vz false (m - R)).natAbs)] rfl rfl (pure_gives hc2) (fun β => by simp [BTm.den, Tm.i, Tm.s, Tm.den, env, vInt, vBool, vStr, exI, SW.den, SV.den, Cell.den, densP, Piece.den, denV, denT, rowCells_mgk, mgl_agg]) (fun β => by simp [BTm.den, Tm.i, Tm.s, Tm.den, env, vInt, vBool, vStr, exI, SW.den, SV.den, Cell.den, densP, Piece.den, denV, denT, rowCells_mgk, iv_list, ivZ]) ?_
          refine ev_nil fun β => ?_
          rw [hv]
          simp [BTm.den, Tm.i, Tm.s, Tm.den, env, vInt, vBool, vStr, exI, SW.den, SV.den, Cell.den, densP, Piece.den, denV, denT, rowCells_mgk, iv_list, ivZ]
    · have hs : s = false := by simpa [BTm.den, Tm.i, Tm.s, Tm.den, env, vInt, vBool, vStr, exI] using hs
      have ht : t = true := by simpa [BTm.den, Tm.i, Tm.s, Tm.den, env, vInt, vBool, vStr, exI] using ht
      subst hs ht
      have hv := hplain (.inl rfl)
      have hc := hc1 (false != true)
      refine ev_call [.bool (decide (vz (false != true) Q < 0)), .agg (mgk 32 (vz (false != true) Q).natAbs)] rfl rfl (pure_gives hc) (fun β => by simp [BTm.den, Tm.i, Tm.s, Tm.den, env, vInt, vBool, vStr, exI, SW.den, SV.den, Cell.den, densP, Piece.den, denV, denT, rowCells_mgk, mgl_agg]) (fun β => by simp [BTm.den, Tm.i, Tm.s, Tm.den, env, vInt, vBool, vStr, exI, SW.den, SV.den, Cell.den, densP, Piece.den, denV, denT, rowCells_mgk, iv_list, ivZ]) ?_
      refine ev_call [.bool (decide (vz false R < 0)), .agg (mgk 32 (vz false R).natAbs)] rfl rfl (pure_gives hc2) (fun β => by simp [BTm.den, Tm.i, Tm.s, Tm.den, env, vInt, vBool, vStr, exI, SW.den, SV.den, Cell.den, densP, Piece.den, denV, denT, rowCells_mgk, mgl_agg]) (fun β => by simp [BTm.den, Tm.i, Tm.s, Tm.den, env, vInt, vBool, vStr, exI, SW.den, SV.den, Cell.den, densP, Piece.den, denV, denT, rowCells_mgk, iv_list, ivZ]) ?_
      refine ev_nil fun β => ?_
      rw [hv]
      simp [BTm.den, Tm.i, Tm.s, Tm.den, env, vInt, vBool, vStr, exI, SW.den, SV.den, Cell.den, densP, Piece.den, denV, denT, rowCells_mgk, iv_list, ivZ]
    · have hs : s = false := by simpa [BTm.den, Tm.i, Tm.s, Tm.den, env, vInt, vBool, vStr, exI] using hs
      have ht : t = false := by simpa [BTm.den, Tm.i, Tm.s, Tm.den, env, vInt, vBool, vStr, exI] using ht
      subst hs ht
      have hv := hplain (.inl rfl)
      have hc := hc1 (false != false)
      refine ev_call [.bool (decide (vz (false != false) Q < 0)), .agg (mgk 32 (vz (false != false) Q).natAbs)] rfl rfl (pure_gives hc) (fun β => by simp [BTm.den, Tm.i, Tm.s, Tm.den, env, vInt, vBool, vStr, exI, SW.den, SV.den, Cell.den, densP, Piece.den, denV, denT, rowCells_mgk, mgl_agg]) (fun β => by simp [BTm.den, Tm.i, Tm.s, Tm.den, env, vInt, vBool, vStr, exI, SW.den, SV.den, Cell.den, densP, Piece.den, denV, denT, rowCells_mgk, iv_list, ivZ]) ?_
      refine ev_call [.bool (decide (vz false R < 0)), .agg (mgk 32 (vz false R).natAbs)] rfl rfl (pure_gives hc2) (fun β => by simp [BTm.den, Tm.i, Tm.s, Tm.den, env, vInt, vBool, vStr, exI, SW.den, SV.den, Cell.den, densP, Piece.den, denV, denT, rowCells_mgk, mgl_agg]) (fun β => by simp [BTm.den, Tm.i, Tm.s, Tm.den, env, vInt, vBool, vStr, exI, SW.den, SV.den, Cell.den, densP, Piece.den, denV, denT, rowCells_mgk, iv_list, ivZ]) ?_
      refine ev_nil fun β => ?_
      rw [hv]
      simp [BTm.den, Tm.i, Tm.s, Tm.den, env, vInt, vBool, vStr, exI, SW.den, SV.den, Cell.den, densP, Piece.den, denV, denT, rowCells_mgk, iv_list, ivZ]
  have h := pure_of plain [.bool s, .agg (mgk 32 n), .bool t, .agg (mgk 32 m)] tDivMod_ok (by kernel_rfl) _ (hmain _ rfl)
  refine gives_pure ?_
  simpa [intB, BTm.den, Tm.i, Tm.s, Tm.den, env, vInt, vBool, vStr, exI, SW.den, SV.den, Cell.den, densP, Piece.den, denV, denT, rowCells_mgk, iv_list] using h
theorem rdivMod_zero (s t : Bool) (n : Nat) : Gives Tryz.prog 44 #[.agg (iv s n), .agg (iv t 0)] (.tuple #[.agg (ivZ 0), .agg (ivZ 0), .int .i64 11]) := by
  have hzm := rzero_any 0 (pw_pos 32)
  rw [isz_true rfl] at hzm
  have h := pure_of plain [.bool s, .agg (mgk 32 n), .bool t, .agg (mgk 32 0)] tDivMod_ok (by kernel_rfl) (.tuple #[.agg (ivZ 0), .agg (ivZ 0), .int .i64 11]) (tree_ite (ev_call [.bool true] rfl rfl (pure_gives hzm) (fun β => by simp [BTm.den, Tm.i, Tm.s, Tm.den, env, vInt, vBool, vStr, exI, SW.den, SV.den, Cell.den, densP, Piece.den, denV, denT, rowCells_mgk, mgl_agg]) (fun β => by simp [BTm.den, Tm.i, Tm.s, Tm.den, env, vInt, vBool, vStr, exI, SW.den, SV.den, Cell.den, densP, Piece.den, denV, denT]) (ev_nil (way_true (by simp [BTm.den, Tm.i, Tm.s, Tm.den, env, vInt, vBool, vStr, exI]) (tree_leaf (ev_nil fun β => ?_))))))
  · refine gives_pure ?_
    simpa [intB, BTm.den, Tm.i, Tm.s, Tm.den, env, vInt, vBool, vStr, exI, SW.den, SV.den, Cell.den, densP, Piece.den, denV, denT, rowCells_mgk, iv_list] using h
  · rw [ivZ_zero, ← iv_list, mgl_zero]
    simp [BTm.den, Tm.i, Tm.s, Tm.den, env, vInt, vBool, vStr, exI, SW.den, SV.den, Cell.den, densP, Piece.den, denV, denT]
theorem rabs_any (s : Bool) (n : Nat) (hn : n < pw 32) : Gives Tryz.prog 18 #[.agg (iv s n)] (.agg (ivZ (vz false n))) := by
  have hc := rcanon false n hn
  have h := pure_of plain [.bool s, .agg (mgk 32 n)] tAbs_ok (by kernel_rfl) (.agg (ivZ (vz false n))) (tree_leaf (ev_call [.bool (decide (vz false n < 0)), .agg (mgk 32 (vz false n).natAbs)] rfl rfl (pure_gives hc) (fun β => by simp [BTm.den, Tm.i, Tm.s, Tm.den, env, vInt, vBool, vStr, exI, SW.den, SV.den, Cell.den, densP, Piece.den, denV, denT, rowCells_mgk, mgl_agg]) (fun β => by simp [BTm.den, Tm.i, Tm.s, Tm.den, env, vInt, vBool, vStr, exI, SW.den, SV.den, Cell.den, densP, Piece.den, denV, denT, rowCells_mgk, iv_list, ivZ]) (ev_nil fun β => ?_)))
  · refine gives_pure ?_
    simpa [intB, BTm.den, Tm.i, Tm.s, Tm.den, env, vInt, vBool, vStr, exI, SW.den, SV.den, Cell.den, densP, Piece.den, denV, denT, rowCells_mgk, iv_list] using h
  · simp [BTm.den, Tm.i, Tm.s, Tm.den, env, vInt, vBool, vStr, exI, SW.den, SV.den, Cell.den, densP, Piece.den, denV, denT, rowCells_mgk, iv_list, ivZ]
/-- The number of a row of limbs. -/
noncomputable def natOf (v : Value) : Nat := open Classical in if h : ∃ N, N < pw 32 ∧ v = .agg (mgk 32 N) then Classical.choose h else 0
theorem natOf_mgk {N : Nat} (h : N < pw 32) : natOf (.agg (mgk 32 N)) = N := by
  have hex : ∃ M, M < pw 32 ∧ Value.agg (mgk 32 N) = .agg (mgk 32 M) := ⟨N, h, rfl⟩
  unfold natOf
  rw [dif_pos hex]
  have := Classical.choose_spec hex
  exact (mgk_inj h this.1 (by have := this.2; injection this)).symm
set_option maxHeartbeats 1000000 in
theorem rgcd_any (s t : Bool) (n m : Nat) (hn : n < pw 32) (hm : m < pw 32) : Gives Tryz.prog 50 #[.agg (iv s n), .agg (iv t m)] (.agg (ivZ ((Nat.gcd n m : Nat) : Int))) := by
  obtain ⟨g, hg⟩ : ∃ g, g = Nat.gcd n m := ⟨_, rfl⟩
  have hgl : g < pw 32 := by
    rcases Nat.eq_zero_or_pos n with h | h
    · rw [hg, h, Nat.gcd_zero_left]; exact hm
    · rw [hg]; exact Nat.lt_of_le_of_lt (Nat.gcd_le_left _ h) hn
  rw [← hg]
  have hloop : Ev.holds Tryz.prog (env [.bool s, .agg (mgk 32 n), .bool t, .agg (mgk 32 m), .agg (mgk 32 g), .agg (mgk 32 0)]) (.loop 50 0 divS50_0 divH50_0 (.exit 0) .none 2) := by
    refine loop_holds plain (m := 2) (x := .exit 0) (alt := none) [.bool s, .agg (mgk 32 n), .bool t, .agg (mgk 32 m)] [.agg (mgk 32 g), .agg (mgk 32 0)] tGcd0_ok tGcd0_fine
      (fun vs => ∃ M N : Nat, M < pw 32 ∧ N < pw 32 ∧ Nat.gcd M N = g ∧ vs = [.agg (mgk 32 M), .agg (mgk 32 N)])
      (fun vs => natOf (vs.getD 1 undef)) tGcd0_diff ?_ ?_
    · refine ⟨[.agg (mgk 32 n), .agg (mgk 32 m)], rfl, ⟨n, m, hn, hm, hg.symm, rfl⟩, ?_⟩
      simp [tGcd0_d, BTm.den, Tm.i, Tm.s, Tm.den, env, vInt, vBool, vStr, exI, SW.den, SV.den, Cell.den, densP, Piece.den, denV, denT]
    · rintro vs hl ⟨M, N, hM, hN, hgN, rfl⟩
      clear hl
      have hz := rzero_any N hN
      refine tree_ite ?_
      refine ev_call [.bool (isz N)] rfl rfl (pure_gives hz) (fun β => by simp [BTm.den, Tm.i, Tm.s, Tm.den, env, vInt, vBool, vStr, exI, SW.den, SV.den, Cell.den, densP, Piece.den, denV, denT, rowCells_mgk, mgl_agg]) (fun β => by simp [BTm.den, Tm.i, Tm.s, Tm.den, env, vInt, vBool, vStr, exI, SW.den, SV.den, Cell.den, densP, Piece.den, denV, denT]) ?_
      refine ev_nil ⟨fun h0 => tree_leaf (ev_nil ?_), fun h0 => tree_leaf ?_⟩
      · have h0 : N = 0 := by simpa [BTm.den, Tm.i, Tm.s, Tm.den, env, vInt, vBool, vStr, exI, isz] using h0
        subst h0
        rw [Nat.gcd_zero_right] at hgN
        subst hgN
        exact ⟨rfl, by simp [BTm.den, Tm.i, Tm.s, Tm.den, env, vInt, vBool, vStr, exI, SW.den, SV.den, Cell.den, densP, Piece.den, denV, denT]⟩
      · have h0 : N ≠ 0 := by simpa [BTm.den, Tm.i, Tm.s, Tm.den, env, vInt, vBool, vStr, exI, isz] using h0
        have hdv := rdivide M N hM hN (by omega)
        have hR : M % N < N := Nat.mod_lt _ (by omega)
        have hgg : Nat.gcd N (M % N) = g := by rw [← hgN, Nat.gcd_comm M N, Nat.gcd_rec N M, Nat.gcd_comm]
        obtain ⟨Q, hQ⟩ : ∃ Q, Q = M / N := ⟨_, rfl⟩
        obtain ⟨R, hRR⟩ : ∃ Q, Q = M % N := ⟨_, rfl⟩
        rw [← hQ, ← hRR] at hdv
        rw [← hRR] at hR hgg
        refine ev_call [.agg (mgk 32 Q), .agg (mgk 32 R)] rfl rfl (pure_gives hdv) (fun β => by simp [BTm.den, Tm.i, Tm.s, Tm.den, env, vInt, vBool, vStr, exI, SW.den, SV.den, Cell.den, densP, Piece.den, denV, denT, rowCells_mgk, mgl_agg]) (fun β => by simp [BTm.den, Tm.i, Tm.s, Tm.den, env, vInt, vBool, vStr, exI, SW.den, SV.den, Cell.den, densP, Piece.den, denV, denT, rowCells_mgk, mgl_agg]) ?_
        refine ev_nil ⟨[.agg (mgk 32 N), .agg (mgk 32 R)], rfl, ⟨N, R, hN, by omega, hgg, rfl⟩, ?_, ?_⟩
        · show natOf (.agg (mgk 32 R)) < natOf (.agg (mgk 32 N))
          rw [natOf_mgk hN, natOf_mgk (by omega)]; exact hR
        · simp [BTm.den, Tm.i, Tm.s, Tm.den, env, vInt, vBool, vStr, exI, SW.den, SV.den, Cell.den, densP, Piece.den, denV, denT]
  have hc := rcanon false g hgl
  have h := pure_of plain [.bool s, .agg (mgk 32 n), .bool t, .agg (mgk 32 m)] tGcd_ok (by kernel_rfl) (.agg (ivZ (vz false g))) (tree_leaf (ev_loop [.agg (mgk 32 g), .agg (mgk 32 0)] rfl rfl hloop (ev_call [.bool (decide (vz false g < 0)), .agg (mgk 32 (vz false g).natAbs)] rfl rfl (pure_gives hc) (fun β => by simp [BTm.den, Tm.i, Tm.s, Tm.den, env, vInt, vBool, vStr, exI, SW.den, SV.den, Cell.den, densP, Piece.den, denV, denT, rowCells_mgk, mgl_agg]) (fun β => by simp [BTm.den, Tm.i, Tm.s, Tm.den, env, vInt, vBool, vStr, exI, SW.den, SV.den, Cell.den, densP, Piece.den, denV, denT, rowCells_mgk, iv_list, ivZ]) (ev_nil fun β => ?_))))
  · refine gives_pure ?_
    rw [show ((g : Nat) : Int) = vz false g by simp [vz]]
    simpa [intB, BTm.den, Tm.i, Tm.s, Tm.den, env, vInt, vBool, vStr, exI, SW.den, SV.den, Cell.den, densP, Piece.den, denV, denT, rowCells_mgk, iv_list] using h
  · simp [BTm.den, Tm.i, Tm.s, Tm.den, env, vInt, vBool, vStr, exI, SW.den, SV.den, Cell.den, densP, Piece.den, denV, denT, rowCells_mgk, iv_list, ivZ]
end Go.Proofs.YtfdlgeomaballaaGreat
end
section
/- Both sides of BigintExact, in forms. -/
namespace Go.Proofs.YtfdlgeomaballaaGreat
open Go.RowKit Go.Proofs.YtfdlgeomaballaaGreat.Sx
set_option linter.unusedSimpArgs false
set_option linter.unusedVariables false

theorem same_Z (z : Int) (hz : z.natAbs < pw 32) : SameFact Tryz.prog 29 (.agg (ivZ z)) (.agg (ivZ z)) true := fun w => by
  have := ivType.2 w (decide (z < 0)) (decide (z < 0)) z.natAbs z.natAbs hz hz
  rw [decide_eq_true (show decide (z < 0) = decide (z < 0) ∧ z.natAbs = z.natAbs from ⟨rfl, rfl⟩)] at this
  exact this
theorem resZ_form (z : Int) : ∃ r e : Int, resZ z = .tuple #[.agg (ivZ r), .int .i64 e] ∧ r.natAbs < pw 32 := by
  by_cases h : z.natAbs < pw 32
  · exact ⟨z, 0, resZ_fits h, h⟩
  · exact ⟨0, 10, resZ_not h, pw_pos 32⟩
theorem toI_form (s : Bool) (n : Nat) : ∃ (r : Int) (b : Bool), toI s n = .tuple #[.int .i64 r, .bool b] := by
  unfold toI; split
  · exact ⟨_, _, rfl⟩
  · exact ⟨_, _, rfl⟩
theorem div_form (s t : Bool) (n m : Nat) (hn : n < pw 32) (hm : m < pw 32) : ∃ q r e : Int,
    Gives Tryz.prog 69 #[.agg (iv s n), .agg (iv t m)] (.tuple #[.agg (ivZ q), .agg (ivZ r), .int .i64 e]) ∧
    Gives Tryz.prog 44 #[.agg (iv s n), .agg (iv t m)] (.tuple #[.agg (ivZ q), .agg (ivZ r), .int .i64 e]) ∧ q.natAbs < pw 32 ∧ r.natAbs < pw 32 := by
  rcases Nat.eq_zero_or_pos m with rfl | h0
  · exact ⟨0, 0, 11, divMod_zero s t n hn, rdivMod_zero s t n, pw_pos 32, pw_pos 32⟩
  · refine ⟨vz s n / vz t m, vz s n % vz t m, 0, divMod_of s t n m hn hm h0 (divide_any n m hn hm h0), rdivMod_any s t n m hn hm h0, ?_, ?_⟩
    · by_cases h : s = false ∨ n % m = 0
      · rw [(divZ_plain h0 h).1, vz_abs]; exact Nat.lt_of_le_of_lt (Nat.div_le_self _ _) hn
      · have hs : s = true := by cases s <;> simp_all
        have h2 : n % m ≠ 0 := fun h3 => h (.inr h3)
        rw [hs, (divZ_more h0 h2).1, vz_abs]; exact div_room hn h0 h2
    · by_cases h : s = false ∨ n % m = 0
      · rw [(divZ_plain h0 h).2]; have := Nat.mod_lt n h0; omega
      · have hs : s = true := by cases s <;> simp_all
        have h2 : n % m ≠ 0 := fun h3 => h (.inr h3)
        rw [hs, (divZ_more h0 h2).2]; omega
end Go.Proofs.YtfdlgeomaballaaGreat
end
