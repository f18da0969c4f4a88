/- Rows of limbs as what terms denote; the program's plain facts. -/
import Derived.Test.YteemnnajfiimlaaDoorSxO
import Derived.Test.YteemnnajfiimlaaDoorTypes
namespace Go.Proofs.YteemnnajfiimlaaDoor
open Go.Proofs.YteemnnajfiimlaaDoor.Sx

namespace Sx
/-- Nothing of the callers is read. -/
instance (priority := low) noOuter : Outer := ⟨[]⟩
/-- A function of plain values. -/
theorem pure_of {P : Program} (hP : Plain P) {cfg : Cfg} {f : FuncId} {args : List SW} {T : Tree Out} (ρ : List Value) (hT : treeOf P cfg f args [] 0 ρ.length = T) (hu : argsUnder args [] ρ.length = true) (v : Value)
    (h : T.den P (fun ρ' ret => ∀ β, ret.val.den (env ρ') β = v) ρ) : Pure P f (denT (env ρ) (fun _ => 0) args) v :=
  fun w => reads_of hP ρ hT hu v h w fun x hx => by cases hx
end Sx
/-! ### Step by step -/
section
variable [Outer]
variable {P : Program} {K : List Value → Prop} {es : List Ev} {ρ ρ' : List Value}
theorem ev_nil (h : K ρ) : evDen P K [] ρ := h
theorem ev_need {b : BTm} (h : b.den (env ρ) = true) (hK : evDen P K es ρ) : evDen P K (.need b :: es) ρ := ⟨h, hK⟩
theorem ev_fits {k : IntKind} {t : Tm} (z : Int) (hz : t.i (env ρ) = z) (h : k.min ≤ z ∧ z ≤ k.max) (hK : evDen P K es ρ) : evDen P K (.fits k t :: es) ρ := ⟨by rw [hz]; exact h, hK⟩
theorem ev_same {t : TypeId} {x y : SV} {i : Nat} (b : Bool) (hρ : ρ ++ [.bool b] = ρ') {u v : Value} (hx : ∀ β, x.den (env ρ) β = u) (hy : ∀ β, y.den (env ρ) β = v) (h : SameFact P t u v b) (hK : evDen P K es ρ') : evDen P K (.same t x y i :: es) ρ :=
  ⟨b, fun β => by rw [hx, hy]; exact h, by rw [hρ]; exact hK⟩
theorem ev_call {f : FuncId} {xs : List SV} {r : SW} {n : Nat} (vs : List Value) (hl : vs.length = n) (hρ : ρ ++ vs = ρ') {args : Array Value} {v : Value} (h : Pure P f args v) (ha : ∀ β, denV (env ρ) β xs = args) (hv : ∀ β, r.den (env ρ') β = v) (hK : evDen P K es ρ') : evDen P K (.call f xs r n :: es) ρ :=
  ⟨vs, hl, fun β => by rw [ha, hρ, hv]; exact h, by rw [hρ]; exact hK⟩
theorem ev_elem {s : Piece} {i : Tm} {e fo : Nat} {ps : List Piece} {n : Nat} (vs : List Value) (hl : vs.length = n) (hρ : ρ ++ vs = ρ') {l m : List Value} {k : Nat} (hi : (i.i (env ρ')).toNat * e + fo = k) (hs : ∀ β, s.den (env ρ') β = l) (hp : ∀ β, densP (env ρ') β ps = m) (h : (l.drop k).take m.length = m) (hK : evDen P K es ρ') :
    evDen P K (.elem s i e fo ps n :: es) ρ :=
  ⟨vs, hl, fun β => by rw [hρ, hi, hs, hp]; exact h, by rw [hρ]; exact hK⟩
theorem ev_put {s : Piece} {i : Tm} {e fo : Nat} {ps : List Piece} {q : Piece} {n : Nat} (vs : List Value) (hl : vs.length = n) (hρ : ρ ++ vs = ρ') {l l' m : List Value} {k : Nat} (hi : (i.i (env ρ')).toNat * e + fo = k) (hs : ∀ β, s.den (env ρ') β = l) (hq : ∀ β, q.den (env ρ') β = l') (hp : ∀ β, densP (env ρ') β ps = m)
    (h : l' = l.take k ++ m ++ l.drop (k + m.length)) (hk : k + m.length ≤ l.length) (hK : evDen P K es ρ') : evDen P K (.put s i e fo ps q n :: es) ρ :=
  ⟨vs, hl, fun β => by rw [hρ, hi, hs, hp, hq]; exact ⟨h, hk⟩, by rw [hρ]; exact hK⟩
theorem ev_turn {nx : Nat} {f : FuncId} {xs : List SV} {p q m : List (Nat × MB)} {r : SW} {n : Nat} (vs : List Value) (hl : vs.length = n) (hρ : ρ ++ vs = ρ') (h : ∀ β, (∀ x ∈ p, ∀ y ∈ p, x.2.live β = true → y.2.live β = true → β x.1 = β y.1 → x.1 = y.1) → Turns P (env ρ') β nx f (denV (env ρ) β xs) p q m r) (hK : evDen P K es ρ') :
    evDen P K (.turn nx f xs p q m r n :: es) ρ := ⟨vs, hl, fun β hβ => by rw [hρ]; exact h β hβ, by rw [hρ]; exact hK⟩
theorem ev_join {ps : List Piece} {l : List (List Piece × Tm)} {e n : Nat} (vs : List Value) (hl : vs.length = n) (hρ : ρ ++ vs = ρ') (h : ∀ β, densP (env ρ') β ps = denJ (env ρ') β l) (hp : ∀ β, partsOk (env ρ') β e l) (hK : evDen P K es ρ') : evDen P K (.join ps l e n :: es) ρ :=
  ⟨vs, hl, by rw [hρ]; exact fun β => ⟨h β, hp β⟩, by rw [hρ]; exact hK⟩
theorem ev_loop {f k : Nat} {st st' : Sx.St} {x : SExit} {alt : Option (Nat × SExit)} {n : Nat} (vs : List Value) (hl : vs.length = n) (hρ : ρ ++ vs = ρ') (h : Ev.holds P (env ρ') (.loop f k st st' x alt n)) (hK : evDen P K es ρ') : evDen P K (.loop f k st st' x alt n :: es) ρ :=
  ⟨vs, hl, by rw [hρ]; exact h, by rw [hρ]; exact hK⟩
theorem tree_leaf {α : Type} {Q : List Value → α → Prop} {ret : α} (h : evDen P (fun ρ' => Q ρ' ret) es ρ) : (Tree.leaf es ret).den P Q ρ := h
theorem tree_ite {α : Type} {Q : List Value → α → Prop} {c : BTm} {t e : Tree α} (h : evDen P (fun ρ' => (c.den (env ρ') = true → t.den P Q ρ') ∧ (c.den (env ρ') = false → e.den P Q ρ')) es ρ) : (Tree.ite es c t e).den P Q ρ := h
/-- A test whose result is known. -/
theorem way_true {α : Type} {Q : List Value → α → Prop} {c : BTm} {t e : Tree α} (hc : c.den (env ρ) = true) (h : t.den P Q ρ) : (c.den (env ρ) = true → t.den P Q ρ) ∧ (c.den (env ρ) = false → e.den P Q ρ) := ⟨fun _ => h, fun h2 => (by rw [hc] at h2; cases h2)⟩
theorem way_false {α : Type} {Q : List Value → α → Prop} {c : BTm} {t e : Tree α} (hc : c.den (env ρ) = false) (h : e.den P Q ρ) : (c.den (env ρ) = true → t.den P Q ρ) ∧ (c.den (env ρ) = false → e.den P Q ρ) := ⟨fun h2 => (by rw [hc] at h2; cases h2), fun _ => h⟩
end

theorem rng_i64 (z : Int) (h : -9223372036854775808 ≤ z ∧ z ≤ 9223372036854775807) : IntKind.i64.min ≤ z ∧ z ≤ IntKind.i64.max := by simpa [IntKind.min, IntKind.max, IntKind.signed, IntKind.bits] using h
theorem rng_u64 (z : Int) (h : 0 ≤ z ∧ z ≤ 18446744073709551615) : IntKind.u64.min ≤ z ∧ z ≤ IntKind.u64.max := by simpa [IntKind.min, IntKind.max, IntKind.signed, IntKind.bits] using h
theorem rng_u32 (z : Int) (h : 0 ≤ z ∧ z ≤ 4294967295) : IntKind.u32.min ≤ z ∧ z ≤ IntKind.u32.max := by simpa [IntKind.min, IntKind.max, IntKind.signed, IntKind.bits] using h
theorem rng_u8 (z : Int) (h : 0 ≤ z ∧ z ≤ 255) : IntKind.u8.min ≤ z ∧ z ≤ IntKind.u8.max := by simpa [IntKind.min, IntKind.max, IntKind.signed, IntKind.bits] using h
theorem wrap_u32 (n : Nat) : IntKind.u32.wrap ((n : Nat) : Int) = ((n % 4294967296 : Nat) : Int) := by rw [IntKind.wrap_u32]; omega

/-- The limbs of a number, as a list of cells. -/
def mgl (k n : Nat) : List Value := (mgk k n).toList
theorem mgl_length (k n : Nat) : (mgl k n).length = k := by simp [mgl, mgk_size]
theorem fix_lv (n : Nat) : fix (lv n) = lv n := rfl
theorem rowCells_mgk (k n : Nat) : rowCells (.agg (mgk k n)) k = mgl k n := by
  unfold rowCells
  have : ((Value.agg (mgk k n)).cells.toList.map fix) = mgl k n := by
    show (mgk k n).toList.map fix = (mgk k n).toList
    rw [List.map_congr_left (g := id) fun x hx => ?_, List.map_id]
    have : x ∈ mgk k n := by simpa using hx
    obtain ⟨i, hi, rfl⟩ := Array.mem_iff_getElem.1 this
    simp [mgk, fix_lv]
  rw [this, List.take_append_of_le_length (by rw [mgl_length]; exact Nat.le_refl _), List.take_of_length_le (by rw [mgl_length]; exact Nat.le_refl _)]
theorem mgl_get {k n i : Nat} (h : i < k) : (mgl k n)[i]? = some (.int .u32 ((limb n i : Nat) : Int)) := by
  simp only [mgl, Array.getElem?_toList]; exact mgk_get' h
theorem take_one {l : List Value} {i : Nat} {v : Value} (h : l[i]? = some v) : (l.drop i).take 1 = [v] := by
  obtain ⟨hi, rfl⟩ := List.getElem?_eq_some_iff.1 h
  rw [List.drop_eq_getElem_cons hi]; rfl
/-- One limb, read. -/
theorem mgl_elem {k n i : Nat} (h : i < k) : ((mgl k n).drop i).take 1 = [.int .u32 ((limb n i : Nat) : Int)] := take_one (mgl_get h)
/-- One limb, written. -/
theorem mgl_put {k n i v : Nat} {z : Int} (h : i < k) (hz : z = ((v : Nat) : Int)) (hv : v < 4294967296) : mgl k (put n i v) = (mgl k n).take i ++ [.int .u32 z] ++ (mgl k n).drop (i + 1) := by
  have hk : i < (mgk k n).toList.length := by simp [mgk_size, h]
  rw [mgl, ← mgk_put' n v hz hv]
  simp only [Array.toList_setIfInBounds, mgl]
  rw [List.set_eq_take_append_cons_drop, if_pos hk]
  simp
theorem mgl_zero (k : Nat) : mgl k 0 = List.replicate k (.int .u32 0) := by simp [mgl, mgk_zero]
theorem mgl_agg (k n : Nat) : Value.agg (mgl k n).toArray = .agg (mgk k n) := by simp [mgl]
theorem iv_list (s : Bool) (n : Nat) : (Value.bool s :: mgl 32 n).toArray = iv s n := by
  apply Array.toList_inj.1; simp [iv, mgl]
theorem iv_list' (s : Bool) (n : Nat) : (Value.bool s :: (mgl 32 n ++ [])).toArray = iv s n := by rw [List.append_nil]; exact iv_list s n

theorem plain : Plain Tryd.prog where
  names := by
    intro f fn h
    have : (Tryd.prog.funcs.toList.all fun fn => !(fn.name == "runtime.NumGoroutine")) = true := by kernel_rfl
    have h2 := List.all_eq_true.1 this fn (by
      have := Array.mem_of_getElem? h
      simpa using this)
    simpa using h2
  order := by kernel_rfl
theorem pure_gives {f : FuncId} {args : Array Value} {v : Value} (h : Gives Tryd.prog f args v) : Pure Tryd.prog f args v := h
theorem gives_pure {f : FuncId} {args : Array Value} {v : Value} (h : Pure Tryd.prog f args v) : Gives Tryd.prog f args v := h
end Go.Proofs.YteemnnajfiimlaaDoor
