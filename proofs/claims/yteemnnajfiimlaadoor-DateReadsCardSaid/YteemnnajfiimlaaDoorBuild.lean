/- Literals of numbers with a sign and of rows of limbs. No program is named here. -/
import Derived.Test.YteemnnajfiimlaaDoorEq
namespace Go.Proofs.YteemnnajfiimlaaDoor
open Go.RowKit
variable {P : Program}

theorem fill_get (off : Nat) : ∀ (vs : List Value) (s : Nat) (cs : Array Value), off + s + vs.length ≤ cs.size → ∀ k,
    ((vs.zipIdx s).foldl (fun (cs : Array Value) (x : Value × Nat) => cs.setIfInBounds (off + x.2) x.1) cs)[k]? = if off + s ≤ k ∧ k < off + s + vs.length then vs[k - (off + s)]? else cs[k]?
  | [], s, cs, _, k => by
    rw [if_neg (by simp)]; rfl
  | v :: vs, s, cs, h, k => by
    simp only [List.length_cons] at h
    rw [List.zipIdx_cons, List.foldl_cons, fill_get off vs (s + 1) _ (by simp; omega) k]
    by_cases h1 : off + s = k
    · subst h1
      rw [if_neg (by omega), if_pos (by simp), Array.getElem?_setIfInBounds, if_pos rfl, if_pos (by omega)]
      simp
    · by_cases h2 : off + (s + 1) ≤ k ∧ k < off + (s + 1) + vs.length
      · rw [if_pos h2, if_pos (by simp only [List.length_cons]; omega)]
        rw [show k - (off + s) = (k - (off + (s + 1))) + 1 by omega, List.getElem?_cons_succ]
      · rw [if_neg h2, if_neg (by simp only [List.length_cons]; omega)]
        rw [Array.getElem?_setIfInBounds_ne h1]

theorem fill_iv (s s' : Bool) (n n' : Nat) : (mgk 32 n).zipIdx.foldl (fun (cs : Array Value) (x : Value × Nat) => cs.setIfInBounds (1 + x.2) x.1) (iv s n') = iv s n ∧ (#[Value.bool s].zipIdx.foldl (fun (cs : Array Value) (x : Value × Nat) => cs.setIfInBounds (0 + x.2) x.1) (iv s' n')) = iv s n' := by
  constructor
  · apply Array.ext_getElem?
    intro k
    rw [← Array.foldl_toList, Array.toList_zipIdx, fill_get 1 _ 0 _ (by simp [iv_size, mgk_size])]
    rcases k with _ | k
    · rw [if_neg (by omega), iv_neg, iv_neg]
    · by_cases hk : k < 32
      · rw [if_pos (by simp [mgk_size]; omega)]
        rw [show k + 1 = 1 + k by omega, iv_mag, show 1 + k - (1 + 0) = k by omega]
        simp
      · rw [if_neg (by simp [mgk_size]; omega), Array.getElem?_eq_none (by rw [iv_size]; omega), Array.getElem?_eq_none (by rw [iv_size]; omega)]
  · apply Array.ext_getElem?
    intro k
    rcases k with _ | k
    · rw [iv_neg]; simp [iv_size]
    · simp only [iv]
      simp

theorem fill_step (place : Nat → Option (Nat × Nat)) (cells cells' : Array Value) (i : Nat) (v : Value) (rest : List (Nat × Value)) (off size : Nat) (hp : place i = some (off, size)) (hs : v.cells.size = size) (hfit : off + size ≤ cells.size)
    (hc : v.cells.zipIdx.foldl (fun (cs : Array Value) (x : Value × Nat) => cs.setIfInBounds (off + x.2) x.1) cells = cells') : Instr.fill place cells ((i, v) :: rest) = Instr.fill place cells' rest := by
  subst hs hc
  simp only [Instr.fill, hp]
  rw [if_neg (by simp; omega)]

theorem built_iv (t : TypeId) (fs : Array Field) (hz : (P.info? t).map (·.zero) = some (some (.agg (iv false 0)))) (hu : P.underlying t = some (.struct fs)) (hp : fs.toList.mapM (fun f => (P.info? f.type).map fun i => (f.offset, i.size)) = some [(0, 1), (1, 32)]) (s : Bool) (n : Nat) :
    P.built t [(0, .bool s), (1, .agg (mgk 32 n))] = some (iv s n) := by
  unfold Program.built
  cases hit : P.info? t with
  | none => simp [hit] at hz
  | some it =>
    have hz' : it.zero = some (.agg (iv false 0)) := by simpa [hit] using hz
    have h1 := (fill_iv s false n 0).1
    have h2 := (fill_iv s false n 0).2
    simp only [hu, hz', hp]
    show Instr.fill (fun x => #[(0, 1), (1, 32)][x]?) (iv false 0) [(0, Value.bool s), (1, Value.agg (mgk 32 n))] = _
    rw [fill_step _ _ (iv s 0) 0 (.bool s) _ 0 1 rfl rfl (by show 0 + 1 ≤ (iv false 0).size; rw [iv_size]; omega) h2, fill_step _ _ (iv s n) 1 (.agg (mgk 32 n)) _ 1 32 rfl (mgk_size 32 n) (by rw [iv_size]; omega) h1]
    rfl

/-- A row of which the first limbs are given. -/
theorem built_two (t e : TypeId) (hz : (P.info? t).map (·.zero) = some (some (.agg (mgk 32 0)))) (hu : P.underlying t = some (.array 32 e)) (he : (P.info? e).map (·.size) = some 1) (x y : Nat) (zx zy : Int) (hzx : zx = x) (hzy : zy = y) (hx : x < 4294967296) (hy : y < 4294967296) :
    P.built t [(0, .int .u32 zx), (1, .int .u32 zy)] = some (mgk 32 (x + y * 4294967296)) := by
  unfold Program.built
  cases hit : P.info? t with
  | none => simp [hit] at hz
  | some it =>
    have hz' : it.zero = some (.agg (mgk 32 0)) := by simpa [hit] using hz
    cases hie : P.info? e with
    | none => simp [hie] at he
    | some ie =>
      have hs : ie.size = 1 := by simpa [hie] using he
      simp only [hu, hz', hie, hs, Instr.fill, Value.cells]
      have e0 : (mgk 32 0).setIfInBounds 0 (.int .u32 zx) = mgk 32 x := by
        rw [mgk_put' 0 x hzx hx, put_low _ (by rw [pw_zero]; omega), pw_zero, Nat.mul_one, Nat.zero_add]
      have e1 : (mgk 32 x).setIfInBounds 1 (.int .u32 zy) = mgk 32 (x + y * 4294967296) := by
        rw [mgk_put' x y hzy hy, put_low _ (by rw [pw_one]; exact hx), pw_one]
      simp [e0, e1, mgk_size]

theorem built_one (t e : TypeId) (hz : (P.info? t).map (·.zero) = some (some (.agg (mgk 32 0)))) (hu : P.underlying t = some (.array 32 e)) (he : (P.info? e).map (·.size) = some 1) (x : Nat) (zx : Int) (hzx : zx = x) (hx : x < 4294967296) :
    P.built t [(0, .int .u32 zx)] = some (mgk 32 x) := by
  unfold Program.built
  cases hit : P.info? t with
  | none => simp [hit] at hz
  | some it =>
    have hz' : it.zero = some (.agg (mgk 32 0)) := by simpa [hit] using hz
    cases hie : P.info? e with
    | none => simp [hie] at he
    | some ie =>
      have hs : ie.size = 1 := by simpa [hie] using he
      simp only [hu, hz', hie, hs, Instr.fill, Value.cells]
      have e0 : (mgk 32 0).setIfInBounds 0 (.int .u32 zx) = mgk 32 x := by
        rw [mgk_put' 0 x hzx hx, put_low _ (by rw [pw_zero]; omega), pw_zero, Nat.mul_one, Nat.zero_add]
      simp [e0, mgk_size]

/-! ### The number that such cells hold -/
def vz (s : Bool) (n : Nat) : Int := if s then -(n : Int) else n
/-- The canonical cells of a number. -/
def ivZ (z : Int) : Array Value := iv (decide (z < 0)) z.natAbs
theorem vz_abs (s : Bool) (n : Nat) : (vz s n).natAbs = n := by unfold vz; split <;> omega
theorem vz_lt (s : Bool) (n : Nat) : decide (vz s n < 0) = (s && !isz n) := by
  cases s
  · rw [decide_eq_false (by unfold vz; simp)]; rfl
  · by_cases h : n = 0
    · subst h; rw [decide_eq_false (by unfold vz; simp)]; rfl
    · rw [decide_eq_true (by unfold vz; simp; omega)]; simp [isz_false h]
theorem ivZ_vz (s : Bool) (n : Nat) : ivZ (vz s n) = iv (s && !isz n) n := by unfold ivZ; rw [vz_lt, vz_abs]
theorem ivZ_zero : ivZ 0 = iv false 0 := by simp [ivZ]
theorem vz_zero (s : Bool) : vz s 0 = 0 := by cases s <;> rfl
theorem ivZ_size (z : Int) : (ivZ z).size = 33 := iv_size _ _
theorem ivZ_inj {x y : Int} : (decide (x < 0) = decide (y < 0) ∧ x.natAbs = y.natAbs) ↔ x = y := by
  constructor
  · rintro ⟨h1, h2⟩
    have : (x < 0) ↔ (y < 0) := by simpa using h1
    omega
  · rintro rfl; exact ⟨rfl, rfl⟩
/-- Every number is that of its canonical cells. -/
theorem vz_self (z : Int) : vz (decide (z < 0)) z.natAbs = z := by
  unfold vz
  by_cases h : z < 0
  · simp [h]; omega
  · simp [h]; omega
/-- A result, or that it does not fit. -/
def resZ (z : Int) : Value := if z.natAbs < pw 32 then .tuple #[.agg (ivZ z), .int .i64 0] else .tuple #[.agg (ivZ 0), .int .i64 10]
theorem resZ_fits {z : Int} (h : z.natAbs < pw 32) : resZ z = .tuple #[.agg (ivZ z), .int .i64 0] := if_pos h
theorem resZ_not {z : Int} (h : ¬ z.natAbs < pw 32) : resZ z = .tuple #[.agg (ivZ 0), .int .i64 10] := if_neg h
end Go.Proofs.YteemnnajfiimlaaDoor
