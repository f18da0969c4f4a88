/- Closed facts on the program's types, and the results of a function as the walks leave them. -/
import Derived.Test.YteemnnajfiimlaaDoorChecked
import Derived.Test.YteemnnajfiimlaaDoorBuild
namespace Go.Proofs.YteemnnajfiimlaaDoor
open Go.RowKit
theorem iv_sizes (s t : Bool) (n m : Nat) : (iv s n).size = (iv t m).size := by rw [iv_size, iv_size]
theorem mg_sizes (k n m : Nat) : (mgk k n).size = (mgk k m).size := by rw [mgk_size, mgk_size]
theorem iv_zero : iv false 0 = #[.bool false] ++ Array.replicate 32 (.int .u32 0) := by rw [iv, mgk_zero]
theorem oneCells (k n : Nat) : (mgk k n).all (·.oneCell') = true := by
  rw [Array.all_eq_true]
  intro i hi
  simp [mgk, lv, Value.oneCell']
theorem oneCells_iv (s : Bool) (n : Nat) : (iv s n).all (·.oneCell') = true := by
  unfold iv
  rw [Array.all_append, oneCells]
  simp [Value.oneCell']
theorem ivz_sizes (s : Bool) (n : Nat) (z : Int) : (iv s n).size = (ivZ z).size := iv_sizes _ _ _ _
theorem zz_sizes (y z : Int) : (ivZ y).size = (ivZ z).size := iv_sizes _ _ _ _
theorem oneCells_Z (z : Int) : (ivZ z).all (·.oneCell') = true := oneCells_iv _ _
theorem ret2 {a b c d : Value} (h1 : a = c) (h2 : b = d) : Ending.returned (.tuple #[a, b]) = .returned (.tuple #[c, d]) := by rw [h1, h2]
theorem u32_eq {a : Int} {b : Nat} (h : a = b) : Value.int .u32 a = .int .u32 ((b : Nat) : Int) := by rw [h]

/-- '!=', '==' of numbers. -/
def neZ (x y : Int) : Bool := !decide (x = y)
def eqZ (x y : Int) : Bool := decide (x = y)
theorem neZ_true {x y : Int} (h : x ≠ y) : neZ x y = true := by simp [neZ, h]
theorem neZ_false {x y : Int} (h : x = y) : neZ x y = false := by simp [neZ, h]
theorem eqZ_true {x y : Int} (h : x = y) : eqZ x y = true := by simp [eqZ, h]
theorem eqZ_false {x y : Int} (h : x ≠ y) : eqZ x y = false := by simp [eqZ, h]
theorem ret1 {a b : Value} (h : a = b) : Ending.returned a = .returned b := by rw [h]

variable {P : Program} {c : Option Nat} {w0 w : World} {r l : List (Nat × Obj)}
/-- A result that lies in a block. -/
theorem res_cell {fn : Func} {p : Tmp} {ty : TypeId} (h : fn.results = #[.cell p ty]) (hS : St c w0 w r l) (tmps : Array Value) (b : Nat) (cs : Array Value) (T : TypeId) (hm : (b, Obj.cells cs T) ∈ l ∨ (b, Obj.cells cs T) ∈ r)
    (hp : tmps.getD p undef = .pointer (some ⟨b, 0, none⟩)) (d : TypeDesc) (hu : P.underlying ty = some d) (hd : d.isRow = true) (hi : (P.info? ty).map (·.size) = some cs.size) : (results fn tmps).run P w = .ok (.agg cs) w :=
  results_cell_row h tmps w b T cs (0, 0) d hp (hS.get hm) hu (by cases d <;> first | rfl | exact hd) hi
theorem run_loadRow (hS : St c w0 w r l) (b : Nat) (cs : Array Value) (T ty : TypeId) (hm : (b, Obj.cells cs T) ∈ l ∨ (b, Obj.cells cs T) ∈ r) (d : TypeDesc) (hu : P.underlying ty = some d) (hd : d.isRow = true) (hi : (P.info? ty).map (·.size) = some cs.size) :
    (loadVar ty ⟨b, 0, none⟩).run P w = .ok (.agg cs) w := run_loadVar_row w b T ty cs (0, 0) d (hS.get hm) hu (by cases d <;> first | rfl | exact hd) hi
theorem res_cell_tmp {fn : Func} {p q : Tmp} {ty : TypeId} (h : fn.results = #[.cell p ty, .tmp q]) (tmps : Array Value) (b : Nat) (cs : Array Value) (hl : (loadVar ty ⟨b, 0, none⟩).run P w = .ok (.agg cs) w)
    (hp : tmps.getD p undef = .pointer (some ⟨b, 0, none⟩)) (v : Value) (hv : tmps.getD q undef = v) : (results fn tmps).run P w = .ok (.tuple #[.agg cs, v]) w := by
  have hp' : tmps[p]?.getD undef = .pointer (some ⟨b, 0, none⟩) := by simpa using hp
  have hv' : tmps[q]?.getD undef = v := by simpa using hv
  simp [results, h, hp', hv', asAddr, hl]
theorem res_cell_cell {fn : Func} {p q : Tmp} {t u : TypeId} (h : fn.results = #[.cell p t, .cell q u]) (tmps : Array Value) (b b' : Nat) (cs cs' : Array Value) (hl : (loadVar t ⟨b, 0, none⟩).run P w = .ok (.agg cs) w) (hl' : (loadVar u ⟨b', 0, none⟩).run P w = .ok (.agg cs') w)
    (hp : tmps.getD p undef = .pointer (some ⟨b, 0, none⟩)) (hp2 : tmps.getD q undef = .pointer (some ⟨b', 0, none⟩)) : (results fn tmps).run P w = .ok (.tuple #[.agg cs, .agg cs']) w := by
  have hp' : tmps[p]?.getD undef = .pointer (some ⟨b, 0, none⟩) := by simpa using hp
  have hp2' : tmps[q]?.getD undef = .pointer (some ⟨b', 0, none⟩) := by simpa using hp2
  simp [results, h, hp', hp2', asAddr, hl, hl']
theorem res_cell_cell_tmp {fn : Func} {p q s : Tmp} {t u : TypeId} (h : fn.results = #[.cell p t, .cell q u, .tmp s]) (tmps : Array Value) (b b' : Nat) (cs cs' : Array Value) (hl : (loadVar t ⟨b, 0, none⟩).run P w = .ok (.agg cs) w) (hl' : (loadVar u ⟨b', 0, none⟩).run P w = .ok (.agg cs') w)
    (hp : tmps.getD p undef = .pointer (some ⟨b, 0, none⟩)) (hp2 : tmps.getD q undef = .pointer (some ⟨b', 0, none⟩)) (v : Value) (hv : tmps.getD s undef = v) : (results fn tmps).run P w = .ok (.tuple #[.agg cs, .agg cs', v]) w := by
  have hp' : tmps[p]?.getD undef = .pointer (some ⟨b, 0, none⟩) := by simpa using hp
  have hp2' : tmps[q]?.getD undef = .pointer (some ⟨b', 0, none⟩) := by simpa using hp2
  have hv' : tmps[s]?.getD undef = v := by simpa using hv
  simp [results, h, hp', hp2', hv', asAddr, hl, hl']

end Go.Proofs.YteemnnajfiimlaaDoor
