/- Closed facts on the program's types, and the results of a function as the walks leave them. -/
import Derived.Test.YtfdlgeomaballaaGreatChecked
import Derived.Test.YtfdlgeomaballaaGreatBuild
namespace Go.Proofs.YtfdlgeomaballaaGreat
open Go.RowKit
theorem size74 : (Tryz.prog.info? 74).map (·.size) = some 32 := by kernel_rfl
theorem size27 : (Tryz.prog.info? 27).map (·.size) = some 32 := by kernel_rfl
theorem size29 : (Tryz.prog.info? 29).map (·.size) = some 33 := by kernel_rfl
theorem size26 : (Tryz.prog.info? 26).map (·.size) = some 1 := by kernel_rfl
theorem size29_iv (s : Bool) (n : Nat) : (Tryz.prog.info? 29).map (·.size) = some (iv s n).size := by rw [iv_size]; exact size29
theorem size74_mg (n : Nat) : (Tryz.prog.info? 74).map (·.size) = some (mgk 32 n).size := by rw [mgk_size]; exact size74
theorem size27_mg (n : Nat) : (Tryz.prog.info? 27).map (·.size) = some (mgk 32 n).size := by rw [mgk_size]; exact size27
theorem iv_sizes (s t : Bool) (n m : Nat) : (iv s n).size = (iv t m).size := by rw [iv_size, iv_size]
theorem mg_sizes (k n m : Nat) : (mgk k n).size = (mgk k m).size := by rw [mgk_size, mgk_size]
theorem zero74 : (Tryz.prog.info? 74).map (·.zero) = some (some (.agg (mgk 32 0))) := by rw [mgk_zero]; kernel_rfl
theorem zero27 : (Tryz.prog.info? 27).map (·.zero) = some (some (.agg (mgk 32 0))) := by rw [mgk_zero]; kernel_rfl
theorem zero99 : (Tryz.prog.info? 99).map (·.zero) = some (some (.agg (mgk 64 0))) := by rw [mgk_zero]; kernel_rfl
theorem iv_zero : iv false 0 = #[.bool false] ++ Array.replicate 32 (.int .u32 0) := by rw [iv, mgk_zero]
theorem zero29 : (Tryz.prog.info? 29).map (·.zero) = some (some (.agg (iv false 0))) := by rw [iv_zero]; kernel_rfl
theorem built74 : Tryz.prog.built 74 [] = some (mgk 32 0) := by rw [mgk_zero]; kernel_rfl
theorem built29 : Tryz.prog.built 29 [] = some (iv false 0) := by rw [iv_zero]; kernel_rfl
theorem built29_iv (s : Bool) (n : Nat) : Tryz.prog.built 29 [(0, .bool s), (1, .agg (mgk 32 n))] = some (iv s n) := built_iv 29 _ zero29 Tryz.underlying29 (by kernel_rfl) s n
theorem built74_two (x y : Nat) (zx zy : Int) (hzx : zx = x) (hzy : zy = y) (hx : x < 4294967296) (hy : y < 4294967296) : Tryz.prog.built 74 [(0, .int .u32 zx), (1, .int .u32 zy)] = some (mgk 32 (x + y * 4294967296)) := built_two 74 26 zero74 Tryz.underlying74 size26 x y zx zy hzx hzy hx hy
theorem built74_one (x : Nat) (zx : Int) (hzx : zx = x) (hx : x < 4294967296) : Tryz.prog.built 74 [(0, .int .u32 zx)] = some (mgk 32 x) := built_one 74 26 zero74 Tryz.underlying74 size26 x zx hzx hx
theorem guard74 : Tryz.prog.eqGuardType Tryz.prog.depth 74 = false := by kernel_rfl
theorem guard29 : Tryz.prog.eqGuardType Tryz.prog.depth 29 = false := by kernel_rfl
theorem ivType : IvType Tryz.prog 29 := ⟨guard29, fun w s1 s2 n m hn hm =>
  run_equalIn_iv w 9997 29 4 27 26 .u32 _ _ s1 s2 n m Tryz.underlying29 (by kernel_rfl) (by decide) (by decide) rfl rfl rfl rfl Tryz.underlying4 Tryz.underlying27 size27 size26 Tryz.underlying26 hn hm⟩
theorem oneCells (k n : Nat) : (mgk k n).all (·.oneCell') = true := by
  rw [Array.all_eq_true]
  intro i hi
  simp [mgk, lv, Value.oneCell']
theorem oneCells_iv (s : Bool) (n : Nat) : (iv s n).all (·.oneCell') = true := by
  unfold iv
  rw [Array.all_append, oneCells]
  simp [Value.oneCell']
theorem size29_Z (z : Int) : (Tryz.prog.info? 29).map (·.size) = some (ivZ z).size := size29_iv _ _
theorem ivz_sizes (s : Bool) (n : Nat) (z : Int) : (iv s n).size = (ivZ z).size := iv_sizes _ _ _ _
theorem zz_sizes (y z : Int) : (ivZ y).size = (ivZ z).size := iv_sizes _ _ _ _
theorem oneCells_Z (z : Int) : (ivZ z).all (·.oneCell') = true := oneCells_iv _ _
theorem ret2 {a b c d : Value} (h1 : a = c) (h2 : b = d) : Ending.returned (.tuple #[a, b]) = .returned (.tuple #[c, d]) := by rw [h1, h2]
theorem u32_eq {a : Int} {b : Nat} (h : a = b) : Value.int .u32 a = .int .u32 ((b : Nat) : Int) := by rw [h]

/-- '!=', '==' of numbers. -/
def neZ (x y : Int) : Bool := !decide (x = y)
def eqZ (x y : Int) : Bool := decide (x = y)
theorem neZ_true {x y : Int} (h : x ≠ y) : neZ x y = true := by simp [neZ, h]
theorem neZ_false {x y : Int} (h : x = y) : neZ x y = false := by simp [neZ, h]
theorem eqZ_true {x y : Int} (h : x = y) : eqZ x y = true := by simp [eqZ, h]
theorem eqZ_false {x y : Int} (h : x ≠ y) : eqZ x y = false := by simp [eqZ, h]
theorem run_neq_Z {o : Oper} {a : Act} (w : World) (x y : Operand) (t' : TypeId) (ho : o.op = .binOp .neq 29 x y t') (p q : Int) (hx : a.eval x = .agg (ivZ p)) (hy : a.eval y = .agg (ivZ q)) (hp : p.natAbs < pw 32) (hq : q.natAbs < pw 32) :
    (execOp a.eval o).run Tryz.prog w = .ok (.value (.bool (neZ p q))) w := by
  rw [run_neq_iv w 29 t' ivType x y ho _ _ _ _ hx hy hp hq, neZ, decide_eq_decide.2 (ivZ_inj (x := p) (y := q))]
theorem run_eql_Z {o : Oper} {a : Act} (w : World) (x y : Operand) (t' : TypeId) (ho : o.op = .binOp .eql 29 x y t') (p q : Int) (hx : a.eval x = .agg (ivZ p)) (hy : a.eval y = .agg (ivZ q)) (hp : p.natAbs < pw 32) (hq : q.natAbs < pw 32) :
    (execOp a.eval o).run Tryz.prog w = .ok (.value (.bool (eqZ p q))) w := by
  rw [run_eql_iv w 29 t' ivType x y ho _ _ _ _ hx hy hp hq, eqZ, decide_eq_decide.2 (ivZ_inj (x := p) (y := q))]
theorem run_neq_Z' {o : Oper} {a : Act} (w : World) (x y : Operand) (t' : TypeId) (ho : o.op = .binOp .neq 29 x y t') (p q : Int) (hx : a.eval x = .agg (ivZ p)) (hy : a.eval y = .agg (ivZ q)) (hp : p.natAbs < pw 32) (hq : q.natAbs < pw 32) (b : Bool) (hb : neZ p q = b) :
    (execOp a.eval o).run Tryz.prog w = .ok (.value (.bool b)) w := by rw [← hb]; exact run_neq_Z w x y t' ho p q hx hy hp hq
theorem run_eql_Z' {o : Oper} {a : Act} (w : World) (x y : Operand) (t' : TypeId) (ho : o.op = .binOp .eql 29 x y t') (p q : Int) (hx : a.eval x = .agg (ivZ p)) (hy : a.eval y = .agg (ivZ q)) (hp : p.natAbs < pw 32) (hq : q.natAbs < pw 32) (b : Bool) (hb : eqZ p q = b) :
    (execOp a.eval o).run Tryz.prog w = .ok (.value (.bool b)) w := by rw [← hb]; exact run_eql_Z w x y t' ho p q hx hy hp hq
theorem ret1 {a b : Value} (h : a = b) : Ending.returned a = .returned b := by rw [h]

variable {P : Program} {c : Option Nat} {w0 w : World} {r l : List (Nat × Obj)}
/-- A result that lies in a block. -/
theorem res_cell {fn : Func} {p : Tmp} {ty : TypeId} (h : fn.results = #[.cell p ty]) (hS : St c w0 w r l) (tmps : Array Value) (b : Nat) (cs : Array Value) (T : TypeId) (hm : (b, Obj.cells cs T) ∈ l ∨ (b, Obj.cells cs T) ∈ r)
    (hp : tmps.getD p undef = .pointer (some ⟨b, 0, none⟩)) (d : TypeDesc) (hu : P.underlying ty = some d) (hd : d.isRow = true) (hi : (P.info? ty).map (·.size) = some cs.size) : (results fn tmps).run P w = .ok (.agg cs) w :=
  results_cell_row h tmps w b T cs (0, 0) d hp (hS.get hm) hu (by cases d <;> first | rfl | exact hd) hi
theorem run_loadRow (hS : St c w0 w r l) (b : Nat) (cs : Array Value) (T ty : TypeId) (hm : (b, Obj.cells cs T) ∈ l ∨ (b, Obj.cells cs T) ∈ r) (d : TypeDesc) (hu : P.underlying ty = some d) (hd : d.isRow = true) (hi : (P.info? ty).map (·.size) = some cs.size) :
    (loadVar ty ⟨b, 0, none⟩).run P w = .ok (.agg cs) w := run_loadVar_row w b T ty cs (0, 0) d (hS.get hm) hu (by cases d <;> first | rfl | exact hd) hi
theorem res_cell_tmp {fn : Func} {p q : Tmp} {ty : TypeId} (h : fn.results = #[.cell p ty, .tmp q]) (tmps : Array Value) (b : Nat) (cs : Array Value) (hl : (loadVar ty ⟨b, 0, none⟩).run P w = .ok (.agg cs) w)
    (hp : tmps.getD p undef = .pointer (some ⟨b, 0, none⟩)) (v : Value) (hv : tmps.getD q undef = v) : (results fn tmps).run P w = .ok (.tuple #[.agg cs, v]) w := by
  have hp' : tmps[p]?.getD undef = .pointer (some ⟨b, 0, none⟩) := by simpa using hp
  have hv' : tmps[q]?.getD undef = v := by simpa using hv
  simp [results, h, hp', hv', asAddr, hl]
theorem res_cell_cell {fn : Func} {p q : Tmp} {t u : TypeId} (h : fn.results = #[.cell p t, .cell q u]) (tmps : Array Value) (b b' : Nat) (cs cs' : Array Value) (hl : (loadVar t ⟨b, 0, none⟩).run P w = .ok (.agg cs) w) (hl' : (loadVar u ⟨b', 0, none⟩).run P w = .ok (.agg cs') w)
    (hp : tmps.getD p undef = .pointer (some ⟨b, 0, none⟩)) (hp2 : tmps.getD q undef = .pointer (some ⟨b', 0, none⟩)) : (results fn tmps).run P w = .ok (.tuple #[.agg cs, .agg cs']) w := by
  have hp' : tmps[p]?.getD undef = .pointer (some ⟨b, 0, none⟩) := by simpa using hp
  have hp2' : tmps[q]?.getD undef = .pointer (some ⟨b', 0, none⟩) := by simpa using hp2
  simp [results, h, hp', hp2', asAddr, hl, hl']
theorem res_cell_cell_tmp {fn : Func} {p q s : Tmp} {t u : TypeId} (h : fn.results = #[.cell p t, .cell q u, .tmp s]) (tmps : Array Value) (b b' : Nat) (cs cs' : Array Value) (hl : (loadVar t ⟨b, 0, none⟩).run P w = .ok (.agg cs) w) (hl' : (loadVar u ⟨b', 0, none⟩).run P w = .ok (.agg cs') w)
    (hp : tmps.getD p undef = .pointer (some ⟨b, 0, none⟩)) (hp2 : tmps.getD q undef = .pointer (some ⟨b', 0, none⟩)) (v : Value) (hv : tmps.getD s undef = v) : (results fn tmps).run P w = .ok (.tuple #[.agg cs, .agg cs', v]) w := by
  have hp' : tmps[p]?.getD undef = .pointer (some ⟨b, 0, none⟩) := by simpa using hp
  have hp2' : tmps[q]?.getD undef = .pointer (some ⟨b', 0, none⟩) := by simpa using hp2
  have hv' : tmps[s]?.getD undef = v := by simpa using hv
  simp [results, h, hp', hp2', hv', asAddr, hl, hl']

end Go.Proofs.YtfdlgeomaballaaGreat
