/- Symbolic execution: terms, what they denote, memory by blocks, and the operations of a function run on terms. No program is named here. -/
import Derived.WalkKit
import Derived.Deep.MidRow
import Derived.Laws.CopyOwn
import Derived.StillTail
import Derived.Lib.Hide
namespace Go.Proofs.YteemnnajfiimlaaDoor.Sx
open Go.RowKit

/-! ### Terms -/
inductive Tm where
  | v (i : Nat)
  | lit (n : Int)
  | str (s : ByteArray)
  | ari (op : BinOp) (k : IntKind) (a b : Tm)
  | ex (op : BinOp) (a b : Tm)
  | shf (op : BinOp) (k : IntKind) (a b : Tm)
  | cnv (k : IntKind) (a : Tm)
  | len (s : Tm)
  | byte (s i : Tm)
  | cat (a b : Tm)
  | sub (s lo hi : Tm)

inductive BTm where
  | v (i : Nat)
  | lit (b : Bool)
  | no (a : BTm)
  | eq (a b : Tm)
  | lt (a b : Tm)
  | seq (a b : Tm)
  | slt (a b : Tm)

/-- A part of a receiver that a function value holds. -/
inductive BP where
  | bool (b : BTm)
  | int (k : IntKind) (t : Tm)
  | str (t : Tm)
  | row (i n : Nat)
  | rep (k : IntKind) (v : Int) (n : Nat)

inductive Cell where
  | bool (b : BTm)
  | int (k : IntKind) (t : Tm)
  | str (t : Tm)
  | ptr (b off : Nat)
  | slice (b off len cap : Nat)
  | eptr (b base size : Nat) (idx : Tm) (fo : Nat)
  | sl (b c : Nat) (len : Tm)
  | func (f : Nat) (caps : List (Nat × Nat))
  | v (i : Nat)
  | const (c : Value)
  | meth (f : Nat) (bs : List BP)

inductive Piece where
  | one (c : Cell)
  | row (i n : Nat)
  | all (i : Nat)
  | rep (k : IntKind) (v : Int) (n : Nat)
  | bytes (t : Tm)

inductive SV where
  | cell (c : Cell)
  | agg (ps : List Piece)

inductive SW where
  | undef
  | dead
  | one (v : SV)
  | tuple (vs : List SV)

/-- A block: its pieces; 'cap': more cells may lie behind them, up to so many (the number that the name stands for, times the size). -/
structure MB where
  ty : TypeId
  ps : List Piece
  cap : Option (Nat × Nat)

abbrev Mem := List (Nat × Option MB)

/-! ### What they denote -/
def vInt : Value → Int
  | .int _ n => n
  | _ => 0
def vBool : Value → Bool
  | .bool b => b
  | _ => false
def vStr : Value → ByteArray
  | .string s => s
  | _ => ByteArray.empty
def fix (c : Value) : Value := if c.oneCell' then c else Value.int .i64 0

def ariI (op : BinOp) (k : IntKind) (x y : Int) : Int :=
  match op with
  | .add => k.wrap (x + y)
  | .sub => k.wrap (x - y)
  | .mul => k.wrap (x * y)
  | .quo => k.wrap (x.tdiv y)
  | .rem => x.tmod y
  | .and => k.wrap (BitVec.ofInt k.bits x &&& BitVec.ofInt k.bits y).toNat
  | .or => k.wrap (BitVec.ofInt k.bits x ||| BitVec.ofInt k.bits y).toNat
  | .xor => k.wrap (BitVec.ofInt k.bits x ^^^ BitVec.ofInt k.bits y).toNat
  | .andNot => k.wrap (BitVec.ofInt k.bits x &&& ~~~ BitVec.ofInt k.bits y).toNat
  | _ => 0
def exI (op : BinOp) (x y : Int) : Int :=
  match op with
  | .add => x + y
  | .sub => x - y
  | .mul => x * y
  | .quo => x.tdiv y
  | .rem => x.tmod y
  | .lss => if y < x then y else x
  | .gtr => if y > x then y else x
  | _ => 0
def shfI (op : BinOp) (k : IntKind) (x y : Int) : Int :=
  match op with
  | .shl => k.wrap (x * 2 ^ (min y.toNat k.bits))
  | .shr => x.fdiv (2 ^ (min y.toNat k.bits))
  | _ => 0
def byteI (s : ByteArray) (i : Int) : Int := ((s.data.toList.getD i.toNat 0).toNat : Int)

def Tm.den (ρ : Nat → Value) : Tm → Int × ByteArray
  | .v i => (vInt (ρ i), vStr (ρ i))
  | .lit n => (n, ByteArray.empty)
  | .str s => (0, s)
  | .ari op k a b => (ariI op k (a.den ρ).1 (b.den ρ).1, ByteArray.empty)
  | .ex op a b => (exI op (a.den ρ).1 (b.den ρ).1, ByteArray.empty)
  | .shf op k a b => (shfI op k (a.den ρ).1 (b.den ρ).1, ByteArray.empty)
  | .cnv k a => (k.wrap (a.den ρ).1, ByteArray.empty)
  | .len s => ((((s.den ρ).2.size : Nat) : Int), ByteArray.empty)
  | .byte s i => (byteI (s.den ρ).2 (i.den ρ).1, ByteArray.empty)
  | .cat a b => (0, (a.den ρ).2 ++ (b.den ρ).2)
  | .sub s lo hi => (0, (s.den ρ).2.extract (lo.den ρ).1.toNat (hi.den ρ).1.toNat)
def Tm.i (ρ : Nat → Value) (t : Tm) : Int := (t.den ρ).1
def Tm.s (ρ : Nat → Value) (t : Tm) : ByteArray := (t.den ρ).2

def BTm.den (ρ : Nat → Value) : BTm → Bool
  | .v i => vBool (ρ i)
  | .lit b => b
  | .no a => !a.den ρ
  | .eq a b => a.i ρ == b.i ρ
  | .lt a b => decide (a.i ρ < b.i ρ)
  | .seq a b => (a.s ρ).toList == (b.s ρ).toList
  | .slt a b => Op.bytesLess (a.s ρ).toList (b.s ρ).toList

def rowCells (v : Value) (n : Nat) : List Value := ((v.cells.toList.map fix) ++ List.replicate n (Value.int .i64 0)).take n

def BP.den (ρ : Nat → Value) : BP → List Value
  | .bool b => [.bool (b.den ρ)]
  | .int k t => [.int k (t.i ρ)]
  | .str t => [.string (t.s ρ)]
  | .row i n => rowCells (ρ i) n
  | .rep k v n => List.replicate n (.int k v)
def densB (ρ : Nat → Value) : List BP → List Value
  | [] => []
  | p :: ps => p.den ρ ++ densB ρ ps

def intBeq : Int → Int → Bool
  | .ofNat a, .ofNat b => Nat.beq a b
  | .negSucc a, .negSucc b => Nat.beq a b
  | _, _ => false
def Cell.den (ρ : Nat → Value) (β : Nat → Nat) : Cell → Value
  | .bool b => .bool (b.den ρ)
  | .int k t => .int k (t.i ρ)
  | .str t => .string (t.s ρ)
  | .ptr b off => .pointer (some ⟨β b, off, none⟩)
  | .slice b off len cap => .slice (some ⟨β b, off, none⟩) len cap
  | .eptr b base size idx fo => .pointer (some ⟨β b, base + (idx.i ρ).toNat * size + fo, none⟩)
  | .sl b c len => cond (Nat.beq (β c) 0 && intBeq (len.i ρ) 0) (.slice none 0 0) (.slice (some ⟨β b, 0, none⟩) (len.i ρ).toNat (β c - 1))
  | .func f caps => .func (.func f) #[] (caps.map fun c => .pointer (some ⟨β c.1, c.2, none⟩)).toArray
  | .v i => fix (ρ i)
  | .const c => fix c
  | .meth f bs => .func (.func f) #[.agg (densB ρ bs).toArray] #[]

/-- The bytes of a text as cells. -/
def byteCells (s : ByteArray) : List Value := s.data.toList.map fun b => .int .u8 ((b.toNat : Nat) : Int)
def Piece.den (ρ : Nat → Value) (β : Nat → Nat) : Piece → List Value
  | .one c => [c.den ρ β]
  | .row i n => rowCells (ρ i) n
  | .all i => (ρ i).cells.toList.map fix
  | .rep k v n => List.replicate n (.int k v)
  | .bytes t => byteCells (t.s ρ)

def densP (ρ : Nat → Value) (β : Nat → Nat) : List Piece → List Value
  | [] => []
  | p :: ps => p.den ρ β ++ densP ρ β ps

def SV.den (ρ : Nat → Value) (β : Nat → Nat) : SV → Value
  | .cell c => c.den ρ β
  | .agg ps => .agg (densP ρ β ps).toArray

def SW.den (ρ : Nat → Value) (β : Nat → Nat) : SW → Value
  | .undef => Go.undef
  | .dead => Go.undef
  | .one v => v.den ρ β
  | .tuple vs => .tuple (vs.map (·.den ρ β)).toArray

/-- No cell of so many is frozen. -/
def okFz (fz : Nat × Nat) (n : Nat) : Prop := ∀ j, j < n → ¬ (fz.1 ≤ j ∧ j < fz.2)
theorem okFz_zero (n : Nat) : okFz (0, 0) n := fun _ _ h => absurd h.2 (Nat.not_lt_zero _)
def MB.room (β : Nat → Nat) (m : MB) (n : Nat) (rest : List Value) (fz : Nat × Nat) : Prop :=
  match m.cap with
  | none => rest = [] ∧ fz = (0, 0)
  | some (c, e) => n + rest.length = (β c - 1) * e ∧ okFz fz (n + rest.length)
theorem MB.room_fz {β : Nat → Nat} {m : MB} {n : Nat} {rest : List Value} {fz : Nat × Nat} (h : m.room β n rest fz) : okFz fz (n + rest.length) := by
  unfold MB.room at h
  split at h
  · rw [h.2]; exact okFz_zero _
  · exact h.2
def MB.fits (ρ : Nat → Value) (β : Nat → Nat) (m : MB) (o : Obj) : Prop :=
  ∃ rest fz, o = .cells (densP ρ β m.ps ++ rest).toArray m.ty fz ∧ m.room β (densP ρ β m.ps).length rest fz

/-! ### The names of blocks in a value -/
def Cell.ids : Cell → List Nat
  | .ptr b _ => [b]
  | .slice b _ _ _ => [b]
  | .eptr b _ _ _ _ => [b]
  | .sl b c _ => [b, c]
  | .func _ caps => caps.map (·.1)
  | _ => []
def Piece.ids : Piece → List Nat
  | .one c => c.ids
  | _ => []
def idsP : List Piece → List Nat
  | [] => []
  | p :: ps => p.ids ++ idsP ps
def capIds : Option (Nat × Nat) → List Nat
  | none => []
  | some (c, _) => [c]
def MB.ids (m : MB) : List Nat := idsP m.ps ++ capIds m.cap
def SV.ids : SV → List Nat
  | .cell c => c.ids
  | .agg ps => idsP ps
def idsV : List SV → List Nat
  | [] => []
  | v :: vs => v.ids ++ idsV vs
def SW.ids : SW → List Nat
  | .undef => []
  | .dead => []
  | .one v => v.ids
  | .tuple vs => idsV vs

/-! ### The least number above all variables of a term -/
def Tm.under (n : Nat) : Tm → Bool
  | .v i => Nat.blt i n
  | .lit _ | .str _ => true
  | .ari _ _ a b | .ex _ a b | .shf _ _ a b | .byte a b | .cat a b => a.under n && b.under n
  | .cnv _ a | .len a => a.under n
  | .sub a b c => a.under n && b.under n && c.under n
def BTm.under (n : Nat) : BTm → Bool
  | .v i => Nat.blt i n
  | .lit _ => true
  | .no a => a.under n
  | .eq a b | .lt a b | .seq a b | .slt a b => a.under n && b.under n
def BP.under (n : Nat) : BP → Bool
  | .bool b => b.under n
  | .int _ t | .str t => t.under n
  | .row i _ => Nat.blt i n
  | .rep _ _ _ => true
def Cell.under (n : Nat) : Cell → Bool
  | .bool b => b.under n
  | .int _ t | .str t | .eptr _ _ _ t _ | .sl _ _ t => t.under n
  | .v i => Nat.blt i n
  | .meth _ bs => bs.all (·.under n)
  | _ => true
def Piece.under (n : Nat) : Piece → Bool
  | .one c => c.under n
  | .row i _ | .all i => Nat.blt i n
  | .rep _ _ _ => true
  | .bytes t => t.under n
def SV.under (n : Nat) : SV → Bool
  | .cell c => c.under n
  | .agg ps => ps.all (·.under n)
def SW.under (n : Nat) : SW → Bool
  | .undef => true
  | .dead => true
  | .one v => v.under n
  | .tuple vs => vs.all (·.under n)

/-! ### Equal terms, as a program sees it -/
def bopNo : BinOp → Nat
  | .add => 0 | .sub => 1 | .mul => 2 | .quo => 3 | .rem => 4 | .and => 5 | .or => 6 | .xor => 7 | .shl => 8 | .shr => 9 | .andNot => 10
  | .eql => 11 | .neq => 12 | .lss => 13 | .leq => 14 | .gtr => 15 | .geq => 16
def kindNo : IntKind → Nat
  | .i8 => 0 | .i16 => 1 | .i32 => 2 | .i64 => 3 | .u8 => 4 | .u16 => 5 | .u32 => 6 | .u64 => 7
def bytesBeq : List UInt8 → List UInt8 → Bool
  | [], [] => true
  | a :: x, b :: y => Nat.beq a.toNat b.toNat && bytesBeq x y
  | _, _ => false
def Tm.beq : Tm → Tm → Bool
  | .v i, .v j => Nat.beq i j
  | .lit m, .lit n => intBeq m n
  | .str s, .str t => bytesBeq s.data.toList t.data.toList
  | .ari o k a b, .ari o' k' a' b' => Nat.beq (bopNo o) (bopNo o') && Nat.beq (kindNo k) (kindNo k') && a.beq a' && b.beq b'
  | .ex o a b, .ex o' a' b' => Nat.beq (bopNo o) (bopNo o') && a.beq a' && b.beq b'
  | .shf o k a b, .shf o' k' a' b' => Nat.beq (bopNo o) (bopNo o') && Nat.beq (kindNo k) (kindNo k') && a.beq a' && b.beq b'
  | .cnv k a, .cnv k' a' => Nat.beq (kindNo k) (kindNo k') && a.beq a'
  | .len a, .len a' => a.beq a'
  | .byte a b, .byte a' b' => a.beq a' && b.beq b'
  | .cat a b, .cat a' b' => a.beq a' && b.beq b'
  | .sub a b c, .sub a' b' c' => a.beq a' && b.beq b' && c.beq c'
  | _, _ => false
def BTm.beq : BTm → BTm → Bool
  | .v i, .v j => Nat.beq i j
  | .lit true, .lit true => true
  | .lit false, .lit false => true
  | .no a, .no b => a.beq b
  | .eq a b, .eq a' b' => a.beq a' && b.beq b'
  | .lt a b, .lt a' b' => a.beq a' && b.beq b'
  | .seq a b, .seq a' b' => a.beq a' && b.beq b'
  | .slt a b, .slt a' b' => a.beq a' && b.beq b'
  | _, _ => false

theorem bopNo_inj {a b : BinOp} (h : bopNo a = bopNo b) : a = b := by cases a <;> cases b <;> first | rfl | (simp [bopNo] at h)
theorem kindNo_inj {a b : IntKind} (h : kindNo a = kindNo b) : a = b := by cases a <;> cases b <;> first | rfl | (simp [kindNo] at h)
theorem intBeq_eq : ∀ {a b : Int}, intBeq a b = true → a = b
  | .ofNat a, .ofNat b, h => by rw [Nat.eq_of_beq_eq_true h]
  | .negSucc a, .negSucc b, h => by rw [Nat.eq_of_beq_eq_true h]
  | .ofNat _, .negSucc _, h => by cases h
  | .negSucc _, .ofNat _, h => by cases h
theorem bytesBeq_eq : ∀ {a b : List UInt8}, bytesBeq a b = true → a = b
  | [], [], _ => rfl
  | a :: x, b :: y, h => by
    simp only [bytesBeq, Bool.and_eq_true] at h
    rw [UInt8.toNat_inj.1 (Nat.eq_of_beq_eq_true h.1), bytesBeq_eq h.2]
  | [], _ :: _, h => by cases h
  | _ :: _, [], h => by cases h
theorem byteArray_ext {s t : ByteArray} (h : s.data.toList = t.data.toList) : s = t := by
  cases s; cases t; simp at h; simp [h]
theorem Tm.beq_eq : ∀ {a b : Tm}, a.beq b = true → a = b := by
  intro a
  induction a with
  | v i => intro b h; cases b <;> simp only [Tm.beq] at h <;> first | (rw [Nat.eq_of_beq_eq_true h]) | cases h
  | lit n => intro b h; cases b <;> simp only [Tm.beq] at h <;> first | (rw [intBeq_eq h]) | cases h
  | str s => intro b h; cases b <;> simp only [Tm.beq] at h <;> first | (rw [byteArray_ext (bytesBeq_eq h)]) | cases h
  | ari o k x y ih1 ih2 =>
    intro b h; cases b <;> simp only [Tm.beq, Bool.and_eq_true] at h <;> first | (obtain ⟨⟨⟨h1, h2⟩, h3⟩, h4⟩ := h; rw [bopNo_inj (Nat.eq_of_beq_eq_true h1), kindNo_inj (Nat.eq_of_beq_eq_true h2), ih1 h3, ih2 h4]) | cases h
  | ex o x y ih1 ih2 =>
    intro b h; cases b <;> simp only [Tm.beq, Bool.and_eq_true] at h <;> first | (obtain ⟨⟨h1, h3⟩, h4⟩ := h; rw [bopNo_inj (Nat.eq_of_beq_eq_true h1), ih1 h3, ih2 h4]) | cases h
  | shf o k x y ih1 ih2 =>
    intro b h; cases b <;> simp only [Tm.beq, Bool.and_eq_true] at h <;> first | (obtain ⟨⟨⟨h1, h2⟩, h3⟩, h4⟩ := h; rw [bopNo_inj (Nat.eq_of_beq_eq_true h1), kindNo_inj (Nat.eq_of_beq_eq_true h2), ih1 h3, ih2 h4]) | cases h
  | cnv k x ih1 => intro b h; cases b <;> simp only [Tm.beq, Bool.and_eq_true] at h <;> first | (obtain ⟨h2, h3⟩ := h; rw [kindNo_inj (Nat.eq_of_beq_eq_true h2), ih1 h3]) | cases h
  | len x ih1 => intro b h; cases b <;> simp only [Tm.beq] at h <;> first | (rw [ih1 h]) | cases h
  | byte x y ih1 ih2 => intro b h; cases b <;> simp only [Tm.beq, Bool.and_eq_true] at h <;> first | (rw [ih1 h.1, ih2 h.2]) | cases h
  | cat x y ih1 ih2 => intro b h; cases b <;> simp only [Tm.beq, Bool.and_eq_true] at h <;> first | (rw [ih1 h.1, ih2 h.2]) | cases h
  | sub x y z ih1 ih2 ih3 => intro b h; cases b <;> simp only [Tm.beq, Bool.and_eq_true] at h <;> first | (rw [ih1 h.1.1, ih2 h.1.2, ih3 h.2]) | cases h
theorem BTm.beq_eq : ∀ {a b : BTm}, a.beq b = true → a = b := by
  intro a
  induction a with
  | v i => intro b h; cases b <;> simp only [BTm.beq] at h <;> first | (rw [Nat.eq_of_beq_eq_true h]) | cases h
  | lit n => intro b h; cases n <;> (cases b <;> first | rfl | (rename_i m; cases m <;> first | rfl | cases h) | cases h)
  | no x ih => intro b h; cases b <;> simp only [BTm.beq] at h <;> first | (rw [ih h]) | cases h
  | eq x y => intro b h; cases b <;> simp only [BTm.beq, Bool.and_eq_true] at h <;> first | (rw [Tm.beq_eq h.1, Tm.beq_eq h.2]) | cases h
  | lt x y => intro b h; cases b <;> simp only [BTm.beq, Bool.and_eq_true] at h <;> first | (rw [Tm.beq_eq h.1, Tm.beq_eq h.2]) | cases h
  | seq x y => intro b h; cases b <;> simp only [BTm.beq, Bool.and_eq_true] at h <;> first | (rw [Tm.beq_eq h.1, Tm.beq_eq h.2]) | cases h
  | slt x y => intro b h; cases b <;> simp only [BTm.beq, Bool.and_eq_true] at h <;> first | (rw [Tm.beq_eq h.1, Tm.beq_eq h.2]) | cases h

/-! ### A value as a term -/
def Cell.ofValue (v : Value) : Option Cell :=
  match v with
  | .bool b => some (.bool (.lit b))
  | .int k n => some (.int k (.lit n))
  | .string s => some (.str (.str s))
  | .agg _ => none
  | .tuple _ => none
  | v => some (.const v)
/-- One cell more in front; equal numbers make a run. -/
def pushRun (c : Cell) (ps : List Piece) : List Piece :=
  match c, ps with
  | .int k (.lit v), .rep k' v' n :: rest => if Nat.beq (kindNo k) (kindNo k') && intBeq v v' then .rep k v (n + 1) :: rest else .one c :: ps
  | .int k (.lit v), .one (.int k' (.lit v')) :: rest => if Nat.beq (kindNo k) (kindNo k') && intBeq v v' then .rep k v 2 :: rest else .one c :: ps
  | _, _ => .one c :: ps
def cellsOf : List Value → Option (List Piece)
  | [] => some []
  | v :: vs =>
    match Cell.ofValue v with
    | none => none
    | some c => match cellsOf vs with
      | none => none
      | some ps => some (pushRun c ps)
def SV.ofValue (v : Value) : Option SV :=
  match v with
  | .agg cs => (cellsOf cs.toList).map .agg
  | v => (Cell.ofValue v).map .cell

theorem fix_one {v : Value} (h : v.oneCell' = true) : fix v = v := by simp [fix, h]
theorem Cell.ofValue_den {v : Value} {c : Cell} (h : Cell.ofValue v = some c) (ρ : Nat → Value) (β : Nat → Nat) : c.den ρ β = v := by
  cases v <;> simp only [Cell.ofValue, Option.some.injEq, reduceCtorEq] at h <;> subst h <;> first | rfl | (exact fix_one rfl)
theorem pushRun_den (c : Cell) (ps : List Piece) (ρ : Nat → Value) (β : Nat → Nat) : densP ρ β (pushRun c ps) = c.den ρ β :: densP ρ β ps := by
  unfold pushRun
  split
  · split
    · rename_i h
      simp only [Bool.and_eq_true] at h
      rw [kindNo_inj (Nat.eq_of_beq_eq_true h.1), intBeq_eq h.2]
      simp [densP, Piece.den, List.replicate_succ, Cell.den, Tm.i, Tm.den]
    · rfl
  · split
    · rename_i h
      simp only [Bool.and_eq_true] at h
      rw [kindNo_inj (Nat.eq_of_beq_eq_true h.1), intBeq_eq h.2]
      simp [densP, Piece.den, List.replicate_succ, Cell.den, Tm.i, Tm.den]
    · rfl
  · rfl
theorem cellsOf_den : ∀ {vs : List Value} {ps : List Piece}, cellsOf vs = some ps → ∀ (ρ : Nat → Value) (β : Nat → Nat), densP ρ β ps = vs
  | [], ps, h, ρ, β => by cases h; rfl
  | v :: vs, ps, h, ρ, β => by
    simp only [cellsOf] at h
    split at h
    · cases h
    · rename_i c hc
      split at h
      · cases h
      · rename_i qs hq
        cases h
        rw [pushRun_den, Cell.ofValue_den hc, cellsOf_den hq]
theorem SV.ofValue_den {v : Value} {s : SV} (h : SV.ofValue v = some s) (ρ : Nat → Value) (β : Nat → Nat) : s.den ρ β = v := by
  cases v
  case agg cs =>
    simp only [SV.ofValue, Option.map_eq_some_iff] at h
    obtain ⟨ps, hp, rfl⟩ := h
    simp [SV.den, cellsOf_den hp]
  all_goals
    simp only [SV.ofValue, Option.map_eq_some_iff] at h
    obtain ⟨c, hc, rfl⟩ := h
    exact Cell.ofValue_den hc ρ β

/-! ### Cuts of a row of pieces -/
def Piece.size? : Piece → Option Nat
  | .one _ => some 1
  | .row _ n => some n
  | .all _ => none
  | .rep _ _ n => some n
  | .bytes _ => none
/-- The first n cells, and the rest. -/
def cut : List Piece → Nat → Option (List Piece × List Piece)
  | ps, 0 => some ([], ps)
  | [], _ + 1 => none
  | p :: ps, n + 1 =>
    match p.size? with
    | none => none
    | some k => if Nat.ble k (n + 1) && Nat.ble 1 k then
        match cut ps (n + 1 - k) with
        | none => none
        | some (x, y) => some (p :: x, y)
      else match p with
        | .rep kd v m => if Nat.ble (n + 1) m then some ([.rep kd v (n + 1)], .rep kd v (m - (n + 1)) :: ps) else none
        | _ => none
theorem rowCells_length (v : Value) (n : Nat) : (rowCells v n).length = n := by simp [rowCells]
theorem Piece.den_length {p : Piece} {k : Nat} (h : p.size? = some k) (ρ : Nat → Value) (β : Nat → Nat) : (p.den ρ β).length = k := by
  cases p <;> simp only [Piece.size?, Option.some.injEq, reduceCtorEq] at h <;> subst h
  · rfl
  · exact rowCells_length _ _
  · exact List.length_replicate ..
theorem cut_den (ρ : Nat → Value) (β : Nat → Nat) : ∀ {ps : List Piece} {n : Nat} {x y : List Piece}, cut ps n = some (x, y) → densP ρ β ps = densP ρ β x ++ densP ρ β y ∧ (densP ρ β x).length = n
  | ps, 0, x, y, h => by
    simp only [cut] at h
    cases h; exact ⟨rfl, rfl⟩
  | [], n + 1, x, y, h => by cases h
  | p :: ps, n + 1, x, y, h => by
    simp only [cut] at h
    split at h
    · cases h
    · rename_i k hk
      split at h
      · rename_i hle
        split at h
        · cases h
        · rename_i x' y' hc
          cases h
          obtain ⟨h1, h2⟩ := cut_den ρ β hc
          simp only [Bool.and_eq_true, Nat.ble_eq] at hle
          have hl := Piece.den_length hk ρ β
          refine ⟨by simp only [densP, h1, List.append_assoc], ?_⟩
          simp only [densP, List.length_append, hl, h2]; omega
      · split at h
        · rename_i _ kd v m
          split at h
          · rename_i hle
            cases h
            have hle : n + 1 ≤ m := by simpa [Nat.ble_eq] using hle
            refine ⟨?_, by simp [densP, Piece.den]⟩
            simp only [densP, Piece.den, List.append_nil]
            rw [← List.append_assoc, List.replicate_append_replicate]
            congr 2; omega
          · cases h
        · cases h
/-- The cells from place off on, n of them. -/
def slice (ps : List Piece) (off n : Nat) : Option (List Piece) :=
  match cut ps off with
  | none => none
  | some (_, y) => match cut y n with
    | none => none
    | some (z, _) => some z
/-- The cells from place off on, replaced. -/
def splice (ps : List Piece) (off n : Nat) (new : List Piece) : Option (List Piece) :=
  match cut ps off with
  | none => none
  | some (x, y) => match cut y n with
    | none => none
    | some (_, u) => some (x ++ new ++ u)
theorem densP_append (ρ : Nat → Value) (β : Nat → Nat) : ∀ (x y : List Piece), densP ρ β (x ++ y) = densP ρ β x ++ densP ρ β y
  | [], _ => rfl
  | p :: x, y => by simp only [List.cons_append, densP, densP_append ρ β x y, List.append_assoc]
theorem slice_den {ps z : List Piece} {off n : Nat} (h : slice ps off n = some z) (ρ : Nat → Value) (β : Nat → Nat) :
    densP ρ β z = ((densP ρ β ps).drop off).take n ∧ off + n ≤ (densP ρ β ps).length ∧ (densP ρ β z).length = n := by
  simp only [slice] at h
  split at h
  · cases h
  · rename_i x y hc
    split at h
    · cases h
    · rename_i u v hd
      cases h
      obtain ⟨h1, h2⟩ := cut_den ρ β hc
      obtain ⟨h3, h4⟩ := cut_den ρ β hd
      subst h2 h4
      rw [h1, h3]
      refine ⟨by simp, by simp, rfl⟩
theorem splice_den {ps new z : List Piece} {off n : Nat} (h : splice ps off n new = some z) (ρ : Nat → Value) (β : Nat → Nat) :
    densP ρ β z = (densP ρ β ps).take off ++ densP ρ β new ++ (densP ρ β ps).drop (off + n) ∧ off + n ≤ (densP ρ β ps).length := by
  simp only [splice] at h
  split at h
  · cases h
  · rename_i x y hc
    split at h
    · cases h
    · rename_i u v hd
      cases h
      obtain ⟨h1, h2⟩ := cut_den ρ β hc
      obtain ⟨h3, h4⟩ := cut_den ρ β hd
      subst h2 h4
      rw [h1, h3, densP_append, densP_append]
      refine ⟨?_, by simp⟩
      rw [List.take_append_of_le_length (Nat.le_refl _), List.take_length, List.drop_append, List.drop_append]
      simp

theorem oneCell_fix (c : Value) : (fix c).oneCell' = true := by
  unfold fix
  split
  · assumption
  · rfl
theorem Cell.den_one (c : Cell) (ρ : Nat → Value) (β : Nat → Nat) : (c.den ρ β).oneCell' = true := by
  cases c <;> first | rfl | exact oneCell_fix _ | (simp only [Cell.den, cond]; split <;> rfl)
theorem densP_one (ρ : Nat → Value) (β : Nat → Nat) : ∀ (ps : List Piece), ∀ v ∈ densP ρ β ps, v.oneCell' = true
  | [], v, h => by cases h
  | p :: ps, v, h => by
    simp only [densP, List.mem_append] at h
    rcases h with h | h
    · cases p
      · simp only [Piece.den, List.mem_singleton] at h; subst h; exact Cell.den_one _ _ _
      · simp only [Piece.den, rowCells] at h
        have := List.mem_of_mem_take h
        rcases List.mem_append.1 this with h | h
        · obtain ⟨x, _, rfl⟩ := List.mem_map.1 h; exact oneCell_fix _
        · rw [(List.mem_replicate.1 h).2]; rfl
      · simp only [Piece.den] at h
        obtain ⟨x, _, rfl⟩ := List.mem_map.1 h; exact oneCell_fix _
      · simp only [Piece.den] at h
        rw [(List.mem_replicate.1 h).2]; rfl
      · simp only [Piece.den, byteCells] at h
        obtain ⟨x, _, rfl⟩ := List.mem_map.1 h; rfl
    · exact densP_one ρ β ps v h

/-! ### A change of names or variables that do not occur -/
section congr
variable {ρ ρ' : Nat → Value} {β β' : Nat → Nat}
theorem Cell.den_names {c : Cell} (h : ∀ i ∈ c.ids, β' i = β i) : c.den ρ β' = c.den ρ β := by
  cases c <;> simp only [Cell.den, Cell.ids] at * <;> first | rfl | (rw [h _ (.head _)]; done) | (rw [h _ (.head _), h _ (.tail _ (.head _))]; done) | skip
  rename_i f caps
  congr 2
  refine List.map_congr_left fun x hx => ?_
  rw [h _ (List.mem_map.2 ⟨x, hx, rfl⟩)]
theorem densP_names : ∀ {ps : List Piece}, (∀ i ∈ idsP ps, β' i = β i) → densP ρ β' ps = densP ρ β ps
  | [], _ => rfl
  | p :: ps, h => by
    simp only [densP, idsP, List.mem_append] at *
    rw [densP_names (ps := ps) fun i hi => h i (.inr hi)]
    congr 1
    cases p
    · simp only [Piece.den]; rw [Cell.den_names fun i hi => h i (.inl hi)]
    · rfl
    · rfl
    · rfl
    · rfl
theorem SV.den_names {v : SV} (h : ∀ i ∈ v.ids, β' i = β i) : v.den ρ β' = v.den ρ β := by
  cases v with
  | cell c => exact Cell.den_names h
  | agg ps => simp only [SV.den]; rw [densP_names h]
theorem idsV_names : ∀ {vs : List SV}, (∀ i ∈ idsV vs, β' i = β i) → vs.map (·.den ρ β') = vs.map (·.den ρ β)
  | [], _ => rfl
  | v :: vs, h => by
    simp only [idsV, List.mem_append] at h
    simp only [List.map_cons]
    rw [SV.den_names fun i hi => h i (.inl hi), idsV_names fun i hi => h i (.inr hi)]
theorem SW.den_names {v : SW} (h : ∀ i ∈ v.ids, β' i = β i) : v.den ρ β' = v.den ρ β := by
  cases v with
  | undef => rfl
  | dead => rfl
  | one v => exact SV.den_names h
  | tuple vs => simp only [SW.den]; rw [idsV_names h]
theorem MB.fits_names {m : MB} {o : Obj} (h : ∀ i ∈ m.ids, β' i = β i) (hf : m.fits ρ β o) : m.fits ρ β' o := by
  obtain ⟨rest, fz, h1, h2⟩ := hf
  have e : densP ρ β' m.ps = densP ρ β m.ps := densP_names fun i hi => h i (List.mem_append_left _ hi)
  refine ⟨rest, fz, by rw [e]; exact h1, ?_⟩
  rw [e]
  unfold MB.room at *
  split
  · rename_i hc; rw [hc] at h2; exact h2
  · rename_i c n hc
    rw [hc] at h2
    rw [h c (List.mem_append_right _ (by rw [hc]; exact .head _))]; exact h2

theorem Tm.den_under {n : Nat} (hρ : ∀ i, i < n → ρ' i = ρ i) : ∀ {t : Tm}, t.under n = true → t.den ρ' = t.den ρ := by
  intro t
  induction t with
  | v i => intro h; simp only [Tm.under, Nat.blt_eq] at h; simp only [Tm.den, hρ i h]
  | lit _ => intro _; rfl
  | str _ => intro _; rfl
  | ari o k a b iha ihb => intro h; simp only [Tm.under, Bool.and_eq_true] at h; simp only [Tm.den, iha h.1, ihb h.2]
  | ex o a b iha ihb => intro h; simp only [Tm.under, Bool.and_eq_true] at h; simp only [Tm.den, iha h.1, ihb h.2]
  | shf o k a b iha ihb => intro h; simp only [Tm.under, Bool.and_eq_true] at h; simp only [Tm.den, iha h.1, ihb h.2]
  | cnv k a iha => intro h; simp only [Tm.under] at h; simp only [Tm.den, iha h]
  | len a iha => intro h; simp only [Tm.under] at h; simp only [Tm.den, iha h]
  | byte a b iha ihb => intro h; simp only [Tm.under, Bool.and_eq_true] at h; simp only [Tm.den, iha h.1, ihb h.2]
  | cat a b iha ihb => intro h; simp only [Tm.under, Bool.and_eq_true] at h; simp only [Tm.den, iha h.1, ihb h.2]
  | sub a b c iha ihb ihc => intro h; simp only [Tm.under, Bool.and_eq_true] at h; simp only [Tm.den, iha h.1.1, ihb h.1.2, ihc h.2]
theorem BTm.den_under {n : Nat} (hρ : ∀ i, i < n → ρ' i = ρ i) : ∀ {t : BTm}, t.under n = true → t.den ρ' = t.den ρ := by
  intro t
  induction t with
  | v i => intro h; simp only [BTm.under, Nat.blt_eq] at h; simp only [BTm.den, hρ i h]
  | lit _ => intro _; rfl
  | no a ih => intro h; simp only [BTm.under] at h; simp only [BTm.den, ih h]
  | eq a b => intro h; simp only [BTm.under, Bool.and_eq_true] at h; simp only [BTm.den, Tm.i, Tm.den_under hρ h.1, Tm.den_under hρ h.2]
  | lt a b => intro h; simp only [BTm.under, Bool.and_eq_true] at h; simp only [BTm.den, Tm.i, Tm.den_under hρ h.1, Tm.den_under hρ h.2]; rfl
  | seq a b => intro h; simp only [BTm.under, Bool.and_eq_true] at h; simp only [BTm.den, Tm.s, Tm.den_under hρ h.1, Tm.den_under hρ h.2]
  | slt a b => intro h; simp only [BTm.under, Bool.and_eq_true] at h; simp only [BTm.den, Tm.s, Tm.den_under hρ h.1, Tm.den_under hρ h.2]
theorem densB_under {n : Nat} (hρ : ∀ i, i < n → ρ' i = ρ i) : ∀ {bs : List BP}, bs.all (·.under n) = true → densB ρ' bs = densB ρ bs
  | [], _ => rfl
  | p :: ps, h => by
    simp only [List.all_cons, Bool.and_eq_true] at h
    simp only [densB]
    rw [densB_under hρ h.2]
    congr 1
    obtain ⟨h, _⟩ := h
    cases p <;> simp only [BP.under] at h <;> simp only [BP.den]
    · rw [BTm.den_under hρ h]
    · simp only [Tm.i, Tm.den_under hρ h]
    · simp only [Tm.s, Tm.den_under hρ h]
    · rw [hρ _ (by simpa [Nat.blt_eq] using h)]
theorem Cell.den_under {n : Nat} (hρ : ∀ i, i < n → ρ' i = ρ i) {c : Cell} (h : c.under n = true) : c.den ρ' β = c.den ρ β := by
  cases c <;> simp only [Cell.under] at h <;> simp only [Cell.den]
  · rw [BTm.den_under hρ h]
  · simp only [Tm.i, Tm.den_under hρ h]
  · simp only [Tm.s, Tm.den_under hρ h]
  · simp only [Tm.i, Tm.den_under hρ h]
  · simp only [Tm.i, Tm.den_under hρ h]
  · rw [hρ _ (by simpa [Nat.blt_eq] using h)]
  · rw [densB_under hρ h]
theorem densP_under {n : Nat} (hρ : ∀ i, i < n → ρ' i = ρ i) : ∀ {ps : List Piece}, ps.all (·.under n) = true → densP ρ' β ps = densP ρ β ps
  | [], _ => rfl
  | p :: ps, h => by
    simp only [List.all_cons, Bool.and_eq_true] at h
    simp only [densP]
    rw [densP_under hρ h.2]
    congr 1
    obtain ⟨h, _⟩ := h
    cases p <;> simp only [Piece.under] at h <;> simp only [Piece.den]
    · rw [Cell.den_under hρ h]
    · rw [hρ _ (by simpa [Nat.blt_eq] using h)]
    · rw [hρ _ (by simpa [Nat.blt_eq] using h)]
    · simp only [Tm.s, Tm.den_under hρ h]
theorem SV.den_under {n : Nat} (hρ : ∀ i, i < n → ρ' i = ρ i) {v : SV} (h : v.under n = true) : v.den ρ' β = v.den ρ β := by
  cases v with
  | cell c => exact Cell.den_under hρ h
  | agg ps => simp only [SV.den]; rw [densP_under hρ h]
theorem SVs_under {n : Nat} (hρ : ∀ i, i < n → ρ' i = ρ i) : ∀ {vs : List SV}, vs.all (·.under n) = true → vs.map (·.den ρ' β) = vs.map (·.den ρ β)
  | [], _ => rfl
  | v :: vs, h => by
    simp only [List.all_cons, Bool.and_eq_true] at h
    simp only [List.map_cons]
    rw [SV.den_under hρ h.1, SVs_under hρ h.2]
theorem SW.den_under {n : Nat} (hρ : ∀ i, i < n → ρ' i = ρ i) {v : SW} (h : v.under n = true) : v.den ρ' β = v.den ρ β := by
  cases v with
  | undef => rfl
  | dead => rfl
  | one v => exact SV.den_under hρ h
  | tuple vs => simp only [SW.den]; rw [SVs_under hρ h]
theorem MB.fits_under {n : Nat} (hρ : ∀ i, i < n → ρ' i = ρ i) {m : MB} (h : m.ps.all (·.under n) = true) : m.fits ρ' β = m.fits ρ β := by
  funext o
  simp only [MB.fits, densP_under hρ h]
end congr
end Go.Proofs.YteemnnajfiimlaaDoor.Sx
