/- Symbolic execution: one operation, in whatever memory. No program is named here. -/
import Derived.Test.YteemnnajfiimlaaDoorSxR
namespace Go.Proofs.YteemnnajfiimlaaDoor.Sx
open Go.RowKit

/-! ### A slice literal of one-cell values -/
/-- The same pieces again and again. -/
def repP : Nat → List Piece → List Piece
  | 0, _ => []
  | n + 1, zs => zs ++ repP n zs
/-- A list of structs or rows, written out. -/
def hSliceLitN (own : Nat) (e : TypeId) (ie : TypeInfo) (len : Nat) (parts : List (Nat × SW)) (nv : Nat) : R OpRes :=
  match ie.zero with
  | some (.agg cs) => match cellsOf cs.toList, Nat.beq cs.size ie.size, Nat.ble (len * ie.size) 16777216, Nat.blt 0 (len * ie.size) with
    | some zs, true, true, true => match idsP zs, fillP (fun i => some (i * ie.size, ie.size)) (repP len zs) parts with
      | [], some ps => .ok ⟨.one (.cell (.slice own 0 len len)), [(own, some ⟨e, ps, none⟩)], [own], nv⟩ []
      | _, _ => .bad "slice literal: fill"
    | _, _, _, _ => .bad "slice literal: size"
  | _ => .bad "slice literal: zero"
def hSliceLit (P : Program) (own : Nat) (t : TypeId) (len : Nat) (parts : List (Nat × SW)) (nv : Nat) : R OpRes :=
  match P.underlying t with
  | some (.slice e) => match P.info? e with
    | some ie => match Nat.beq ie.size 1, ie.zero, Nat.ble len 16777216 with
      | true, some z, true => match Cell.ofValue z with
        | some c => match fillP (fun i => some (i * 1, 1)) (List.replicate len (.one c)) parts with
          | some ps => .ok ⟨.one (.cell (.slice own 0 len len)), [(own, some ⟨e, ps, none⟩)], [own], nv⟩ []
          | none => .bad "slice literal: fill"
        | none => .bad "slice literal: zero"
      | _, _, _ => hSliceLitN own e ie len parts nv
    | none => .bad "slice literal: info"
  | _ => .bad "slice literal: type"

/-- The blocks that an operation looks at or writes. -/
def ptrId : SW → List Nat
  | .one (.cell (.ptr b _)) => [b]
  | .one (.cell (.eptr b _ _ _ _)) => [b]
  | _ => []
def Cell.blks : Cell → List Nat
  | .ptr b _ => [b]
  | .slice b _ _ _ => [b]
  | .eptr b _ _ _ _ => [b]
  | .sl b _ _ => [b]
  | .func _ caps => caps.map (·.1)
  | _ => []
def blksP : List Piece → List Nat
  | [] => []
  | .one c :: ps => c.blks ++ blksP ps
  | _ :: ps => blksP ps
def svsIds : List SW → List Nat
  | [] => []
  | .one (.cell c) :: vs => c.blks ++ svsIds vs
  | .one (.agg ps) :: vs => blksP ps ++ svsIds vs
  | _ :: vs => svsIds vs
def sliceId : SW → List Nat
  | .one (.cell (.sl b _ _)) => [b]
  | .one (.cell (.slice b _ _ _)) => [b]
  | _ => []
def acc (cfg : Cfg) (op : Op) (args : List SW) : List Nat :=
  match op, args with
  | .load _ _, x :: _ => ptrId x
  | .store _ _ _, x :: _ => ptrId x
  | .call _, .one (.cell (.func f caps)) :: rest => match lookEff f cfg.eff with
    | some _ => dedup (svsIds rest ++ caps.map (·.1) ++ cfg.ro)
    | none => []
  | .convert _ _ _, [x] => sliceId x
  | .call c, [s, x] => match c.callee with
    | .builtin .append => dedup (sliceId s ++ sliceId x)
    | _ => []
  | _, _ => []

def zipParts : List (Nat × Operand) → List SW → Option (List (Nat × SW))
  | [], [] => some []
  | (i, _) :: ps, x :: xs => match zipParts ps xs with
    | some l => some ((i, x) :: l)
    | none => none
  | _, _ => none

/-- The row or list that covers a place. -/
def coverP : List Piece → Nat → Nat → Option Nat
  | [], _, _ => none
  | .row _ n :: ps, start, off => if Nat.blt off (start + n) then (if Nat.ble start off then some start else none) else coverP ps (start + n) off
  | .all _ :: _, start, off => if Nat.ble start off then some start else none
  | .bytes _ :: _, start, off => if Nat.ble start off then some start else none
  | .one _ :: ps, start, off => coverP ps (start + 1) off
  | .rep _ _ n :: ps, start, off => coverP ps (start + n) off
/-- A place in a row or list, as its element. -/
def asE (x : SW) (mb : Option MB) : Option SW :=
  match x, mb with
  | .one (.cell (.ptr b off)), some m => match coverP m.ps 0 off with
    | some base => if Nat.ble base off then some (.one (.cell (.eptr b base 1 (.lit ((off - base : Nat) : Int)) 0))) else none
    | none => none
  | _, _ => none
theorem asE_den {x y : SW} {mb : Option MB} (h : asE x mb = some y) : (∀ ρ β, x.den ρ β = y.den ρ β) ∧ ∃ b off base idx, x = .one (.cell (.ptr b off)) ∧ y = .one (.cell (.eptr b base 1 idx 0)) := by
  unfold asE at h
  split at h
  · rename_i b off m
    split at h
    · rename_i base hb
      split at h
      · rename_i hle
        cases h
        have hle : base ≤ off := by simpa [Nat.ble_eq] using hle
        refine ⟨fun ρ β => ?_, b, off, base, _, rfl, rfl⟩
        have e : base + (off - base) * 1 + 0 = off := by omega
        show Value.pointer (some ⟨β b, off, none⟩) = .pointer (some ⟨β b, base + (Tm.i ρ (.lit ((off - base : Nat) : Int))).toNat * 1 + 0, none⟩)
        simp only [Tm.i, Tm.den, Int.toNat_natCast, e]
      · cases h
    · cases h
  · cases h
def loadR (P : Program) (cfg : Cfg) (t : TypeId) (x : SW) (mb : Option MB) (nv : Nat) : R OpRes :=
  match hLoad P t x mb nv with
  | .bad why => match asE x mb with
    | some y => hLoadE P cfg t y mb nv
    | none => .bad why
  | r => r
def storeR (P : Program) (t : TypeId) (x v : SW) (mb : Option MB) (nv : Nat) : R OpRes :=
  match hStore P t x v mb nv with
  | .bad why => match asE x mb with
    | some y => hStoreE P t y v mb nv
    | none => .bad why
  | r => r

/-- min and max of two or three ints. -/
def hMin (op : BinOp) (args : List SW) (nv : Nat) : R OpRes :=
  match args with
  | [.one (.cell (.int k a)), .one (.cell (.int _ b))] => okC (.int k (.ex op a b)) nv
  | [.one (.cell (.int k a)), .one (.cell (.int _ b)), .one (.cell (.int _ c))] => okC (.int k (.ex op (.ex op a b) c)) nv
  | _ => .bad "min"
def opCall (P : Program) (cfg : Cfg) (own : Nat) (c : Call) (args : List SW) (ids : List Nat) (mbs : List (Option MB)) (nv : Nat) : R OpRes :=
  match c.callee, args with
  | .builtin .len, [x] => match c.argTypes.toList with
    | t :: _ => hLen P t x nv
    | [] => .bad "len: type"
  | .builtin .min, xs => hMin .lss xs nv
  | .builtin .max, xs => hMin .gtr xs nv
  | .builtin .append, [s, x] => match c.argTypes.toList with
    | [t, t'] => match Nat.beq t t' with
      | true => hAppend P own t s x ids mbs nv
      | false => .bad "append: types"
    | _ => .bad "append: arguments"
  | .value _, .one (.cell (.func f caps)) :: rest => hCall P cfg own f caps rest ids mbs nv
  | _, _ => .bad "call: callee"

/-- A piece of a string. -/
def hSub (P : Program) (t : TypeId) (x : SW) (lo hi : Option SW) (nv : Nat) : R OpRes :=
  match P.underlying t, x with
  | some .string, .one (.cell (.str s)) => match lo, hi with
    | some (.one (.cell (.int _ a))), some (.one (.cell (.int _ b))) => .ok ⟨.one (.cell (.str (.sub s a b))), [], [], nv⟩ [.need (mkNo (mkLt a (.lit 0))), .need (mkNo (mkLt b a)), .need (mkNo (mkLt (mkLen s) b))]
    | some (.one (.cell (.int _ a))), none => .ok ⟨.one (.cell (.str (.sub s a (mkLen s)))), [], [], nv⟩ [.need (mkNo (mkLt a (.lit 0))), .need (mkNo (mkLt (mkLen s) a))]
    | none, some (.one (.cell (.int _ b))) => .ok ⟨.one (.cell (.str (.sub s (.lit 0) b))), [], [], nv⟩ [.need (mkNo (mkLt b (.lit 0))), .need (mkNo (mkLt (mkLen s) b))]
    | _, _ => .bad "slice: bounds"
  | _, _ => .bad "slice: type"
def opLoc (P : Program) (cfg : Cfg) (asm : Asm) (own nv : Nat) (op : Op) (args : List SW) (mbs : List (Option MB)) : R OpRes :=
  match op with
  | .move _ => match args with
    | [x] => okV x nv
    | _ => .bad "operands"
  | .assign _ => match args with
    | [x] => okV x nv
    | _ => .bad "operands"
  | .pick _ _ _ => match args with
    | [c, a, b] => hPick asm c a b nv
    | _ => .bad "operands"
  | .alloc t => hAlloc P own t nv
  | .box t _ => match args with
    | [x] => hBox own t x nv
    | _ => .bad "operands"
  | .build t parts => match zipParts parts.toList args with
    | some l => hBuild P t l nv
    | none => .bad "operands"
  | .buildSlice t len parts => match zipParts parts.toList args with
    | some l => hSliceLit P own t len l nv
    | none => .bad "operands"
  | .load t _ => match args, mbs with
    | [.one (.cell (.eptr b base e idx fo))], [mb] => hLoadE P cfg t (.one (.cell (.eptr b base e idx fo))) mb nv
    | [x], [mb] => loadR P cfg t x mb nv
    | _, _ => .bad "load"
  | .store t _ _ => match args, mbs with
    | [.one (.cell (.eptr b base e idx fo)), v], [mb] => hStoreE P t (.one (.cell (.eptr b base e idx fo))) v mb nv
    | [x, v], [mb] => storeR P t x v mb nv
    | _, _ => .bad "store"
  | .nilCheck _ => match args with
    | [x] => hNil x nv
    | _ => .bad "operands"
  | .binOp op t _ _ _ => match args with
    | [x, y] => hBin P cfg.nowrap asm op t x y nv
    | _ => .bad "operands"
  | .unOp op _ _ => match args with
    | [x] => hUn cfg.nowrap op x nv
    | _ => .bad "operands"
  | .convert s d _ => match args with
    | [x] => hConvR P cfg.nowrap own s d x (acc cfg op args) mbs nv
    | _ => .bad "operands"
  | .makeFunc fn first _ => hMakeFunc fn first.size args nv
  | .fieldAddr t _ f => match args with
    | [x] => hFieldAddr P t x f nv
    | _ => .bad "operands"
  | .field t _ f => match args with
    | [x] => hField P t x f nv
    | _ => .bad "operands"
  | .indexAddr t _ _ => match args with
    | [x, i] => hIndexAddr P t x i nv
    | _ => .bad "operands"
  | .index t _ _ => match args with
    | [x, i] => hIndex P cfg t x i nv
    | _ => .bad "operands"
  | .extract _ i => match args with
    | [x] => hExtract x i nv
    | _ => .bad "operands"
  | .slice t _ lo hi mx => match lo, hi, mx, args with
    | some _, some _, none, [x, a, b] => hSub P t x (some a) (some b) nv
    | some _, none, none, [x, a] => hSub P t x (some a) none nv
    | none, some _, none, [x, b] => hSub P t x none (some b) nv
    | _, _, _, _ => .bad "slice"
  | .call c => opCall P cfg own c args (acc cfg (.call c) args) mbs nv
  | _ => .bad "operation"

section
variable {P : Program} {ρ : Nat → Value} {β : Nat → Nat} {inh : List Nat} {w0 w : World} {mm : Nat → Option MB} {cfg : Cfg} {asm : Asm} {own nv : Nat} {res : OpRes} {evs : List Ev}

theorem zipParts_den {a : Act} : ∀ {ps : List (Nat × Operand)} {xs : List SW} {l : List (Nat × SW)}, zipParts ps xs = some l → ps.map (fun x => a.eval x.2) = xs.map (·.den ρ β) →
    (ps.map fun x => (x.1, a.eval x.2)) = l.map fun x => (x.1, x.2.den ρ β)
  | [], [], l, h, _ => by cases h; rfl
  | (i, x) :: ps, y :: ys, l, h, he => by
    simp only [zipParts] at h
    split at h
    · rename_i l' hl
      cases h
      simp only [List.map_cons, List.cons.injEq] at he
      simp only [List.map_cons, he.1, zipParts_den hl he.2]
    · cases h
  | [], _ :: _, _, h, _ => by cases h
  | _ :: _, [], _, h, _ => by cases h

theorem names_pure (P : Program) (hN : ∀ (f : Nat) (fn : Func), P.funcs[f]? = some fn → (fn.name == "runtime.NumGoroutine") = false) {f : FuncId} {fn : Func} (hf : P.funcs[f]? = some fn) (hb : fn.body.isSome = true) (args : Array Value) (w : World) :
    (callFunc f args).run P w = .ok (.enter f args) w := by
  have hp : ∀ w, (program : Sem Program).run P w = .ok P w := fun _ => rfl
  have h1 : fn.name ≠ "runtime.NumGoroutine" := by simpa using hN f fn hf
  have h2 : fn.body ≠ none := fun h => by rw [h] at hb; cases hb
  simp [callFunc, hp, hf, h1, h2]

theorem sliceLit_zero (n : Nat) (z : Value) : (Array.range n).map ((#[z] : Array Value)[· % (#[z] : Array Value).size]!) = Array.replicate n z := by
  apply Array.ext
  · simp
  · intro i h1 h2
    have : i % 1 = 0 := Nat.mod_one i
    simp [this]

theorem densP_replicate (ρ : Nat → Value) (β : Nat → Nat) (c : Cell) : ∀ n, densP ρ β (List.replicate n (.one c)) = List.replicate n (c.den ρ β)
  | 0 => rfl
  | n + 1 => by simp only [List.replicate_succ, densP, Piece.den, densP_replicate ρ β c n, List.singleton_append]

theorem idsP_mem_append {x y : List Piece} {i : Nat} : i ∈ idsP (x ++ y) ↔ i ∈ idsP x ∨ i ∈ idsP y := by
  induction x with
  | nil => simp [idsP]
  | cons p x ih => simp [idsP, ih, or_assoc]
theorem cut_ids {i : Nat} : ∀ {ps : List Piece} {n : Nat} {x y : List Piece}, cut ps n = some (x, y) → (i ∈ idsP ps ↔ i ∈ idsP x ∨ i ∈ idsP y)
  | ps, 0, x, y, h => by simp only [cut] at h; cases h; simp [idsP]
  | [], n + 1, x, y, h => by cases h
  | p :: ps, n + 1, x, y, h => by
    simp only [cut] at h
    split at h
    · cases h
    · split at h
      · split at h
        · cases h
        · rename_i x' y' hc
          cases h
          simp [idsP, cut_ids hc, or_assoc]
      · split at h
        · split at h
          · cases h; simp [idsP, Piece.ids]
          · cases h
        · cases h
theorem splice_ids [Outer] {i : Nat} {ps new z : List Piece} {off n : Nat} (h : splice ps off n new = some z) (hi : i ∈ idsP z) : i ∈ idsP ps ∨ i ∈ idsP new := by
  simp only [splice] at h
  split at h
  · cases h
  · rename_i x y hc
    split at h
    · cases h
    · rename_i u v hd
      cases h
      rw [idsP_mem_append, idsP_mem_append] at hi
      rw [cut_ids hc, cut_ids hd]
      rcases hi with (hi | hi) | hi
      · exact .inl (.inl hi)
      · exact .inr hi
      · exact .inl (.inr (.inr hi))
theorem fillP_ids [Outer] {i : Nat} {place : Nat → Option (Nat × Nat)} : ∀ {parts : List (Nat × SW)} {ps qs : List Piece}, fillP place ps parts = some qs → i ∈ idsP qs → i ∈ idsP ps ∨ ∃ x ∈ parts, i ∈ x.2.ids
  | [], ps, qs, h, hi => by cases h; exact .inl hi
  | (j, x) :: rest, ps, qs, h, hi => by
    simp only [fillP] at h
    split at h
    · rename_i v off size hp
      split at h
      · cases h
      · split at h
        · split at h
          · cases h
          · rename_i ps' hs
            rcases fillP_ids h hi with h' | ⟨x, hx, h'⟩
            · rcases splice_ids hs h' with h' | h'
              · exact .inl h'
              · exact .inr ⟨_, .head _, by rw [idsP_pcs] at h'; exact h'⟩
            · exact .inr ⟨x, .tail _ hx, h'⟩
        · cases h
    · cases h
theorem zipParts_mem : ∀ {ps : List (Nat × Operand)} {xs : List SW} {l : List (Nat × SW)}, zipParts ps xs = some l → ∀ x ∈ l, x.2 ∈ xs
  | [], [], l, h, x, hx => by cases h; cases hx
  | (i, _) :: ps, y :: ys, l, h, x, hx => by
    simp only [zipParts] at h
    split at h
    · rename_i l' hl
      cases h
      rcases List.mem_cons.1 hx with rfl | hx
      · exact .head _
      · exact .tail _ (zipParts_mem hl x hx)
    · cases h
  | [], _ :: _, _, h, _, _ => by cases h
  | _ :: _, [], _, h, _, _ => by cases h
theorem idsP_one (c : Cell) (n : Nat) (h : c.ids = []) : idsP (List.replicate n (.one c)) = [] := by
  induction n with
  | zero => rfl
  | succ n ih => simp only [List.replicate_succ, idsP, Piece.ids, h, ih, List.append_nil]
theorem Cell.ofValue_ids {v : Value} {c : Cell} (h : Cell.ofValue v = some c) : c.ids = [] := by
  cases v <;> simp only [Cell.ofValue, Option.some.injEq, reduceCtorEq] at h <;> subst h <;> rfl

theorem rep_get (l : List Value) (hl : 0 < l.length) : ∀ (len i : Nat), i < len * l.length → (List.replicate len l).flatten[i]? = l[i % l.length]?
  | 0, i, h => by simp at h
  | len + 1, i, h => by
    rw [List.replicate_succ, List.flatten_cons]
    by_cases hi : i < l.length
    · rw [List.getElem?_append_left hi, Nat.mod_eq_of_lt hi]
    · rw [Nat.succ_mul] at h
      have e : i % l.length = (i - l.length) % l.length := Nat.mod_eq_sub_mod (by omega)
      rw [List.getElem?_append_right (by omega), rep_get l hl len (i - l.length) (by omega), e]
theorem sliceLit_rep (cs : Array Value) (hc : 0 < cs.size) (len : Nat) : (Array.range (len * cs.size)).map (cs[· % cs.size]!) = (List.replicate len cs.toList).flatten.toArray := by
  apply Array.ext_getElem?
  intro i
  by_cases hi : i < len * cs.size
  · have h := rep_get cs.toList (by simpa using hc) len i (by simpa using hi)
    have hm : i % cs.size < cs.size := Nat.mod_lt _ hc
    have e2 : ((List.replicate len cs.toList).flatten.toArray)[i]? = cs.toList[i % cs.toList.length]? := by rw [List.getElem?_toArray]; exact h
    rw [e2]
    simp [hi, hm]
  · have hl : (List.replicate len cs.toList).flatten.toArray.size = len * cs.size := by simp
    rw [Array.getElem?_eq_none (by simp; omega), Array.getElem?_eq_none (by rw [hl]; omega)]
theorem densP_rep (ρ : Nat → Value) (β : Nat → Nat) (zs : List Piece) : ∀ n, densP ρ β (repP n zs) = (List.replicate n (densP ρ β zs)).flatten
  | 0 => rfl
  | n + 1 => by rw [repP, densP_append, densP_rep ρ β zs n, List.replicate_succ, List.flatten_cons]
theorem idsP_rep (zs : List Piece) (h : idsP zs = []) : ∀ n, idsP (repP n zs) = []
  | 0 => rfl
  | n + 1 => by
    have ih := idsP_rep zs h n
    rw [List.eq_nil_iff_forall_not_mem]
    intro i hi
    rw [repP] at hi
    rcases idsP_mem_append.1 hi with h1 | h1
    · rw [h] at h1; cases h1
    · rw [ih] at h1; cases h1
theorem hSliceLitN_run [Outer] {t e : TypeId} {ie : TypeInfo} {len : Nat} {parts : List (Nat × SW)} (hM : Mrel ρ β inh w0 mm w) (hF : FreshM mm [own]) (hown : ∀ x ∈ parts, own ∉ x.2.ids) (hu : P.underlying t = some (.slice e)) (hie : P.info? e = some ie)
    (h : hSliceLitN own e ie len parts nv = .ok res evs) (ps : Array (Nat × Value)) (hps : ps.toList = parts.map fun x => (x.1, x.2.den ρ β)) :
    ∃ w' β', (∀ i, i ∉ [own] → β' i = β i) ∧ (Instr.buildSlice t len ps).run P w = .ok (res.val.den ρ β') w' ∧ Mrel ρ β' inh w0 (setFs mm res.upd) w' ∧ res.news = [own] := by
  unfold hSliceLitN at h
  split at h
  · rename_i cs hz
    split at h
    · rename_i zs hzs hsz hle hpos
      split at h
      · rename_i qs hids hq
        cases h
        have hsz := Nat.eq_of_beq_eq_true hsz
        have hle : len * ie.size ≤ 16777216 := by simpa [Nat.ble_eq] using hle
        have hpos : 0 < len * ie.size := by simpa [Nat.blt_eq] using hpos
        have hden := fillP_den ρ β _ hq
        have hm : ∀ j ∈ idsP qs, j ≠ own := fun j hj e => by
          subst e
          rcases fillP_ids hq hj with h' | ⟨x, hx, h'⟩
          · rw [idsP_rep zs hids] at h'; cases h'
          · exact hown x hx h'
        have hqd : densP ρ (ext β own w.heap.size) qs = densP ρ β qs := densP_names fun i hi => ext_ne (hm i hi)
        have hsize : (sizeOf e).run P w = .ok ie.size w := by simp [sizeOf, typeInfo, hie]
        have hzero : (zeroValue e).run P w = .ok (.agg cs) w := by simp [zeroValue, typeInfo, hie, hz]
        have hc0 : 0 < cs.size := by
          rw [hsz]
          exact Nat.pos_of_ne_zero fun h0 => by rw [h0, Nat.mul_zero] at hpos; exact absurd hpos (Nat.lt_irrefl 0)
        have hfill : Instr.fill (fun i => some (i * ie.size, ie.size)) ((Array.range (len * ie.size)).map (cs[· % cs.size]!)) ps.toList = some (densP ρ β qs).toArray := by
          rw [hps, ← hden, densP_rep, cellsOf_den hzs, ← hsz, sliceLit_rep cs hc0]
        refine ⟨w.alloc (.cells (densP ρ β qs).toArray e), ext β own w.heap.size, fun i hi => ext_ne (by simpa using hi), ?_, by simpa [setFs] using hM.alloc hF ⟨e, qs, none⟩ _ ⟨[], (0, 0), by rw [hqd]; simp, rfl, rfl⟩, rfl⟩
        simp only [Instr.buildSlice, Sem.run_bind, run_underlying hu, Result.andThen_ok, hsize]
        rw [if_neg (by omega), if_neg (by omega)]
        simp only [Sem.run_bind, hzero, Result.andThen_ok, Sem.run_pure]
        rw [show (Value.agg cs).cells = cs from rfl, hfill]
        simp [newRow, SW.den, SV.den, Cell.den, ext_self]
      · cases h
    · cases h
  · cases h
theorem hSliceLit_run [Outer] {t : TypeId} {len : Nat} {parts : List (Nat × SW)} (hM : Mrel ρ β inh w0 mm w) (hF : FreshM mm [own]) (hown : ∀ x ∈ parts, own ∉ x.2.ids)
    (h : hSliceLit P own t len parts nv = .ok res evs) (ps : Array (Nat × Value)) (hps : ps.toList = parts.map fun x => (x.1, x.2.den ρ β)) :
    ∃ w' β', (∀ i, i ∉ [own] → β' i = β i) ∧ (Instr.buildSlice t len ps).run P w = .ok (res.val.den ρ β') w' ∧ Mrel ρ β' inh w0 (setFs mm res.upd) w' ∧ res.news = [own] := by
  unfold hSliceLit at h
  split at h
  · rename_i e hu
    split at h
    · rename_i ie hie
      split at h
      · rename_i z hsz hz hle
        split at h
        · rename_i c hc
          split at h
          · rename_i qs hq
            cases h
            have hsz := Nat.eq_of_beq_eq_true hsz
            have hle : len ≤ 16777216 := by simpa [Nat.ble_eq] using hle
            have hden := fillP_den ρ β _ hq
            have hm : ∀ j ∈ idsP qs, j ≠ own := fun j hj e => by
              subst e
              rcases fillP_ids hq hj with h' | ⟨x, hx, h'⟩
              · rw [idsP_one c len (Cell.ofValue_ids hc)] at h'; cases h'
              · exact hown x hx h'
            have hqd : densP ρ (ext β own w.heap.size) qs = densP ρ β qs := densP_names fun i hi => ext_ne (hm i hi)
            have hcd : c.den ρ β = z := Cell.ofValue_den hc ρ β
            have hzc : z.cells = #[z] := by
              have := Cell.den_one c ρ β
              rw [hcd] at this
              cases z <;> first | rfl | cases this
            refine ⟨w.alloc (.cells (densP ρ β qs).toArray e), ext β own w.heap.size, fun i hi => ext_ne (by simpa using hi), ?_, by simpa [setFs] using hM.alloc hF ⟨e, qs, none⟩ _ ⟨[], (0, 0), by rw [hqd]; simp, rfl, rfl⟩, rfl⟩
            have hsize : (sizeOf e).run P w = .ok 1 w := by simp [sizeOf, typeInfo, hie, hsz]
            have hzero : (zeroValue e).run P w = .ok z w := by simp [zeroValue, typeInfo, hie, hz]
            have hfill : Instr.fill (fun i => some (i, 1)) (Array.replicate len z) ps.toList = some (densP ρ β qs).toArray := by
              simp only [Nat.mul_one] at hden
              rw [hps, ← hden, densP_replicate, hcd]; simp
            simp only [Instr.buildSlice, Sem.run_bind, run_underlying hu, Result.andThen_ok, hsize, Nat.mul_one]
            rw [if_neg (by omega)]
            by_cases h0 : len = 0
            · subst h0
              rw [if_pos rfl]
              simp only [Sem.run_bind, Sem.run_pure, Result.andThen_ok]
              have : (Array.range 0).map ((#[] : Array Value)[· % (#[] : Array Value).size]!) = Array.replicate 0 z := by simp
              rw [this, hfill]
              simp [newRow, SW.den, SV.den, Cell.den, ext_self]
            · rw [if_neg h0]
              simp only [Sem.run_bind, hzero, Result.andThen_ok, Sem.run_pure, hzc]
              rw [sliceLit_zero, hfill]
              simp [newRow, SW.den, SV.den, Cell.den, ext_self]
          · cases h
        · cases h
      · exact hSliceLitN_run hM hF hown hu hie h ps hps
    · cases h
  · cases h
end
end Go.Proofs.YteemnnajfiimlaaDoor.Sx
