/- Merged: SxH, SxI, SxJ, SxK, SxL, SxM, SxN, SxO. -/
import Derived.Test.YtlccefdjhiedcaaBtc
import Derived.Laws.Small
import Derived.Laws.Cover1
import Derived.Laws.Slices
import Derived.Laws.DeepStrings4
section
namespace Go.Proofs.Ytlccefdjhiedcaa.Sx
open Go.RowKit

def repP : Nat → List Piece → List Piece
  | 0, _ => []
  | n + 1, zs => zs ++ repP n zs
def hSliceLitN (own : Nat) (e : TypeId) (ie : TypeInfo) (len : Nat) (parts : List (Nat × SW)) (nv : Nat) : R OpRes :=
  match ie.zero with
  | some (.agg cs) => match cellsOf cs.toList, Nat.beq cs.size ie.size, Nat.ble (len * ie.size) 16777216, Nat.blt 0 (len * ie.size) with
    | some zs, true, true, true => match idsP zs, fillP (fun i => some (i * ie.size, ie.size)) (repP len zs) parts with
      | [], some ps => .ok ⟨.one (.cell (.slice own 0 len len)), [(own, some ⟨e, ps, none⟩)], [own], nv⟩ []
      | _, _ => .bad "slice literal: fill"
    | _, _, _, _ => .bad "slice literal: size"
  | _ => .bad "slice literal: zero"
def hSliceLit (P : Program) (own : Nat) (t : TypeId) (len : Nat) (parts : List (Nat × SW)) (nv : Nat) : R OpRes :=
  match P.underlying t with
  | some (.slice e) => match P.info? e with
    | some ie => match Nat.beq ie.size 1, ie.zero, Nat.ble len 16777216 with
      | true, some z, true => match Cell.ofValue z with
        | some c => match fillP (fun i => some (i * 1, 1)) (List.replicate len (.one c)) parts with
          | some ps => .ok ⟨.one (.cell (.slice own 0 len len)), [(own, some ⟨e, ps, none⟩)], [own], nv⟩ []
          | none => .bad "slice literal: fill"
        | none => .bad "slice literal: zero"
      | _, _, _ => hSliceLitN own e ie len parts nv
    | none => .bad "slice literal: info"
  | _ => .bad "slice literal: type"

def ptrId : SW → List Nat
  | .one (.cell (.ptr b _)) => [b]
  | .one (.cell (.eptr b _ _ _ _)) => [b]
  | _ => []
def Cell.blks : Cell → List Nat
  | .ptr b _ => [b]
  | .slice b _ _ _ => [b]
  | .eptr b _ _ _ _ => [b]
  | .sl b _ _ => [b]
  | .win b _ _ _ _ _ => [b]
  | .awin b _ _ _ _ _ => [b]
  | .func _ caps => caps.map (·.1)
  | _ => []
def blksP : List Piece → List Nat
  | [] => []
  | .one c :: ps => c.blks ++ blksP ps
  | _ :: ps => blksP ps
def svsIds : List SW → List Nat
  | [] => []
  | .one (.cell c) :: vs => c.blks ++ svsIds vs
  | .one (.agg ps) :: vs => blksP ps ++ svsIds vs
  | _ :: vs => svsIds vs
def sliceId : SW → List Nat
  | .one (.cell (.sl b _ _)) => [b]
  | .one (.cell (.slice b _ _ _)) => [b]
  | .one (.cell (.win b _ _ _ _ _)) => [b]
  | .one (.cell (.awin b _ _ _ _ _)) => [b]
  | _ => []
def acc (cfg : Cfg) (op : Op) (args : List SW) : List Nat :=
  match op, args with
  | .load _ _, x :: _ => ptrId x
  | .store _ _ _, x :: _ => ptrId x
  | .call _, .one (.cell (.func f caps)) :: rest => match lookEff f cfg.eff with
    | some _ => dedup (svsIds rest ++ caps.map (·.1) ++ cfg.ro)
    | none => []
  | .convert _ _ _, [x] => sliceId x
  | .slice _ _ _ _ _, x :: _ => sliceId x
  | .call c, [s, x] => match c.callee with
    | .builtin .append => dedup (sliceId s ++ sliceId x)
    | _ => []
  | _, _ => []

def zipParts : List (Nat × Operand) → List SW → Option (List (Nat × SW))
  | [], [] => some []
  | (i, _) :: ps, x :: xs => match zipParts ps xs with
    | some l => some ((i, x) :: l)
    | none => none
  | _, _ => none

def coverP : List Piece → Nat → Nat → Option Nat
  | [], _, _ => none
  | .row _ n :: ps, start, off => if Nat.blt off (start + n) then (if Nat.ble start off then some start else none) else coverP ps (start + n) off
  | .all _ :: _, start, off => if Nat.ble start off then some start else none
  | .bytes _ :: _, start, off => if Nat.ble start off then some start else none
  | .one _ :: ps, start, off => coverP ps (start + 1) off
  | .rep _ _ n :: ps, start, off => coverP ps (start + n) off
def asE (x : SW) (mb : Option MB) : Option SW :=
  match x, mb with
  | .one (.cell (.ptr b off)), some m => match coverP m.ps 0 off with
    | some base => if Nat.ble base off then some (.one (.cell (.eptr b base 1 (.lit ((off - base : Nat) : Int)) 0))) else none
    | none => none
  | _, _ => none
theorem asE_den {x y : SW} {mb : Option MB} (h : asE x mb = some y) : (∀ ρ β, x.den ρ β = y.den ρ β) ∧ ∃ b off base idx, x = .one (.cell (.ptr b off)) ∧ y = .one (.cell (.eptr b base 1 idx 0)) := by
  unfold asE at h
  split at h
  · rename_i b off m
    split at h
    · rename_i base hb
      split at h
      · rename_i hle
        cases h
        have hle : base ≤ off := by simpa [Nat.ble_eq] using hle
        refine ⟨fun ρ β => ?_, b, off, base, _, rfl, rfl⟩
        have e : base + (off - base) * 1 + 0 = off := by omega
        show Value.pointer (some ⟨β b, off, none⟩) = .pointer (some ⟨β b, base + (Tm.i ρ (.lit ((off - base : Nat) : Int))).toNat * 1 + 0, none⟩)
        simp only [Tm.i, Tm.den, Int.toNat_natCast, e]
      · cases h
    · cases h
  · cases h
def loadR (P : Program) (cfg : Cfg) (t : TypeId) (x : SW) (mb : Option MB) (nv : Nat) : R OpRes :=
  match hLoad P t x mb nv with
  | .bad why => match asE x mb with
    | some y => hLoadE P cfg t y mb nv
    | none => .bad why
  | r => r
def storeR (P : Program) (t : TypeId) (x v : SW) (mb : Option MB) (nv : Nat) : R OpRes :=
  match hStore P t x v mb nv with
  | .bad why => match asE x mb with
    | some y => hStoreE P t y v mb nv
    | none => .bad why
  | r => r

def hMin (op : BinOp) (args : List SW) (nv : Nat) : R OpRes :=
  match args with
  | [.one (.cell (.int k a)), .one (.cell (.int _ b))] => okC (.int k (.ex op a b)) nv
  | [.one (.cell (.int k a)), .one (.cell (.int _ b)), .one (.cell (.int _ c))] => okC (.int k (.ex op (.ex op a b) c)) nv
  | _ => .bad "min"
def opCall (P : Program) (cfg : Cfg) (own : Nat) (c : Call) (args : List SW) (ids : List Nat) (mbs : List (Option MB)) (nv : Nat) : R OpRes :=
  match c.callee, args with
  | .builtin .len, [x] => match c.argTypes.toList with
    | t :: _ => hLen P t x nv
    | [] => .bad "len: type"
  | .builtin .min, xs => hMin .lss xs nv
  | .builtin .max, xs => hMin .gtr xs nv
  | .builtin .append, [s, x] => match c.argTypes.toList with
    | [t, t'] => match Nat.beq t t' with
      | true => hAppend P own t s x ids mbs nv
      | false => .bad "append: types"
    | _ => .bad "append: arguments"
  | .value _, .one (.cell (.func f caps)) :: rest => hCall P cfg own f caps rest ids mbs nv
  | _, _ => .bad "call: callee"

def hSub (P : Program) (t : TypeId) (x : SW) (lo hi : Option SW) (nv : Nat) : R OpRes :=
  match P.underlying t, x with
  | some .string, .one (.cell (.str s)) => match lo, hi with
    | some (.one (.cell (.int _ a))), some (.one (.cell (.int _ b))) => .ok ⟨.one (.cell (.str (.sub s a b))), [], [], nv⟩ [.need (mkNo (mkLt a (.lit 0))), .need (mkNo (mkLt b a)), .need (mkNo (mkLt (mkLen s) b))]
    | some (.one (.cell (.int _ a))), none => .ok ⟨.one (.cell (.str (.sub s a (mkLen s)))), [], [], nv⟩ [.need (mkNo (mkLt a (.lit 0))), .need (mkNo (mkLt (mkLen s) a))]
    | none, some (.one (.cell (.int _ b))) => .ok ⟨.one (.cell (.str (.sub s (.lit 0) b))), [], [], nv⟩ [.need (mkNo (mkLt b (.lit 0))), .need (mkNo (mkLt (mkLen s) b))]
    | _, _ => .bad "slice: bounds"
  | _, _ => .bad "slice: type"
def hCut (P : Program) (t : TypeId) (x : SW) (lo hi : Option SW) (ids : List Nat) (mbs : List (Option MB)) (nv : Nat) : R OpRes :=
  match P.underlying t with
  | some .string => hSub P t x lo hi nv
  | _ => hWin P t x lo hi ids mbs nv
def opLoc (P : Program) (cfg : Cfg) (asm : Asm) (own nv : Nat) (op : Op) (args : List SW) (mbs : List (Option MB)) : R OpRes :=
  match op with
  | .move _ => match args with
    | [x] => okV x nv
    | _ => .bad "operands"
  | .assign _ => match args with
    | [x] => okV x nv
    | _ => .bad "operands"
  | .pick _ _ _ => match args with
    | [c, a, b] => hPick asm c a b nv
    | _ => .bad "operands"
  | .alloc t => hAlloc P own t nv
  | .box t _ => match args with
    | [x] => hBox own t x nv
    | _ => .bad "operands"
  | .build t parts => match zipParts parts.toList args with
    | some l => hBuild P t l nv
    | none => .bad "operands"
  | .buildSlice t len parts => match zipParts parts.toList args with
    | some l => hSliceLit P own t len l nv
    | none => .bad "operands"
  | .load t _ => match args, mbs with
    | [.one (.cell (.eptr b base e idx fo))], [mb] => hLoadE P cfg t (.one (.cell (.eptr b base e idx fo))) mb nv
    | [x], [mb] => loadR P cfg t x mb nv
    | _, _ => .bad "load"
  | .store t _ _ => match args, mbs with
    | [.one (.cell (.eptr b base e idx fo)), v], [mb] => hStoreE P t (.one (.cell (.eptr b base e idx fo))) v mb nv
    | [x, v], [mb] => storeR P t x v mb nv
    | _, _ => .bad "store"
  | .nilCheck _ => match args with
    | [x] => hNil x nv
    | _ => .bad "operands"
  | .binOp op t _ _ _ => match args with
    | [x, y] => hBin P cfg.nowrap asm op t x y nv
    | _ => .bad "operands"
  | .unOp op _ _ => match args with
    | [x] => hUn cfg.nowrap op x nv
    | _ => .bad "operands"
  | .convert s d _ => match args with
    | [x] => hConvR P cfg.nowrap own s d x (acc cfg op args) mbs nv
    | _ => .bad "operands"
  | .makeFunc fn first _ => hMakeFunc fn first.size args nv
  | .fieldAddr t _ f => match args with
    | [x] => hFieldAddr P t x f nv
    | _ => .bad "operands"
  | .field t _ f => match args with
    | [x] => hField P t x f nv
    | _ => .bad "operands"
  | .indexAddr t _ _ => match args with
    | [x, i] => hIndexAddr P t x i nv
    | _ => .bad "operands"
  | .index t _ _ => match args with
    | [x, i] => hIndex P cfg t x i nv
    | _ => .bad "operands"
  | .extract _ i => match args with
    | [x] => hExtract x i nv
    | _ => .bad "operands"
  | .slice t _ lo hi mx => match lo, hi, mx, args with
    | some _, some _, none, [x, a, b] => hCut P t x (some a) (some b) (acc cfg op args) mbs nv
    | some _, none, none, [x, a] => hCut P t x (some a) none (acc cfg op args) mbs nv
    | none, some _, none, [x, b] => hCut P t x none (some b) (acc cfg op args) mbs nv
    | none, none, none, [x] => hCut P t x none none (acc cfg op args) mbs nv
    | _, _, _, _ => .bad "slice"
  | .call c => opCall P cfg own c args (acc cfg (.call c) args) mbs nv
  | _ => .bad "operation"

section
variable {P : Program} {ρ : Nat → Value} {β : Nat → Nat} {inh : List Nat} {w0 w : World} {mm : Nat → Option MB} {cfg : Cfg} {asm : Asm} {own nv : Nat} {res : OpRes} {evs : List Ev}

theorem zipParts_den {a : Act} : ∀ {ps : List (Nat × Operand)} {xs : List SW} {l : List (Nat × SW)}, zipParts ps xs = some l → ps.map (fun x => a.eval x.2) = xs.map (·.den ρ β) →
    (ps.map fun x => (x.1, a.eval x.2)) = l.map fun x => (x.1, x.2.den ρ β)
  | [], [], l, h, _ => by cases h; rfl
  | (i, x) :: ps, y :: ys, l, h, he => by
    simp only [zipParts] at h
    split at h
    · rename_i l' hl
      cases h
      simp only [List.map_cons, List.cons.injEq] at he
      simp only [List.map_cons, he.1, zipParts_den hl he.2]
    · cases h
  | [], _ :: _, _, h, _ => by cases h
  | _ :: _, [], _, h, _ => by cases h

theorem names_pure (P : Program) (hN : ∀ (f : Nat) (fn : Func), P.funcs[f]? = some fn → (fn.name == "runtime.NumGoroutine") = false) {f : FuncId} {fn : Func} (hf : P.funcs[f]? = some fn) (hb : fn.body.isSome = true) (args : Array Value) (w : World) :
    (callFunc f args).run P w = .ok (.enter f args) w := by
  have hp : ∀ w, (program : Sem Program).run P w = .ok P w := fun _ => rfl
  have h1 : fn.name ≠ "runtime.NumGoroutine" := by simpa using hN f fn hf
  have h2 : fn.body ≠ none := fun h => by rw [h] at hb; cases hb
  simp [callFunc, hp, hf, h1, h2]

theorem sliceLit_zero (n : Nat) (z : Value) : (Array.range n).map ((#[z] : Array Value)[· % (#[z] : Array Value).size]!) = Array.replicate n z := by
  apply Array.ext
  · simp
  · intro i h1 h2
    have : i % 1 = 0 := Nat.mod_one i
    simp [this]

theorem densP_replicate (ρ : Nat → Value) (β : Nat → Nat) (c : Cell) : ∀ n, densP ρ β (List.replicate n (.one c)) = List.replicate n (c.den ρ β)
  | 0 => rfl
  | n + 1 => by simp only [List.replicate_succ, densP, Piece.den, densP_replicate ρ β c n, List.singleton_append]

theorem idsP_mem_append {x y : List Piece} {i : Nat} : i ∈ idsP (x ++ y) ↔ i ∈ idsP x ∨ i ∈ idsP y := by
  induction x with
  | nil => simp [idsP]
  | cons p x ih => simp [idsP, ih, or_assoc]
theorem cut_ids {i : Nat} : ∀ {ps : List Piece} {n : Nat} {x y : List Piece}, cut ps n = some (x, y) → (i ∈ idsP ps ↔ i ∈ idsP x ∨ i ∈ idsP y)
  | ps, 0, x, y, h => by simp only [cut] at h; cases h; simp [idsP]
  | [], n + 1, x, y, h => by cases h
  | p :: ps, n + 1, x, y, h => by
    simp only [cut] at h
    split at h
    · cases h
    · split at h
      · split at h
        · cases h
        · rename_i x' y' hc
          cases h
          simp [idsP, cut_ids hc, or_assoc]
      · split at h
        · split at h
          · cases h; simp [idsP, Piece.ids]
          · cases h
        · cases h
theorem splice_ids [Outer] {i : Nat} {ps new z : List Piece} {off n : Nat} (h : splice ps off n new = some z) (hi : i ∈ idsP z) : i ∈ idsP ps ∨ i ∈ idsP new := by
  simp only [splice] at h
  split at h
  · cases h
  · rename_i x y hc
    split at h
    · cases h
    · rename_i u v hd
      cases h
      rw [idsP_mem_append, idsP_mem_append] at hi
      rw [cut_ids hc, cut_ids hd]
      rcases hi with (hi | hi) | hi
      · exact .inl (.inl hi)
      · exact .inr hi
      · exact .inl (.inr (.inr hi))
theorem fillP_ids [Outer] {i : Nat} {place : Nat → Option (Nat × Nat)} : ∀ {parts : List (Nat × SW)} {ps qs : List Piece}, fillP place ps parts = some qs → i ∈ idsP qs → i ∈ idsP ps ∨ ∃ x ∈ parts, i ∈ x.2.ids
  | [], ps, qs, h, hi => by cases h; exact .inl hi
  | (j, x) :: rest, ps, qs, h, hi => by
    simp only [fillP] at h
    split at h
    · rename_i v off size hp
      split at h
      · cases h
      · split at h
        · split at h
          · cases h
          · rename_i ps' hs
            rcases fillP_ids h hi with h' | ⟨x, hx, h'⟩
            · rcases splice_ids hs h' with h' | h'
              · exact .inl h'
              · exact .inr ⟨_, .head _, by rw [idsP_pcs] at h'; exact h'⟩
            · exact .inr ⟨x, .tail _ hx, h'⟩
        · cases h
    · cases h
theorem zipParts_mem : ∀ {ps : List (Nat × Operand)} {xs : List SW} {l : List (Nat × SW)}, zipParts ps xs = some l → ∀ x ∈ l, x.2 ∈ xs
  | [], [], l, h, x, hx => by cases h; cases hx
  | (i, _) :: ps, y :: ys, l, h, x, hx => by
    simp only [zipParts] at h
    split at h
    · rename_i l' hl
      cases h
      rcases List.mem_cons.1 hx with rfl | hx
      · exact .head _
      · exact .tail _ (zipParts_mem hl x hx)
    · cases h
  | [], _ :: _, _, h, _, _ => by cases h
  | _ :: _, [], _, h, _, _ => by cases h
theorem idsP_one (c : Cell) (n : Nat) (h : c.ids = []) : idsP (List.replicate n (.one c)) = [] := by
  induction n with
  | zero => rfl
  | succ n ih => simp only [List.replicate_succ, idsP, Piece.ids, h, ih, List.append_nil]
theorem Cell.ofValue_ids {v : Value} {c : Cell} (h : Cell.ofValue v = some c) : c.ids = [] := by
  cases v <;> simp only [Cell.ofValue, Option.some.injEq, reduceCtorEq] at h <;> subst h <;> rfl

theorem rep_get (l : List Value) (hl : 0 < l.length) : ∀ (len i : Nat), i < len * l.length → (List.replicate len l).flatten[i]? = l[i % l.length]?
  | 0, i, h => by simp at h
  | len + 1, i, h => by
    rw [List.replicate_succ, List.flatten_cons]
    by_cases hi : i < l.length
    · rw [List.getElem?_append_left hi, Nat.mod_eq_of_lt hi]
    · rw [Nat.succ_mul] at h
      have e : i % l.length = (i - l.length) % l.length := Nat.mod_eq_sub_mod (by omega)
      rw [List.getElem?_append_right (by omega), rep_get l hl len (i - l.length) (by omega), e]
theorem sliceLit_rep (cs : Array Value) (hc : 0 < cs.size) (len : Nat) : (Array.range (len * cs.size)).map (cs[· % cs.size]!) = (List.replicate len cs.toList).flatten.toArray := by
  apply Array.ext_getElem?
  intro i
  by_cases hi : i < len * cs.size
  · have h := rep_get cs.toList (by simpa using hc) len i (by simpa using hi)
    have hm : i % cs.size < cs.size := Nat.mod_lt _ hc
    have e2 : ((List.replicate len cs.toList).flatten.toArray)[i]? = cs.toList[i % cs.toList.length]? := by rw [List.getElem?_toArray]; exact h
    rw [e2]
    simp [hi, hm]
  · have hl : (List.replicate len cs.toList).flatten.toArray.size = len * cs.size := by simp
    rw [Array.getElem?_eq_none (by simp; omega), Array.getElem?_eq_none (by rw [hl]; omega)]
theorem densP_rep (ρ : Nat → Value) (β : Nat → Nat) (zs : List Piece) : ∀ n, densP ρ β (repP n zs) = (List.replicate n (densP ρ β zs)).flatten
  | 0 => rfl
  | n + 1 => by rw [repP, densP_append, densP_rep ρ β zs n, List.replicate_succ, List.flatten_cons]
theorem idsP_rep (zs : List Piece) (h : idsP zs = []) : ∀ n, idsP (repP n zs) = []
  | 0 => rfl
  | n + 1 => by
    have ih := idsP_rep zs h n
    rw [List.eq_nil_iff_forall_not_mem]
    intro i hi
    rw [repP] at hi
    rcases idsP_mem_append.1 hi with h1 | h1
    · rw [h] at h1; cases h1
    · rw [ih] at h1; cases h1
theorem hSliceLitN_run [Outer] {t e : TypeId} {ie : TypeInfo} {len : Nat} {parts : List (Nat × SW)} (hM : Mrel ρ β inh w0 mm w) (hF : FreshM mm [own]) (hown : ∀ x ∈ parts, own ∉ x.2.ids) (hu : P.underlying t = some (.slice e)) (hie : P.info? e = some ie)
    (h : hSliceLitN own e ie len parts nv = .ok res evs) (ps : Array (Nat × Value)) (hps : ps.toList = parts.map fun x => (x.1, x.2.den ρ β)) :
    ∃ w' β', (∀ i, i ∉ [own] → β' i = β i) ∧ (Instr.buildSlice t len ps).run P w = .ok (res.val.den ρ β') w' ∧ Mrel ρ β' inh w0 (setFs mm res.upd) w' ∧ res.news = [own] := by
  unfold hSliceLitN at h
  split at h
  · rename_i cs hz
    split at h
    · rename_i zs hzs hsz hle hpos
      split at h
      · rename_i qs hids hq
        cases h
        have hsz := Nat.eq_of_beq_eq_true hsz
        have hle : len * ie.size ≤ 16777216 := by simpa [Nat.ble_eq] using hle
        have hpos : 0 < len * ie.size := by simpa [Nat.blt_eq] using hpos
        have hden := fillP_den ρ β _ hq
        have hm : ∀ j ∈ idsP qs, j ≠ own := fun j hj e => by
          subst e
          rcases fillP_ids hq hj with h' | ⟨x, hx, h'⟩
          · rw [idsP_rep zs hids] at h'; cases h'
          · exact hown x hx h'
        have hqd : densP ρ (ext β own w.heap.size) qs = densP ρ β qs := densP_names fun i hi => ext_ne (hm i hi)
        have hsize : (sizeOf e).run P w = .ok ie.size w := by simp [sizeOf, typeInfo, hie]
        have hzero : (zeroValue e).run P w = .ok (.agg cs) w := by simp [zeroValue, typeInfo, hie, hz]
        have hc0 : 0 < cs.size := by
          rw [hsz]
          exact Nat.pos_of_ne_zero fun h0 => by rw [h0, Nat.mul_zero] at hpos; exact absurd hpos (Nat.lt_irrefl 0)
        have hfill : Instr.fill (fun i => some (i * ie.size, ie.size)) ((Array.range (len * ie.size)).map (cs[· % cs.size]!)) ps.toList = some (densP ρ β qs).toArray := by
          rw [hps, ← hden, densP_rep, cellsOf_den hzs, ← hsz, sliceLit_rep cs hc0]
        refine ⟨w.alloc (.cells (densP ρ β qs).toArray e), ext β own w.heap.size, fun i hi => ext_ne (by simpa using hi), ?_, by simpa [setFs] using hM.alloc hF ⟨e, qs, none⟩ _ ⟨[], (0, 0), by rw [hqd]; simp, rfl, rfl⟩, rfl⟩
        simp only [Instr.buildSlice, Sem.run_bind, run_underlying hu, Result.andThen_ok, hsize]
        rw [if_neg (by omega), if_neg (by omega)]
        simp only [Sem.run_bind, hzero, Result.andThen_ok, Sem.run_pure]
        rw [show (Value.agg cs).cells = cs from rfl, hfill]
        simp [newRow, SW.den, SV.den, Cell.den, ext_self]
      · cases h
    · cases h
  · cases h
theorem hSliceLit_run [Outer] {t : TypeId} {len : Nat} {parts : List (Nat × SW)} (hM : Mrel ρ β inh w0 mm w) (hF : FreshM mm [own]) (hown : ∀ x ∈ parts, own ∉ x.2.ids)
    (h : hSliceLit P own t len parts nv = .ok res evs) (ps : Array (Nat × Value)) (hps : ps.toList = parts.map fun x => (x.1, x.2.den ρ β)) :
    ∃ w' β', (∀ i, i ∉ [own] → β' i = β i) ∧ (Instr.buildSlice t len ps).run P w = .ok (res.val.den ρ β') w' ∧ Mrel ρ β' inh w0 (setFs mm res.upd) w' ∧ res.news = [own] := by
  unfold hSliceLit at h
  split at h
  · rename_i e hu
    split at h
    · rename_i ie hie
      split at h
      · rename_i z hsz hz hle
        split at h
        · rename_i c hc
          split at h
          · rename_i qs hq
            cases h
            have hsz := Nat.eq_of_beq_eq_true hsz
            have hle : len ≤ 16777216 := by simpa [Nat.ble_eq] using hle
            have hden := fillP_den ρ β _ hq
            have hm : ∀ j ∈ idsP qs, j ≠ own := fun j hj e => by
              subst e
              rcases fillP_ids hq hj with h' | ⟨x, hx, h'⟩
              · rw [idsP_one c len (Cell.ofValue_ids hc)] at h'; cases h'
              · exact hown x hx h'
            have hqd : densP ρ (ext β own w.heap.size) qs = densP ρ β qs := densP_names fun i hi => ext_ne (hm i hi)
            have hcd : c.den ρ β = z := Cell.ofValue_den hc ρ β
            have hzc : z.cells = #[z] := by
              have := Cell.den_one c ρ β
              rw [hcd] at this
              cases z <;> first | rfl | cases this
            refine ⟨w.alloc (.cells (densP ρ β qs).toArray e), ext β own w.heap.size, fun i hi => ext_ne (by simpa using hi), ?_, by simpa [setFs] using hM.alloc hF ⟨e, qs, none⟩ _ ⟨[], (0, 0), by rw [hqd]; simp, rfl, rfl⟩, rfl⟩
            have hsize : (sizeOf e).run P w = .ok 1 w := by simp [sizeOf, typeInfo, hie, hsz]
            have hzero : (zeroValue e).run P w = .ok z w := by simp [zeroValue, typeInfo, hie, hz]
            have hfill : Instr.fill (fun i => some (i, 1)) (Array.replicate len z) ps.toList = some (densP ρ β qs).toArray := by
              simp only [Nat.mul_one] at hden
              rw [hps, ← hden, densP_replicate, hcd]; simp
            simp only [Instr.buildSlice, Sem.run_bind, run_underlying hu, Result.andThen_ok, hsize, Nat.mul_one]
            rw [if_neg (by omega)]
            by_cases h0 : len = 0
            · subst h0
              rw [if_pos rfl]
              simp only [Sem.run_bind, Sem.run_pure, Result.andThen_ok]
              have : (Array.range 0).map ((#[] : Array Value)[· % (#[] : Array Value).size]!) = Array.replicate 0 z := by simp
              rw [this, hfill]
              simp [newRow, SW.den, SV.den, Cell.den, ext_self]
            · rw [if_neg h0]
              simp only [Sem.run_bind, hzero, Result.andThen_ok, Sem.run_pure, hzc]
              rw [sliceLit_zero, hfill]
              simp [newRow, SW.den, SV.den, Cell.den, ext_self]
          · cases h
        · cases h
      · exact hSliceLitN_run hM hF hown hu hie h ps hps
    · cases h
  · cases h
end
end Go.Proofs.Ytlccefdjhiedcaa.Sx
end
section
namespace Go.Proofs.Ytlccefdjhiedcaa.Sx
open Go.RowKit

section
variable {P : Program} {ρ : Nat → Value} {β : Nat → Nat} {inh : List Nat} {w0 w : World} {mm : Nat → Option MB} {cfg : Cfg} {asm : Asm} {own nv : Nat} {res : OpRes} {evs : List Ev}

def Yield [Outer] (P : Program) (ρ : Nat → Value) (β : Nat → Nat) (inh : List Nat) (w0 : World) (mm : Nat → Option MB) (res : OpRes) (o : Oper) (a : Act) (w : World) : Prop :=
  ∀ (next : Act → World → Prop) (Q : Exit → Act → World → Prop), (∀ v w' β', (∀ i, i ∉ res.news → β' i = β i) → v = res.val.den ρ β' → Mrel ρ β' inh w0 (setFs mm res.upd) w' → next (a.put o.dst v) w') → o.wp P a w next Q

theorem yield_value [Outer] {o : Oper} {a : Act} (hM : Mrel ρ β inh w0 mm w) (hrun : (execOp a.eval o).run P w = .ok (.value (res.val.den ρ β)) w) (hu : res.upd = []) : Yield P ρ β inh w0 mm res o a w := by
  intro next Q h
  unfold Oper.wp
  rw [hrun, Oper.upon_value]
  exact h _ _ β (fun _ _ => rfl) rfl (by rw [hu]; exact hM)

theorem hSliceLit_news {t : TypeId} {len : Nat} {parts : List (Nat × SW)} (h : hSliceLit P own t len parts nv = .ok res evs) : res.news = [own] := by
  unfold hSliceLit at h
  split at h
  · split at h
    · split at h
      · split at h
        · split at h
          · cases h; rfl
          · cases h
        · cases h
      · unfold hSliceLitN at h
        (repeat' split at h) <;> first | (cases h; rfl) | cases h
    · cases h
  · cases h

theorem opLoc_news [Outer] {op : Op} {args : List SW} {mbs : List (Option MB)} (h : opLoc P cfg asm own nv op args mbs = .ok res evs) : ∀ i ∈ res.news, own ≤ i ∧ i < own + res.news.length := by
  have no : res.news = [] → ∀ i ∈ res.news, own ≤ i ∧ i < own + res.news.length := fun e i hi => by rw [e] at hi; cases hi
  cases op <;> simp only [opLoc, reduceCtorEq] at h
  case alloc t => unfold hAlloc at h; (repeat' split at h) <;> cases h; simp
  case box t x => unfold hBox at h; (repeat' split at h) <;> cases h; simp
  case buildSlice t len parts =>
    split at h
    · rw [hSliceLit_news h]; simp
    · cases h
  case build t parts => unfold hBuild okV at h; (repeat' split at h) <;> cases h <;> exact no rfl
  case load t x =>
    unfold loadR hLoadE at h
    (repeat' split at h) <;> first | (cases h; exact no rfl) | cases h | skip
    all_goals (unfold hLoad okV okC at h; (repeat' split at h) <;> first | (cases h; exact no rfl) | cases h)
  case store t x y =>
    unfold storeR hStoreE at h
    (repeat' split at h) <;> first | (cases h; exact no rfl) | cases h | skip
    all_goals (unfold hStore at h; (repeat' split at h) <;> first | (cases h; exact no rfl) | cases h)
  case binOp op t x y u =>
    unfold hBin hInt hStr hBoolEq hAgg hFunc okC at h
    (repeat' split at h) <;> first | (cases h; exact no rfl) | cases h
  case unOp op t x => unfold hUn okC at h; (repeat' split at h) <;> cases h <;> exact no rfl
  case convert s d x =>
    unfold hConvR hText hBytes hConv okC at h
    (repeat' split at h) <;> first | (cases h; exact no rfl) | (cases h; intro i hi; simp only [List.mem_cons, List.not_mem_nil, or_false] at hi; simp only [List.length_cons, List.length_nil]; omega) | cases h
  case makeFunc fn first captured => unfold hMakeFunc okC at h; (repeat' split at h) <;> cases h <;> exact no rfl
  case fieldAddr t x f => unfold hFieldAddr okC at h; (repeat' split at h) <;> cases h <;> exact no rfl
  case field t x f => unfold hField okV at h; (repeat' split at h) <;> cases h <;> exact no rfl
  case indexAddr t x y => unfold hIndexAddr okC at h; (repeat' split at h) <;> cases h <;> exact no rfl
  case index t x y => unfold hIndex okV at h; (repeat' split at h) <;> cases h <;> exact no rfl
  case extract x i => unfold hExtract okV at h; (repeat' split at h) <;> cases h <;> exact no rfl
  case slice t x lo hi mx => unfold hCut hSub hWin at h; (repeat' split at h) <;> first | (cases h; exact no rfl) | cases h
  case nilCheck x => unfold hNil okC at h; (repeat' split at h) <;> cases h <;> exact no rfl
  case pick c a b => unfold hPick okV at h; (repeat' split at h) <;> cases h <;> exact no rfl
  case move x => unfold okV at h; (repeat' split at h) <;> cases h <;> exact no rfl
  case assign x => unfold okV at h; (repeat' split at h) <;> cases h <;> exact no rfl
  case call c =>
    unfold opCall hLen hCall hMin hAppend okC at h
    (repeat' split at h) <;> first | (cases h; exact no rfl) | (cases h; intro i hi; simp only [List.mem_cons, List.not_mem_nil, or_false] at hi; simp only [List.length_cons, List.length_nil]; omega) | (cases h; intro i hi; rw [List.mem_range'_1] at hi; simp only [List.length_range']; exact hi) | cases h

theorem hSub_run [Outer] {t : TypeId} {x : SW} {lo hi : Option SW} {nv : Nat} {res : OpRes} {evs : List Ev} (h : hSub P t x lo hi nv = .ok res evs) (hev : Holds P ρ evs) :
    (Instr.sliceAt t (x.den ρ β) (lo.map (·.den ρ β)) (hi.map (·.den ρ β)) none).run P w = .ok (res.val.den ρ β) w ∧ res.upd = [] := by
  have pos : ∀ {a b : Tm}, (mkNo (mkLt a b)).den ρ = true → b.i ρ ≤ a.i ρ := fun {a b} h => by
    rw [mkNo_den, mkLt_den] at h
    simpa using h
  unfold hSub at h
  split at h
  · rename_i s hu
    split at h
    · rename_i k a k' b
      cases h
      have h1 := pos (hev _ (.head _))
      have h2 := pos (hev _ (.tail _ (.head _)))
      have h3 := pos (hev _ (.tail _ (.tail _ (.head _))))
      rw [mkLen_den] at h3
      have h1 : 0 ≤ a.i ρ := h1
      refine ⟨?_, rfl⟩
      rw [run_sliceAt_string _ _ _ _ _ _ hu]
      show (Instr.slice t (.string (s.s ρ)) (some (.int k (a.i ρ))) (some (.int k' (b.i ρ))) none).run P w = _
      rw [run_slice_string_if w t _ k k' _ _ hu, if_pos ⟨by omega, h3⟩, if_pos ⟨h1, h2⟩]
      rfl
    · rename_i k a
      cases h
      have h1 := pos (hev _ (.head _))
      have h3 := pos (hev _ (.tail _ (.head _)))
      rw [mkLen_den] at h3
      have h1 : 0 ≤ a.i ρ := h1
      refine ⟨?_, rfl⟩
      rw [run_sliceAt_string _ _ _ _ _ _ hu]
      show (Instr.slice t (.string (s.s ρ)) (some (.int k (a.i ρ))) none none).run P w = .ok (.string ((s.s ρ).extract (a.i ρ).toNat ((mkLen s).i ρ).toNat)) w
      rw [run_slice_string_l w t _ hu k _ h1 h3, mkLen_den, Int.toNat_natCast]
    · rename_i k b
      cases h
      have h1 := pos (hev _ (.head _))
      have h3 := pos (hev _ (.tail _ (.head _)))
      rw [mkLen_den] at h3
      have h1 : 0 ≤ b.i ρ := h1
      refine ⟨?_, rfl⟩
      rw [run_sliceAt_string _ _ _ _ _ _ hu]
      show (Instr.slice t (.string (s.s ρ)) none (some (.int k (b.i ρ))) none).run P w = _
      rw [run_slice_string_h w t _ hu k _ h1 h3]
      rfl
    · cases h
  · cases h
theorem hCut_run [Outer] {t : TypeId} {x : SW} {lo hi : Option SW} {ids : List Nat} {nv : Nat} {res : OpRes} {evs : List Ev} (hM : Mrel ρ β inh w0 mm w) (h : hCut P t x lo hi ids (ids.map mm) nv = .ok res evs) (hev : Holds P ρ evs) :
    (Instr.sliceAt t (x.den ρ β) (lo.map (·.den ρ β)) (hi.map (·.den ρ β)) none).run P w = .ok (res.val.den ρ β) w ∧ res.upd = [] := by
  unfold hCut at h
  split at h
  · exact hSub_run h hev
  · exact hWin_run hM h hev
theorem hMin_run {xs : List SW} {nv : Nat} {res : OpRes} {evs : List Ev} (h : hMin .lss xs nv = .ok res evs) (ts : Array TypeId) (ty : TypeId) : (Builtin.min_ ts ty (xs.map (·.den ρ β)).toArray).run P w = .ok (res.val.den ρ β) w ∧ res.upd = [] := by
  unfold hMin at h
  split at h
  · simp only [okC] at h
    cases h
    refine ⟨?_, rfl⟩
    exact run_min_int2 w ts ty _ _ _ _
  · simp only [okC] at h
    cases h
    refine ⟨?_, rfl⟩
    exact run_min_int3 w ts ty _ _ _ _ _ _
  · cases h
theorem hMax_run {xs : List SW} {nv : Nat} {res : OpRes} {evs : List Ev} (h : hMin .gtr xs nv = .ok res evs) (ts : Array TypeId) (ty : TypeId) : (Builtin.max_ ts ty (xs.map (·.den ρ β)).toArray).run P w = .ok (res.val.den ρ β) w ∧ res.upd = [] := by
  unfold hMin at h
  split at h
  · simp only [okC] at h
    cases h
    refine ⟨?_, rfl⟩
    exact run_max_int2 w ts ty _ _ _ _
  · simp only [okC] at h
    cases h
    refine ⟨?_, rfl⟩
    exact run_max_int3 w ts ty _ _ _ _ _ _
  · cases h
theorem opLoc_sound [Outer] (hN : ∀ (f : Nat) (fn : Func), P.funcs[f]? = some fn → (fn.name == "runtime.NumGoroutine") = false) {o : Oper} {a : Act} {args : List SW} (hasm : Asm.den ρ asm) (hev : Holds P ρ evs) (hM : Mrel ρ β inh w0 mm w) (hF : FreshM mm res.news) (hA : ∀ x ∈ args, ∀ i ∈ res.news, i ∉ x.ids)
    (hargs : o.op.operands.toList.map a.eval = args.map (·.den ρ β)) (h : opLoc P cfg asm own nv o.op args ((acc cfg o.op args).map mm) = .ok res evs) : Yield P ρ β inh w0 mm res o a w := by
  obtain ⟨dst, op, ty, pos, after, guard⟩ := o
  have one : ∀ {x : Operand} {y : SW}, [a.eval x] = [y].map (·.den ρ β) → a.eval x = y.den ρ β := fun h => by simpa using h
  have two : ∀ {x x' : Operand} {y y' : SW}, [a.eval x, a.eval x'] = [y, y'].map (·.den ρ β) → a.eval x = y.den ρ β ∧ a.eval x' = y'.den ρ β := fun h => by simpa using h
  cases op <;> simp only [opLoc, reduceCtorEq] at h <;> simp only [Op.operands] at hargs
  case move x =>
    split at h
    · simp only [okV] at h; cases h
      exact yield_value hM (by unfold execOp; simp only [Sem.run_pure, one (by simpa using hargs)]) rfl
    · cases h
  case assign x =>
    split at h
    · simp only [okV] at h; cases h
      exact yield_value hM (by unfold execOp; simp only [Sem.run_pure, one (by simpa using hargs)]) rfl
    · cases h
  case pick c x y =>
    split at h
    · rename_i c' x' y'
      obtain ⟨t, h1, h2, h3, h4⟩ := hPick_run (β := β) hasm h
      have e : a.eval c = c'.den ρ β ∧ a.eval x = x'.den ρ β ∧ a.eval y = y'.den ρ β := by simpa using hargs
      refine yield_value hM ?_ h3
      unfold execOp
      simp only [e.1, e.2.1, e.2.2, h1, asBool, Sem.run_bind, Sem.run_pure, Result.andThen_ok, h2]
    · cases h
  case alloc t =>
    unfold hAlloc at h
    split at h
    · cases h
    · rename_i i hi
      split at h
      · cases h
      · rename_i z hz
        split at h
        · cases h
        · rename_i v hv
          cases h
          obtain ⟨w', β', e1, e2, e3⟩ := new_run (P := P) (t := t) (v := v) hM hF (by rw [ofValue_ids hv]; simp) z (by rw [SV.ofValue_den hv])
          intro next Q hK
          unfold Oper.wp execOp
          have hzv : (zeroValue t).run P w = .ok z w := by simp [zeroValue, typeInfo, hi, hz]
          simp only [Instr.alloc, Sem.run_bind, hzv, Result.andThen_ok, e2, Sem.run_pure, Oper.upon_value]
          exact hK _ _ β' (fun i hi => e1 i hi) rfl e3
  case box t x =>
    split at h
    · rename_i y
      unfold hBox at h
      split at h
      · rename_i v
        cases h
        obtain ⟨w', β', e1, e2, e3⟩ := new_run (P := P) (t := t) (v := v) hM hF (by simpa [SW.ids] using hA) (v.den ρ β) rfl
        intro next Q hK
        unfold Oper.wp execOp
        have ex : a.eval x = v.den ρ β := by simpa [SW.den_one] using hargs
        simp only [Instr.box, ex, Sem.run_bind, e2, Result.andThen_ok, Sem.run_pure, Oper.upon_value]
        exact hK _ _ β' (fun i hi => e1 i hi) rfl e3
      · cases h
    · cases h
  case build t parts =>
    split at h
    · rename_i l hl
      obtain ⟨cs, e1, e2, e3, e4⟩ := hBuild_built h ρ β
      have hp : parts.toList.map (fun x => a.eval x.2) = args.map (·.den ρ β) := by simpa [Function.comp_def] using hargs
      refine yield_value hM ?_ e3
      rw [e2]
      unfold execOp
      have hb : (Instr.build t (parts.map fun (i, x) => (i, a.eval x))).run P w = .ok (.agg cs) w := run_build w t _ cs (by rw [← e1, ← zipParts_den hl hp]; simp)
      simp only [Sem.run_bind, hb, Result.andThen_ok, Sem.run_pure]
    · cases h
  case buildSlice t len parts =>
    split at h
    · rename_i l hl
      have hp : parts.toList.map (fun x => a.eval x.2) = args.map (·.den ρ β) := by simpa [Function.comp_def] using hargs
      have hnews := hSliceLit_news h
      rw [hnews] at hF hA
      obtain ⟨w', β', e1, e2, e3, e4⟩ := hSliceLit_run (P := P) hM hF (fun x hx => hA _ (zipParts_mem hl x hx) own (.head _)) h (parts.map fun (i, x) => (i, a.eval x)) (by rw [← zipParts_den hl hp]; simp)
      intro next Q hK
      unfold Oper.wp execOp
      simp only [Sem.run_bind, e2, Result.andThen_ok, Sem.run_pure, Oper.upon_value]
      exact hK _ _ β' (fun i hi => e1 i (by rw [← hnews]; exact hi)) rfl e3
    · cases h
  case load t x =>
    split at h
    · rename_i b base e idx fo mb hmb
      have ex : a.eval x = (SW.one (.cell (.eptr b base e idx fo))).den ρ β := by simpa using hargs
      have hmb : mb = mm b := by
        simp only [acc, ptrId, List.map_cons, List.map_nil, List.cons.injEq, and_true] at hmb
        exact hmb.symm
      subst hmb
      obtain ⟨e1, e2, e3⟩ := hLoadE_run (P := P) hM (fun b' base' e' idx' fo' e => by cases e; rfl) h hev
      refine yield_value hM ?_ e2
      unfold execOp
      simp only [ex, Sem.run_bind, e1, Result.andThen_ok, Sem.run_pure]
    · rename_i y mb hne hmb
      have ex : a.eval x = y.den ρ β := by simpa using hargs
      have hb : ∃ b, mb = mm b ∧ ∀ b' off, y = .one (.cell (.ptr b' off)) → b' = b := by
        simp only [acc] at hmb
        unfold ptrId at hmb
        split at hmb
        · rename_i b off
          simp only [List.map_cons, List.map_nil, List.cons.injEq, and_true] at hmb
          exact ⟨b, hmb.symm, fun b' off' e => by cases e; rfl⟩
        · rename_i b base e idx fo
          exact absurd rfl (hne b base e idx fo)
        · cases hmb
      obtain ⟨b, rfl, hb⟩ := hb
      unfold loadR at h
      split at h
      · split at h
        · rename_i z hz
          obtain ⟨hden, b0, off, base, idx, rfl, rfl⟩ := asE_den hz
          cases hb b0 off rfl
          obtain ⟨e1, e2, e3⟩ := hLoadE_run (P := P) hM (fun b' base' e' idx' fo' e => by cases e; rfl) h hev
          refine yield_value hM ?_ e2
          unfold execOp
          simp only [ex, hden ρ β, Sem.run_bind, e1, Result.andThen_ok, Sem.run_pure]
        · cases h
      · obtain ⟨e1, e2, e3⟩ := hLoad_run (P := P) hM hb h
        refine yield_value hM ?_ e2
        unfold execOp
        simp only [ex, Sem.run_bind, e1, Result.andThen_ok, Sem.run_pure]
    · cases h
  case store t x y =>
    split at h
    · rename_i b base e idx fo v mb hmb
      have ex : a.eval x = (SW.one (.cell (.eptr b base e idx fo))).den ρ β ∧ a.eval y = v.den ρ β := by simpa using hargs
      have hmb : mb = mm b := by
        simp only [acc, ptrId, List.map_cons, List.map_nil, List.cons.injEq, and_true] at hmb
        exact hmb.symm
      subst hmb
      obtain ⟨w', e1, e2, e3, e4⟩ := hStoreE_run (P := P) hM (fun b' base' e' idx' fo' e => by cases e; rfl) h hev
      intro next Q hK
      unfold Oper.wp execOp
      simp only [ex.1, ex.2, Sem.run_bind, e1, Result.andThen_ok, Sem.run_pure, Oper.upon_skip]
      exact hK _ _ β (fun _ _ => rfl) (by rw [e2]; rfl) e4
    · rename_i p v mb hne hmb
      have ex : a.eval x = p.den ρ β ∧ a.eval y = v.den ρ β := by simpa using hargs
      have hb : ∃ b, mb = mm b ∧ ∀ b' off, p = .one (.cell (.ptr b' off)) → b' = b := by
        simp only [acc] at hmb
        unfold ptrId at hmb
        split at hmb
        · rename_i b off
          simp only [List.map_cons, List.map_nil, List.cons.injEq, and_true] at hmb
          exact ⟨b, hmb.symm, fun b' off' e => by cases e; rfl⟩
        · rename_i b base e idx fo
          exact absurd rfl (hne b base e idx fo)
        · cases hmb
      obtain ⟨b, rfl, hb⟩ := hb
      unfold storeR at h
      split at h
      · split at h
        · rename_i z hz
          obtain ⟨hden, b0, off, base, idx, rfl, rfl⟩ := asE_den hz
          cases hb b0 off rfl
          obtain ⟨w', e1, e2, e3, e4⟩ := hStoreE_run (P := P) hM (fun b' base' e' idx' fo' e => by cases e; rfl) h hev
          intro next Q hK
          unfold Oper.wp execOp
          simp only [ex.1, hden ρ β, ex.2, Sem.run_bind, e1, Result.andThen_ok, Sem.run_pure, Oper.upon_skip]
          exact hK _ _ β (fun _ _ => rfl) (by rw [e2]; rfl) e4
        · cases h
      · obtain ⟨w', e1, e2, e3, e4⟩ := hStore_run (P := P) hM hb h
        intro next Q hK
        unfold Oper.wp execOp
        simp only [ex.1, ex.2, Sem.run_bind, e1, Result.andThen_ok, Sem.run_pure, Oper.upon_skip]
        exact hK _ _ β (fun _ _ => rfl) (by rw [e2]; rfl) e4
    · cases h
  case nilCheck x =>
    split at h
    · rename_i y
      have ex : a.eval x = y.den ρ β := by simpa using hargs
      unfold hNil at h
      split at h
      · simp only [okC] at h; cases h
        exact yield_value hM (by unfold execOp; simp only [ex, SW.den, SV.den, Cell.den, Sem.run_pure]) rfl
      · simp only [okC] at h; cases h
        exact yield_value hM (by unfold execOp; simp only [ex, SW.den, SV.den, Cell.den, Sem.run_pure]) rfl
      · simp only [okC] at h; cases h
        exact yield_value hM (by unfold execOp; simp only [ex, SW.den, SV.den, Cell.den, Sem.run_pure]) rfl
      · cases h
    · cases h
  case binOp op t x y u =>
    split at h
    · rename_i p q
      have ex : a.eval x = p.den ρ β ∧ a.eval y = q.den ρ β := by simpa using hargs
      obtain ⟨e1, e2, e3, e4⟩ := hBin_run (P := P) (β := β) (w := w) (ox := x) (oy := y) hasm h hev
      refine yield_value hM ?_ e3
      unfold execOp
      simp only [ex.1, ex.2, Sem.run_bind, e1, Result.andThen_ok, e2, Sem.run_pure]
    · cases h
  case unOp op t x =>
    split at h
    · rename_i y
      have ex : a.eval x = y.den ρ β := by simpa using hargs
      obtain ⟨e1, e2, e3⟩ := hUn_run (P := P) (β := β) (w := w) h hev
      refine yield_value hM ?_ e2
      unfold execOp
      simp only [ex, Sem.run_bind, e1, Result.andThen_ok, Sem.run_pure]
    · cases h
  case convert s d x =>
    split at h
    · rename_i y
      have ex : a.eval x = y.den ρ β := by simpa using hargs
      unfold hConvR at h
      split at h
      · rename_i e hs hd
        obtain ⟨e1, e2, e3⟩ := hText_run (P := P) hs hd hM h hev
        refine yield_value hM ?_ e2
        unfold execOp
        simp only [ex, Sem.run_bind, e1, Result.andThen_ok, Sem.run_pure]
      · rename_i e hs hd
        obtain ⟨v, w', β', e1, e2, e3, e4⟩ := hBytes_run (P := P) hs hd hM hF h
        intro next Q hK
        unfold Oper.wp execOp
        simp only [ex, Sem.run_bind, e2, Result.andThen_ok, Sem.run_pure, Oper.upon_value]
        exact hK _ _ β' e1 e3 e4
      · obtain ⟨e1, e2, e3⟩ := hConv_run (P := P) (β := β) (w := w) h hev
        refine yield_value hM ?_ e2
        unfold execOp
        simp only [ex, Sem.run_bind, e1, Result.andThen_ok, Sem.run_pure]
    · cases h
  case makeFunc fn first captured =>
    unfold hMakeFunc at h
    split at h
    · rename_i f ps h0
      split at h
      · rename_i bs hb
        simp only [okC] at h; cases h
        obtain ⟨x, rfl⟩ : ∃ x, first = #[x] := by
          rcases first with ⟨_ | ⟨x, _ | ⟨y, l⟩⟩⟩
          · simp at h0
          · exact ⟨x, rfl⟩
          · simp at h0
        have hc : a.eval x = (SW.one (.agg ps)).den ρ β ∧ captured = #[] := by
          simpa using hargs
        obtain ⟨hx, rfl⟩ := hc
        refine yield_value hM ?_ rfl
        unfold execOp
        have h00 : (#[x] : Array Operand).map a.eval = #[.agg (densB ρ bs).toArray] := by
          simp [hx, SW.den, SV.den, bpsOf_den ρ β hb]
        have h01 : (#[] : Array Operand).map a.eval = #[] := by simp
        simp only [Instr.makeFunc, h00, h01, Sem.run_bind, Sem.run_pure, Result.andThen_ok]
        rfl
      · cases h
    · rename_i h0
      split at h
      · rename_i l hl
        simp only [okC] at h; cases h
        have h0 : first = #[] := by simpa using h0
        subst h0
        have hc : captured.toList.map a.eval = l.map fun c => Value.pointer (some ⟨β c.1, c.2, none⟩) := by rw [← ptrsOf_den hl]; simpa using hargs
        refine yield_value hM ?_ rfl
        unfold execOp
        have : captured.map a.eval = (l.map fun c => Value.pointer (some ⟨β c.1, c.2, none⟩)).toArray := by
          apply Array.toList_inj.1
          rw [Array.toList_map, hc]
        have h00 : (#[] : Array Operand).map a.eval = #[] := by simp
        simp only [Instr.makeFunc, h00, this, Sem.run_bind, Sem.run_pure, Result.andThen_ok]
        rfl
      · cases h
    · cases h
  case fieldAddr t x f =>
    split at h
    · rename_i y
      have ex : a.eval x = y.den ρ β := by simpa using hargs
      obtain ⟨e1, e2, e3⟩ := hFieldAddr_run (P := P) (ρ := ρ) (β := β) (w := w) h
      refine yield_value hM ?_ e2
      unfold execOp
      simp only [ex, Sem.run_bind, e1, Result.andThen_ok, Sem.run_pure]
    · cases h
  case field t x f =>
    split at h
    · rename_i y
      have ex : a.eval x = y.den ρ β := by simpa using hargs
      obtain ⟨e1, e2, e3⟩ := hField_run (P := P) (ρ := ρ) (β := β) (w := w) h
      refine yield_value hM ?_ e2
      unfold execOp
      simp only [ex, Sem.run_bind, e1, Result.andThen_ok, Sem.run_pure]
    · cases h
  case indexAddr t x y =>
    split at h
    · rename_i p q
      have ex : a.eval x = p.den ρ β ∧ a.eval y = q.den ρ β := by simpa using hargs
      obtain ⟨e1, e2, e3⟩ := hIndexAddr_run (P := P) (ρ := ρ) (β := β) (w := w) h hev
      refine yield_value hM ?_ e2
      unfold execOp
      simp only [ex.1, ex.2, Sem.run_bind, e1, Result.andThen_ok, Sem.run_pure]
    · cases h
  case index t x y =>
    split at h
    · rename_i p q
      have ex : a.eval x = p.den ρ β ∧ a.eval y = q.den ρ β := by simpa using hargs
      obtain ⟨e1, e2, e3⟩ := hIndex_run (P := P) (ρ := ρ) (β := β) (w := w) h hev
      refine yield_value hM ?_ e2
      unfold execOp
      simp only [ex.1, ex.2, Sem.run_bind, e1, Result.andThen_ok, Sem.run_pure]
    · cases h
  case extract x i =>
    split at h
    · rename_i y
      have ex : a.eval x = y.den ρ β := by simpa using hargs
      obtain ⟨e1, e2, e3⟩ := hExtract_run (P := P) (ρ := ρ) (β := β) (w := w) h
      refine yield_value hM ?_ e2
      unfold execOp
      simp only [ex, Sem.run_bind, e1, Result.andThen_ok, Sem.run_pure]
    · cases h
  case slice t x lo hi mx =>
    split at h
    · rename_i l u p q r
      have ex : a.eval x = p.den ρ β ∧ a.eval l = q.den ρ β ∧ a.eval u = r.den ρ β := by simpa using hargs
      obtain ⟨e1, e2⟩ := hCut_run (P := P) (ρ := ρ) (β := β) (w := w) hM h hev
      refine yield_value hM ?_ e2
      unfold execOp
      simp only [Option.map_some] at e1
      simp only [ex.1, ex.2.1, ex.2.2, Option.map_some, Option.map_none, Sem.run_bind, e1, Result.andThen_ok, Sem.run_pure]
    · rename_i l p q
      have ex : a.eval x = p.den ρ β ∧ a.eval l = q.den ρ β := by simpa using hargs
      obtain ⟨e1, e2⟩ := hCut_run (P := P) (ρ := ρ) (β := β) (w := w) hM h hev
      refine yield_value hM ?_ e2
      unfold execOp
      simp only [Option.map_some, Option.map_none] at e1
      simp only [ex.1, ex.2, Option.map_some, Option.map_none, Sem.run_bind, e1, Result.andThen_ok, Sem.run_pure]
    · rename_i u p r
      have ex : a.eval x = p.den ρ β ∧ a.eval u = r.den ρ β := by simpa using hargs
      obtain ⟨e1, e2⟩ := hCut_run (P := P) (ρ := ρ) (β := β) (w := w) hM h hev
      refine yield_value hM ?_ e2
      unfold execOp
      simp only [Option.map_some, Option.map_none] at e1
      simp only [ex.1, ex.2, Option.map_some, Option.map_none, Sem.run_bind, e1, Result.andThen_ok, Sem.run_pure]
    · rename_i p
      have ex : a.eval x = p.den ρ β := by simpa using hargs
      obtain ⟨e1, e2⟩ := hCut_run (P := P) (ρ := ρ) (β := β) (w := w) hM h hev
      refine yield_value hM ?_ e2
      unfold execOp
      simp only [Option.map_none] at e1
      simp only [ex, Option.map_none, Sem.run_bind, e1, Result.andThen_ok, Sem.run_pure]
    · cases h
  case call c =>
    obtain ⟨callee, cargs, argTypes⟩ := c
    unfold opCall at h
    split at h
    · rename_i x hc
      have hc : callee = _ := hc
      subst hc
      split at h
      · rename_i t ts ht
        have ht : argTypes.toList = t :: ts := ht
        have ex : cargs.toList.map a.eval = [x].map (·.den ρ β) := by simpa [Call.operands] using hargs
        have hca : cargs.map a.eval = #[x.den ρ β] := by
          apply Array.toList_inj.1; simpa using ex
        have h0 : argTypes[0]? = some t := by
          rw [← Array.getElem?_toList, ht]; rfl
        obtain ⟨e1, e2, e3⟩ := hLen_run (P := P) (ρ := ρ) (β := β) (w := w) h hev ty argTypes h0
        refine yield_value hM ?_ e2
        unfold execOp
        simp only [resolve, hca, Sem.run_bind, Sem.run_pure, Result.andThen_ok, invoke, builtin, e1]
      · cases h
    · rename_i ys _ _ hc
      have hc : callee = _ := hc
      subst hc
      have hca : cargs.map a.eval = (ys.map (·.den ρ β)).toArray := by
        apply Array.toList_inj.1
        rw [Array.toList_map]
        simpa [Call.operands] using hargs
      obtain ⟨e1, e2⟩ := hMin_run (P := P) (ρ := ρ) (β := β) (w := w) h argTypes ty
      refine yield_value hM ?_ e2
      unfold execOp
      simp only [resolve, hca, Sem.run_bind, Sem.run_pure, Result.andThen_ok, invoke, builtin, e1]
    · rename_i ys _ _ hc
      have hc : callee = _ := hc
      subst hc
      have hca : cargs.map a.eval = (ys.map (·.den ρ β)).toArray := by
        apply Array.toList_inj.1
        rw [Array.toList_map]
        simpa [Call.operands] using hargs
      obtain ⟨e1, e2⟩ := hMax_run (P := P) (ρ := ρ) (β := β) (w := w) h argTypes ty
      refine yield_value hM ?_ e2
      unfold execOp
      simp only [resolve, hca, Sem.run_bind, Sem.run_pure, Result.andThen_ok, invoke, builtin, e1]
    · rename_i s x hc
      have hc : callee = _ := hc
      subst hc
      split at h
      · rename_i t t' ht
        have ht : argTypes.toList = [t, t'] := ht
        split at h
        · rename_i htt
          have htt := Nat.eq_of_beq_eq_true htt
          subst htt
          have hat : argTypes = #[t, t] := by apply Array.toList_inj.1; rw [ht]
          have hca : cargs.map a.eval = #[s.den ρ β, x.den ρ β] := by
            apply Array.toList_inj.1
            rw [Array.toList_map]
            simpa [Call.operands] using hargs
          obtain ⟨v, w', β', e1, e2, e3, e4⟩ := hAppend_run (P := P) (ρ := ρ) (β := β) (ty := ty) (w := w) hM hF h hev
          intro next Q hK
          unfold Oper.wp execOp
          simp only [resolve, hca, hat, Sem.run_bind, Sem.run_pure, Result.andThen_ok, invoke, builtin, e2, Oper.upon_value]
          exact hK _ _ β' e1 e3 e4
        · cases h
      · cases h
    · rename_i fo f caps rest hc
      have hc : callee = _ := hc
      subst hc
      have ex : a.eval fo = Value.func (.func f) #[] (caps.map fun c => Value.pointer (some ⟨β c.1, c.2, none⟩)).toArray ∧ cargs.toList.map a.eval = rest.map (·.den ρ β) := by
        simpa [Call.operands, SW.den, SV.den, Cell.den] using hargs
      have hca : cargs.map a.eval = (rest.map (·.den ρ β)).toArray := by
        apply Array.toList_inj.1
        rw [Array.toList_map, ex.2]
      have hnd : (acc cfg (.call ⟨.value fo, cargs, argTypes⟩) (.one (.cell (.func f caps)) :: rest)).Nodup := by
        unfold acc
        dsimp only
        split
        · exact dedup_nodup _
        · exact .nil
      obtain ⟨fn, hfn, hb, hcalls⟩ := hCall_run (P := P) (ρ := ρ) (β := β) (w := w) hnd h hev hM hF
      intro next Q hK
      unfold Oper.wp execOp
      simp only [resolve, Deferred.ofValue, ex.1, hca, Sem.run_bind, Sem.run_pure, Result.andThen_ok, invoke, Array.empty_append, names_pure P hN hfn hb, Oper.upon_enter]
      exact hcalls.mono fun e w' ⟨β', hβ, he, hm⟩ => by subst he; exact hK _ _ β' hβ rfl hm
    · cases h
end
end Go.Proofs.Ytlccefdjhiedcaa.Sx
end
section
namespace Go.Proofs.Ytlccefdjhiedcaa.Sx
open Go.RowKit

def putT (dst : Option Nat) (v : SW) (l : List SW) : List SW :=
  match dst with
  | some d => l.set d v
  | none => l
def denT (ρ : Nat → Value) (β : Nat → Nat) (l : List SW) : Array Value := (l.map (·.den ρ β)).toArray
theorem look_get : ∀ (l : List SW) (t : Nat), look l t = (l[t]?).getD .undef
  | [], _ => by simp [look]
  | _ :: _, 0 => by simp [look]
  | _ :: l, n + 1 => by simp [look, look_get l n]
theorem Trel.of_den [Outer] (ρ : Nat → Value) (β : Nat → Nat) (l : List SW) : Trel ρ β l (denT ρ β l) := by
  refine ⟨by simp [denT], fun t v h => .inr ?_⟩
  rw [look_get]
  simp only [denT, List.getElem?_toArray, List.getElem?_map] at h
  cases hl : l[t]? with
  | none => rw [hl] at h; cases h
  | some x => rw [hl] at h; simp at h; simp [← h]
theorem Trel.getD [Outer] {ρ : Nat → Value} {β : Nat → Nat} {l : List SW} {tmps : Array Value} (h : Trel ρ β l tmps) {t : Nat} (hd : look l t ≠ .dead) : tmps.getD t undef = (look l t).den ρ β := by
  cases hv : tmps[t]? with
  | none =>
    have : l[t]? = none := by
      have := h.1
      simp only [Array.getElem?_eq_none_iff] at hv
      simp only [List.getElem?_eq_none_iff]; omega
    rw [look_get, this]
    simp only [Array.getD_eq_getD_getElem?, hv]; rfl
  | some v =>
    rcases h.2 t v hv with h' | h'
    · exact absurd h' hd
    · simp only [Array.getD_eq_getD_getElem?, hv, Option.getD_some, h']
theorem Trel.put [Outer] {ρ : Nat → Value} {β : Nat → Nat} {l : List SW} {a : Act} (h : Trel ρ β l a.tmps) (dst : Option Nat) (v : SW) {x : Value} (hx : x = v.den ρ β) : Trel ρ β (putT dst v l) (a.put dst x).tmps := by
  cases dst with
  | none => exact h
  | some d =>
    refine ⟨by simp [Act.put, putT, h.1], fun t u hu => ?_⟩
    simp only [Act.put] at hu
    by_cases hdt : d = t
    · subst hdt
      have hlt : d < a.tmps.size := by
        have := (Array.getElem?_eq_some_iff.1 hu).1
        simpa using this
      have e : u = x := by
        rw [Array.getElem?_setIfInBounds_self_of_lt hlt] at hu
        exact (Option.some.inj hu).symm
      refine .inr ?_
      rw [e, hx, look_get]
      simp [putT, h.1 ▸ hlt]
    · rw [Array.getElem?_setIfInBounds_ne hdt] at hu
      have : look (putT (some d) v l) t = look l t := by simp only [putT, look_get, List.getElem?_set_ne hdt]
      rw [this]
      exact h.2 t u hu
theorem Trel.names {ρ : Nat → Value} {β β' : Nat → Nat} {l : List SW} {tmps : Array Value} (h : Trel ρ β l tmps) (hn : ∀ t, ∀ i ∈ (look l t).ids, β' i = β i) : Trel ρ β' l tmps :=
  ⟨h.1, fun t v hv => (h.2 t v hv).imp id fun e => by rw [e, SW.den_names (hn t)]⟩
theorem putT_length (dst : Option Nat) (v : SW) (l : List SW) : (putT dst v l).length = l.length := by cases dst <;> simp [putT]
theorem look_putT_ne [Outer] {dst : Option Nat} {v : SW} {l : List SW} {t : Nat} (h : dst ≠ some t) : look (putT dst v l) t = look l t := by
  cases dst with
  | none => rfl
  | some d =>
    have : d ≠ t := fun e => h (by rw [e])
    simp only [putT, look_get, List.getElem?_set_ne this]
theorem look_putT_self [Outer] {v : SW} {l : List SW} {t : Nat} (h : t < l.length) : look (putT (some t) v l) t = v := by
  simp [putT, look_get, h]

def opnd (tmps : List SW) : Operand → Option SW
  | .tmp t => match look tmps t with
    | .dead => none
    | .one (.cell (.box b)) => some (.one (.cell (.ptr b 0)))
    | x => some x
  | .const v => match SV.ofValue v with
    | some s => some (.one s)
    | none => none
  | .global _ => none
  | .func f => some (.one (.cell (.func f [])))
def opnds (tmps : List SW) : List Operand → Option (List SW)
  | [] => some []
  | x :: xs => match opnd tmps x with
    | none => none
    | some y => match opnds tmps xs with
      | none => none
      | some ys => some (y :: ys)
theorem opnd_tmp {tmps : List SW} {t : Nat} {y : SW} (h : opnd tmps (.tmp t) = some y) : ((∀ ρ β, y.den ρ β = (look tmps t).den ρ β) ∧ y.ids = (look tmps t).ids) ∧ look tmps t ≠ .dead := by
  simp only [opnd] at h
  split at h
  · cases h
  · rename_i b hb; cases h; rw [hb]; exact ⟨⟨fun _ _ => rfl, rfl⟩, fun e => by cases e⟩
  · rename_i hd _; cases h; exact ⟨⟨fun _ _ => rfl, rfl⟩, fun e => hd e⟩
theorem opnd_den [Outer] {tmps tm' : List SW} {x : Operand} {y : SW} {ρ : Nat → Value} {β : Nat → Nat} {a : Act} (h : opnd tmps x = some y) (ha : Trel ρ β tm' a.tmps) (hl : ∀ t, x = .tmp t → look tm' t = look tmps t) : a.eval x = y.den ρ β := by
  cases x with
  | tmp t =>
    obtain ⟨⟨hy, _⟩, hd⟩ := opnd_tmp h
    rw [hy]
    rw [← hl t rfl] at hd ⊢
    exact ha.getD hd
  | const v =>
    simp only [opnd] at h
    split at h
    · rename_i s hs
      cases h
      simp only [Act.eval, SW.den_one, SV.ofValue_den hs]
    · cases h
  | global g => cases h
  | func f => simp only [opnd, Option.some.injEq] at h; subst h; rfl
theorem opnds_den [Outer] {tmps tm' : List SW} {ρ : Nat → Value} {β : Nat → Nat} {a : Act} (ha : Trel ρ β tm' a.tmps) : ∀ {xs : List Operand} {ys : List SW}, opnds tmps xs = some ys → (∀ t, Operand.tmp t ∈ xs → look tm' t = look tmps t) →
    xs.map a.eval = ys.map (·.den ρ β)
  | [], ys, h, _ => by cases h; rfl
  | x :: xs, ys, h, hl => by
    simp only [opnds] at h
    split at h
    · cases h
    · rename_i y hy
      split at h
      · cases h
      · rename_i ys' hys
        cases h
        simp only [List.map_cons]
        rw [opnd_den hy ha fun t e => hl t (by rw [e]; exact .head _), opnds_den ha hys fun t ht => hl t (.tail _ ht)]
theorem opnds_ids [Outer] {tmps tm' : List SW} : ∀ {xs : List Operand} {ys : List SW}, opnds tmps xs = some ys → (∀ t, Operand.tmp t ∈ xs → look tm' t = look tmps t) → ∀ y ∈ ys, ∀ i ∈ y.ids, ∃ t, i ∈ (look tm' t).ids
  | [], ys, h, _ => by cases h; simp
  | x :: xs, ys, h, hl => by
    simp only [opnds] at h
    split at h
    · cases h
    · rename_i y hy
      split at h
      · cases h
      · rename_i ys' hys
        cases h
        intro z hz i hi
        rcases List.mem_cons.1 hz with rfl | hz
        · cases x with
          | tmp t =>
            obtain ⟨⟨_, hy⟩, _⟩ := opnd_tmp hy
            exact ⟨t, by rw [hl t (.head _), ← hy]; exact hi⟩
          | const v =>
            simp only [opnd] at hy
            split at hy
            · rename_i s hs
              cases hy
              simp only [SW.ids, ofValue_ids hs] at hi
              cases hi
            · cases hy
          | global g => cases hy
          | func f => simp only [opnd, Option.some.injEq] at hy; subst hy; cases hi
        · exact opnds_ids hys (fun t ht => hl t (.tail _ ht)) z hz i hi

def boundT (n : Nat) : List SW → Bool
  | [] => true
  | v :: l => ltAll n v.ids && boundT n l
def boundM (n : Nat) : Mem → Bool
  | [] => true
  | (i, some m) :: l => Nat.blt i n && ltAll n m.ids && boundM n l
  | (_, none) :: l => boundM n l
theorem boundT_look {n : Nat} : ∀ {l : List SW}, boundT n l = true → ∀ t, ∀ i ∈ (look l t).ids, i < n
  | [], _, t, i, hi => by simp [look, SW.ids] at hi
  | v :: l, h, 0, i, hi => by
    simp only [boundT, Bool.and_eq_true] at h
    exact ltAll_iff h.1 i hi
  | v :: l, h, t + 1, i, hi => by
    simp only [boundT, Bool.and_eq_true] at h
    exact boundT_look h.2 t i hi
theorem boundM_find {n : Nat} : ∀ {mem : Mem}, boundM n mem = true → ∀ i m, find i mem = some m → i < n ∧ ∀ j ∈ m.ids, j < n
  | [], _, i, m, h => by cases h
  | (k, some m') :: rest, h, i, m, hf => by
    simp only [boundM, Bool.and_eq_true, Nat.blt_eq] at h
    simp only [find] at hf
    split at hf
    · rename_i hik
      cases hf
      rw [Nat.eq_of_beq_eq_true hik]
      exact ⟨h.1.1, ltAll_iff h.1.2⟩
    · exact boundM_find h.2 i m hf
  | (k, none) :: rest, h, i, m, hf => by
    simp only [boundM] at h
    simp only [find] at hf
    split at hf
    · cases hf
    · exact boundM_find h i m hf

def keyIn (i : Nat) : Mem → Bool
  | [] => false
  | (j, _) :: l => Nat.beq i j || keyIn i l
def keysNodup : Mem → Bool
  | [] => true
  | (i, _) :: l => !keyIn i l && keysNodup l
def keysIn : Mem → Mem → Bool
  | [], _ => true
  | (i, _) :: l, mem => keyIn i mem && keysIn l mem
theorem setFs_find : ∀ {mem : Mem} {g : Nat → Option MB}, keysNodup mem = true → ∀ i, setFs g mem i = if keyIn i mem then find i mem else g i
  | [], g, _, i => rfl
  | (j, m) :: l, g, h, i => by
    simp only [keysNodup, Bool.and_eq_true, Bool.not_eq_true'] at h
    simp only [setFs, setFs_find h.2 i, find, keyIn]
    by_cases hij : i = j
    · subst hij
      simp [h.1, setF]
    · have hb : Nat.beq i j = false := by rw [Bool.eq_false_iff]; intro h; exact hij (Nat.eq_of_beq_eq_true h)
      simp [hb, setF, hij]
theorem keysIn_find : ∀ {old new : Mem}, keysIn old new = true → ∀ i, keyIn i new = false → find i old = none
  | [], _, _, _, _ => rfl
  | (j, m) :: l, new, h, i, hn => by
    simp only [keysIn, Bool.and_eq_true] at h
    simp only [find]
    split
    · rename_i hij
      rw [← Nat.eq_of_beq_eq_true hij, hn] at h
      exact absurd h.1 (by simp)
    · exact keysIn_find h.2 i hn
theorem keyIn_none : ∀ {mem : Mem} {i : Nat}, keyIn i mem = false → find i mem = none
  | [], _, _ => rfl
  | (j, m) :: l, i, h => by
    simp only [keyIn, Bool.or_eq_false_iff] at h
    simp only [find, h.1, Bool.false_eq_true, if_false, keyIn_none h.2]
theorem setFs_over [Outer] {old new : Mem} (h1 : keysNodup new = true) (h2 : keysIn old new = true) : setFs (fun i => find i old) new = fun i => find i new := by
  funext i
  rw [setFs_find h1]
  split
  · rfl
  · rename_i h
    have h : keyIn i new = false := by simpa using h
    rw [keysIn_find h2 i h, keyIn_none h]

structure Rec where
  dst : Option Nat
  looks : List Nat
  val : SW
  upd : Mem
  fp : List Nat
  whole : Bool
  lo : Nat
  hi : Nat
  nv : Nat
structure Ret where
  val : SW
  mem : Mem
  nx : Nat
  nv : Nat
abbrev Callee := FuncId → List SW → Mem → Nat → Nat → R Ret

def wantedS (asm : Asm) (ops : Array Oper) (tmps : List SW) (o : Oper) : R Bool :=
  match o.guard with
  | none => .ok true []
  | some (j, want) => match (ops.toList[j]?).bind (·.dst) with
    | none => .ok false []
    | some t => match look tmps t with
      | .one (.cell (.bool b)) => match decideB asm b with
        | some x => .ok (x == want) []
        | none => .split (atomB b) []
      | .undef => .ok false []
      | _ => .bad "guard"
def inlineOf (cfg : Cfg) (op : Op) (args : List SW) : Option (FuncId × List SW) :=
  match op, args with
  | .call ⟨.value _, _, _⟩, .one (.cell (.func f caps)) :: rest => match memN f cfg.inl with
    | true => some (f, rest ++ (capsV caps).map .one)
    | false => none
  | .call ⟨.value _, _, _⟩, .one (.cell (.meth f bs)) :: rest => match memN f cfg.inl with
    | true => some (f, .one (.agg (bs.map BP.toP)) :: rest)
    | false => none
  | _, _ => none
def boundS (st : St) : Bool := boundT st.nx st.tmps && boundM st.nx st.mem
def stepLoc (P : Program) (cfg : Cfg) (asm : Asm) (ops : Array Oper) (st : St) (o : Oper) (args : List SW) : R Rec :=
  (opLoc P cfg asm st.nx st.nv o.op args ((acc cfg o.op args).map fun i => find i st.mem)).bind fun r =>
    match r.news with
    | [] => .ok ⟨o.dst, o.looksAt ops, r.val, r.upd, acc cfg o.op args, false, st.nx, st.nx, r.nv⟩ []
    | n :: ns => match boundS st with
      | true => .ok ⟨o.dst, o.looksAt ops, r.val, r.upd, acc cfg o.op args, false, st.nx, st.nx + (n :: ns).length, r.nv⟩ []
      | false => .bad "names"
def stepInl (callee : Callee) (ops : Array Oper) (st : St) (o : Oper) (f : FuncId) (as1 : List SW) : R Rec :=
  (callee f as1 st.mem st.nx st.nv).bind fun r =>
    match boundS st && keysNodup r.mem && keysIn st.mem r.mem with
    | true => .ok ⟨o.dst, o.looksAt ops, r.val, r.mem, [], true, st.nx, r.nx, r.nv⟩ []
    | false => .bad "names of a call"
def stepOp (P : Program) (cfg : Cfg) (asm : Asm) (callee : Callee) (ops : Array Oper) (st : St) (o : Oper) : R Rec :=
  (wantedS asm ops st.tmps o).bind fun wnt =>
    match wnt with
    | false => .ok ⟨o.dst, o.looksAt ops, .undef, [], [], false, st.nx, st.nx, st.nv⟩ []
    | true => match opnds st.tmps o.op.operands.toList with
      | none => .bad "operand"
      | some args => match inlineOf cfg o.op args with
        | some (f, as1) => stepInl callee ops st o f as1
        | none => stepLoc P cfg asm ops st o args
def St.after (st : St) (r : Rec) : St := ⟨putT r.dst r.val st.tmps, putMs r.upd st.mem, r.hi, r.nv⟩
def runOps (P : Program) (cfg : Cfg) (asm : Asm) (callee : Callee) (ops : Array Oper) : List Oper → St → R (St × List Rec)
  | [], st => .ok (st, []) []
  | o :: os, st => (stepOp P cfg asm callee ops st o).bind fun r =>
    (runOps P cfg asm callee ops os (st.after r)).bind fun x => .ok (x.1, r :: x.2) []

def Rec.old (r : Rec) (i : Nat) : Prop := i < r.lo ∨ (r.whole = false ∧ r.hi ≤ i)

def CalleeOk [Outer] (P : Program) (ρ : Nat → Value) (callee : Callee) : Prop :=
  ∀ f args mem nx nv ret evs, callee f args mem nx nv = .ok ret evs → Holds P ρ evs → ∀ β inh w0 w, Mrel ρ β inh w0 (fun i => find i mem) w →
    ∃ fn, P.funcs[f]? = some fn ∧ fn.body.isSome = true ∧ Calls P f (denT ρ β args) w fun e w' => ∃ β', (∀ i, i < nx → β' i = β i) ∧ e = .returned (ret.val.den ρ β') ∧ Mrel ρ β' inh w0 (fun i => find i ret.mem) w'

section
variable {P : Program} {ρ : Nat → Value} {β : Nat → Nat} {inh : List Nat} {w0 w : World} {cfg : Cfg} {asm : Asm} {callee : Callee} {ops : Array Oper} {st : St} {o : Oper} {r : Rec} {evs : List Ev}

theorem wantedS_eq [Outer] {tm' : List SW} {a : Act} {b : Bool} (hasm : Asm.den ρ asm) (h : wantedS asm ops st.tmps o = .ok b evs) (ha : Trel ρ β tm' a.tmps) (hl : ∀ t ∈ o.looksAt ops, look tm' t = look st.tmps t) :
    Region.wanted o (yielded ops a.tmps) = b := by
  unfold wantedS at h
  unfold Region.wanted
  split at h
  · rename_i hg; cases h; rw [hg]
  · rename_i j want hg
    rw [hg]
    simp only
    have hy : yielded ops a.tmps j = match ((ops[j]?).bind (·.dst)).bind (a.tmps[·]?) with | some (.bool b) => some b | _ => none := rfl
    rw [Array.getElem?_toList] at h
    cases hd : (ops[j]?).bind (·.dst) with
    | none =>
      rw [hd] at h hy
      simp only [Option.bind_none] at hy
      cases h
      rw [hy]; rfl
    | some t =>
      rw [hd] at h hy
      simp only [Option.bind_some] at h hy
      have hlt : look tm' t = look st.tmps t := hl t (by
        refine List.mem_append_right _ ?_
        simp only [hg, hd]; simp)
      split at h
      · rename_i bt hbt
        rw [hbt] at hlt
        have hs : a.tmps[t]? = some (.bool (bt.den ρ)) := by
          cases hc : a.tmps[t]? with
          | none =>
            exfalso
            have h1 : tm'[t]? = none := by
              have := ha.1
              simp only [Array.getElem?_eq_none_iff] at hc
              simp only [List.getElem?_eq_none_iff]; omega
            rw [look_get, h1] at hlt
            cases hlt
          | some z =>
            rcases ha.2 t z hc with h' | h'
            · rw [h'] at hlt; cases hlt
            · rw [h', hlt]; rfl
        split at h
        · rename_i x hx
          cases h
          rw [hy, hs]
          simp only [decideB_den hasm hx]
          cases x <;> cases want <;> rfl
        · cases h
      · rename_i hu
        cases h
        rw [hu] at hlt
        have : yielded ops a.tmps j = none := by
          rw [hy]
          cases hc : a.tmps[t]? with
          | none => rfl
          | some z =>
            rcases ha.2 t z hc with h' | h'
            · rw [h'] at hlt; cases hlt
            · rw [h', hlt]; rfl
        rw [this]; rfl
      · cases h

theorem looks_operand {t : Nat} (h : Operand.tmp t ∈ o.op.operands.toList) : t ∈ o.looksAt ops := by
  refine List.mem_append_left _ (List.mem_filterMap.2 ⟨_, h, rfl⟩)

theorem stepOp_sound [Outer] (hN : ∀ (f : Nat) (fn : Func), P.funcs[f]? = some fn → (fn.name == "runtime.NumGoroutine") = false) (hC : CalleeOk P ρ callee) (hasm : Asm.den ρ asm)
    (h : stepOp P cfg asm callee ops st o = .ok r evs) (hev : Holds P ρ evs) {tm' : List SW} {mm' : Nat → Option MB} {a : Act} (hlook : ∀ t ∈ o.looksAt ops, look tm' t = look st.tmps t)
    (hmem : ∀ b ∈ r.fp, mm' b = find b st.mem) (hwhole : r.whole = true → mm' = fun i => find i st.mem)
    (hft : ∀ t, ∀ i ∈ (look tm' t).ids, r.old i) (hfm : ∀ i m, mm' i = some m → r.old i ∧ ∀ j ∈ m.ids, r.old j)
    (ha : Trel ρ β tm' a.tmps) (hM : Mrel ρ β inh w0 mm' w) :
    (Region.wanted o (yielded ops a.tmps) = true ∧ ∀ (next : Act → World → Prop) (Q : Exit → Act → World → Prop), (∀ v w' β', (∀ i, r.old i → β' i = β i) → v = r.val.den ρ β' → Mrel ρ β' inh w0 (setFs mm' r.upd) w' → next (a.put o.dst v) w') → o.wp P a w next Q)
    ∨ (Region.wanted o (yielded ops a.tmps) = false ∧ r.val = .undef ∧ r.upd = []) := by
  unfold stepOp at h
  obtain ⟨wnt, e1, e2, h1, h2, rfl⟩ := R.bind_ok h
  have hw := wantedS_eq (β := β) hasm h1 ha hlook
  rw [hw]
  cases wnt with
  | false =>
    simp only at h2
    cases h2
    exact .inr ⟨rfl, rfl, rfl⟩
  | true =>
    refine .inl ⟨rfl, ?_⟩
    simp only at h2
    split at h2
    · cases h2
    · rename_i args hargs
      have hops : ∀ t, Operand.tmp t ∈ o.op.operands.toList → look tm' t = look st.tmps t := fun t ht => hlook t (looks_operand ht)
      have hden := opnds_den ha hargs hops
      split at h2
      · rename_i f as1 hinl
        unfold stepInl at h2
        obtain ⟨ret, e3, e4, h3, h4, rfl⟩ := R.bind_ok h2
        split at h4
        · rename_i hb
          cases h4
          simp only [Bool.and_eq_true] at hb
          have hmm := hwhole rfl
          subst hmm
          obtain ⟨fn, hfn, hbody, hcalls⟩ := hC f as1 st.mem st.nx st.nv ret e3 h3 (fun e he => hev e (by simp [he])) β inh w0 w hM
          unfold inlineOf at hinl
          split at hinl
          · rename_i fo cargs argTypes f' caps rest hop
            split at hinl
            · cases hinl
              rw [hop] at hden
              have ex : a.eval fo = Value.func (.func f) #[] (caps.map fun c => Value.pointer (some ⟨β c.1, c.2, none⟩)).toArray ∧ cargs.toList.map a.eval = rest.map (·.den ρ β) := by
                simpa [Op.operands, Call.operands, SW.den, SV.den, Cell.den] using hden
              have hca : cargs.map a.eval = (rest.map (·.den ρ β)).toArray := by
                apply Array.toList_inj.1
                rw [Array.toList_map, ex.2]
              have hall : denT ρ β (rest ++ (capsV caps).map .one) = (rest.map (·.den ρ β)).toArray ++ (caps.map fun c => Value.pointer (some ⟨β c.1, c.2, none⟩)).toArray := by
                have e : (List.map SW.one (capsV caps)).map (·.den ρ β) = caps.map fun c => Value.pointer (some ⟨β c.1, c.2, none⟩) := by
                  rw [List.map_map]; exact capsV_den caps
                simp only [denT, List.map_append, e]
                simp
              intro next Q hK
              unfold Oper.wp execOp
              simp only [hop, resolve, Deferred.ofValue, ex.1, hca, Sem.run_bind, Sem.run_pure, Result.andThen_ok, invoke, Array.empty_append, names_pure P hN hfn hbody, Oper.upon_enter]
              rw [← hall]
              refine hcalls.mono fun e w' ⟨β', hβ, he, hm⟩ => ?_
              subst he
              refine hK _ _ β' (fun i hi => hβ i ?_) rfl ?_
              · rcases hi with hi | hi
                · exact hi
                · exact absurd hi.1 (by simp)
              · rw [setFs_over hb.1.2 hb.2]; exact hm
            · cases hinl
          · rename_i fo cargs argTypes f' bs rest hop
            split at hinl
            · cases hinl
              rw [hop] at hden
              have ex : a.eval fo = Value.func (.func f) #[.agg (densB ρ bs).toArray] #[] ∧ cargs.toList.map a.eval = rest.map (·.den ρ β) := by
                simpa [Op.operands, Call.operands, SW.den, SV.den, Cell.den] using hden
              have hca : cargs.map a.eval = (rest.map (·.den ρ β)).toArray := by
                apply Array.toList_inj.1
                rw [Array.toList_map, ex.2]
              have hall : denT ρ β (SW.one (.agg (bs.map BP.toP)) :: rest) = #[.agg (densB ρ bs).toArray] ++ (rest.map (·.den ρ β)).toArray ++ #[] := by
                simp [denT, SW.den, SV.den, bps_den]
              intro next Q hK
              unfold Oper.wp execOp
              simp only [hop, resolve, Deferred.ofValue, ex.1, hca, Sem.run_bind, Sem.run_pure, Result.andThen_ok, invoke, names_pure P hN hfn hbody, Oper.upon_enter]
              rw [← hall]
              refine hcalls.mono fun e w' ⟨β', hβ, he, hm⟩ => ?_
              subst he
              refine hK _ _ β' (fun i hi => hβ i ?_) rfl ?_
              · rcases hi with hi | hi
                · exact hi
                · exact absurd hi.1 (by simp)
              · rw [setFs_over hb.1.2 hb.2]; exact hm
            · cases hinl
          · cases hinl
        · cases h4
      · unfold stepLoc at h2
        obtain ⟨res, e3, e4, h3, h4, rfl⟩ := R.bind_ok h2
        have hev3 : Holds P ρ e3 := fun e he => hev e (by simp [he])
        have key : r.fp = acc cfg o.op args ∧ r.val = res.val ∧ r.upd = res.upd ∧ r.whole = false ∧ (∀ i, r.old i → i ∉ res.news) := by
          split at h4
          · rename_i hn
            cases h4
            refine ⟨rfl, rfl, rfl, rfl, fun i _ => by rw [hn]; simp⟩
          · rename_i n ns hn
            split at h4
            · cases h4
              refine ⟨rfl, rfl, rfl, rfl, fun i hi hm => ?_⟩
              have := opLoc_news h3 i hm
              rw [hn] at this
              rcases hi with hi | hi
              · exact absurd hi (Nat.not_lt.2 this.1)
              · exact absurd hi.2 (Nat.not_le.2 this.2)
            · cases h4
        obtain ⟨k1, k2, k3, k4, k5⟩ := key
        have hfetch : (acc cfg o.op args).map (fun i => find i st.mem) = (acc cfg o.op args).map mm' := List.map_congr_left fun b hb => (hmem b (by rw [k1]; exact hb)).symm
        rw [hfetch] at h3
        have hy := opLoc_sound (P := P) (β := β) (w := w) (inh := inh) (w0 := w0) hN hasm hev3 hM (fun i m hm => ⟨k5 i (hfm i m hm).1, fun j hj => k5 j ((hfm i m hm).2 j hj)⟩) (fun x hx i hi hxi => by
            obtain ⟨t, ht⟩ := opnds_ids hargs hops x hx _ hxi
            exact k5 i (hft t i ht) hi) hden h3
        intro next Q hK
        refine hy next Q fun v w' β' hβ hv hm => hK v w' β' (fun i hi => hβ i (k5 i hi)) (by rw [k2]; exact hv) (by rw [k3]; exact hm)
end
end Go.Proofs.Ytlccefdjhiedcaa.Sx
end
section
namespace Go.Proofs.Ytlccefdjhiedcaa.Sx
open Go.RowKit

section
variable {P : Program} {ρ : Nat → Value} {inh : List Nat} {w0 : World} {cfg : Cfg} {asm : Asm} {callee : Callee} {ops : Array Oper}

theorem step_bound {st : St} {o : Oper} {r : Rec} {evs : List Ev} (h : stepOp P cfg asm callee ops st o = .ok r evs) : r.lo = st.nx ∧ ((r.whole = false ∧ r.hi = r.lo) ∨ boundS st = true) := by
  unfold stepOp at h
  obtain ⟨wnt, e1, e2, h1, h2, rfl⟩ := R.bind_ok h
  cases wnt with
  | false => simp only at h2; cases h2; exact ⟨rfl, .inl ⟨rfl, rfl⟩⟩
  | true =>
    simp only at h2
    split at h2
    · cases h2
    · split at h2
      · unfold stepInl at h2
        obtain ⟨ret, e3, e4, h3, h4, rfl⟩ := R.bind_ok h2
        split at h4
        · rename_i hb; cases h4
          simp only [Bool.and_eq_true] at hb
          exact ⟨rfl, .inr hb.1.1⟩
        · cases h4
      · unfold stepLoc at h2
        obtain ⟨res, e3, e4, h3, h4, rfl⟩ := R.bind_ok h2
        split at h4
        · cases h4; exact ⟨rfl, .inl ⟨rfl, rfl⟩⟩
        · split at h4
          · rename_i hb; cases h4; exact ⟨rfl, .inr hb⟩
          · cases h4
theorem step_dst {st : St} {o : Oper} {r : Rec} {evs : List Ev} (h : stepOp P cfg asm callee ops st o = .ok r evs) : r.dst = o.dst ∧ r.looks = o.looksAt ops := by
  unfold stepOp at h
  obtain ⟨wnt, e1, e2, h1, h2, rfl⟩ := R.bind_ok h
  cases wnt with
  | false => simp only at h2; cases h2; exact ⟨rfl, rfl⟩
  | true =>
    simp only at h2
    split at h2
    · cases h2
    · split at h2
      · unfold stepInl at h2
        obtain ⟨ret, e3, e4, h3, h4, rfl⟩ := R.bind_ok h2
        split at h4
        · cases h4; exact ⟨rfl, rfl⟩
        · cases h4
      · unfold stepLoc at h2
        obtain ⟨res, e3, e4, h3, h4, rfl⟩ := R.bind_ok h2
        split at h4
        · cases h4; exact ⟨rfl, rfl⟩
        · split at h4
          · cases h4; exact ⟨rfl, rfl⟩
          · cases h4
theorem step_old [Outer] {st : St} {o : Oper} {r : Rec} {evs : List Ev} (h : stepOp P cfg asm callee ops st o = .ok r evs) :
    (∀ t, ∀ i ∈ (look st.tmps t).ids, r.old i) ∧ (∀ i m, find i st.mem = some m → r.old i ∧ ∀ j ∈ m.ids, r.old j) := by
  obtain ⟨hlo, hb⟩ := step_bound h
  rcases hb with ⟨h1, h2⟩ | hb
  · have : ∀ i, r.old i := fun i => by
      unfold Rec.old
      rcases Nat.lt_or_ge i r.lo with h | h
      · exact .inl h
      · exact .inr ⟨h1, by omega⟩
    exact ⟨fun _ i _ => this i, fun i m _ => ⟨this i, fun j _ => this j⟩⟩
  · simp only [boundS, Bool.and_eq_true] at hb
    refine ⟨fun t i hi => .inl (by rw [hlo]; exact boundT_look hb.1 t i hi), fun i m hf => ?_⟩
    obtain ⟨h1, h2⟩ := boundM_find hb.2 i m hf
    exact ⟨.inl (by rw [hlo]; exact h1), fun j hj => .inl (by rw [hlo]; exact h2 j hj)⟩

theorem step_rel [Outer] (hN : ∀ (f : Nat) (fn : Func), P.funcs[f]? = some fn → (fn.name == "runtime.NumGoroutine") = false) (hC : CalleeOk P ρ callee) (hasm : Asm.den ρ asm) {β : Nat → Nat} {st : St} {o : Oper} {r : Rec} {evs : List Ev}
    (h : stepOp P cfg asm callee ops st o = .ok r evs) (hev : Holds P ρ evs) {a : Act} {w : World} (hR : Rel ρ β inh w0 st a w) {K : Act → World → Prop} {Q : Exit → Act → World → Prop}
    (hK : ∀ β' a' w', (∀ i, i < st.nx → β' i = β i) → Rel ρ β' inh w0 (st.after r) a' w' → K a' w') :
    if Region.wanted o (yielded ops a.tmps) then o.wp P a w K Q else K (a.put o.dst undef) w := by
  obtain ⟨ha, hd, hM⟩ := hR
  obtain ⟨ho1, ho2⟩ := step_old h
  obtain ⟨hdst, hlooks⟩ := step_dst h
  have hlo := (step_bound h).1
  have hs := stepOp_sound hN hC hasm h hev (a := a) (tm' := st.tmps) (mm' := fun i => find i st.mem) (fun _ _ => rfl) (fun _ _ => rfl) (fun _ => rfl) ho1 ho2 ha hM
  have hdef : ∀ (v : Value), (a.put o.dst v).defers = [] := fun v => by cases o.dst <;> exact hd
  rcases hs with ⟨hw, hs⟩ | ⟨hw, hv, hu⟩
  · rw [if_pos hw]
    refine hs K Q fun v w' β' hβ hv hm => hK β' _ w' (fun i hi => hβ i (.inl (by rw [hlo]; exact hi))) ⟨?_, hdef v, ?_⟩
    · simp only [St.after, hdst]
      exact (ha.names fun t i hi => hβ i (ho1 t i hi)).put o.dst r.val hv
    · simp only [St.after]
      rw [find_putMs]; exact hm
  · rw [if_neg (by rw [hw]; exact Bool.false_ne_true)]
    refine hK β _ w (fun _ _ => rfl) ⟨?_, hdef undef, ?_⟩
    · simp only [St.after, hdst]
      rw [hv]
      exact ha.put o.dst .undef rfl
    · simp only [St.after]
      rw [find_putMs, hu]; exact hM

theorem after_nx {st : St} {r : Rec} : (st.after r).nx = r.hi := rfl

def CalleeUp (callee : Callee) : Prop := ∀ f args mem nx nv ret evs, callee f args mem nx nv = .ok ret evs → nx ≤ ret.nx

theorem step_up (hU : CalleeUp callee) {st : St} {o : Oper} {r : Rec} {evs : List Ev} (h : stepOp P cfg asm callee ops st o = .ok r evs) : st.nx ≤ r.hi := by
  unfold stepOp at h
  obtain ⟨wnt, e1, e2, h1, h2, rfl⟩ := R.bind_ok h
  cases wnt with
  | false => simp only at h2; cases h2; exact Nat.le_refl _
  | true =>
    simp only at h2
    split at h2
    · cases h2
    · split at h2
      · unfold stepInl at h2
        obtain ⟨ret, e3, e4, h3, h4, rfl⟩ := R.bind_ok h2
        split at h4
        · cases h4; exact hU _ _ _ _ _ _ _ h3
        · cases h4
      · unfold stepLoc at h2
        obtain ⟨res, e3, e4, h3, h4, rfl⟩ := R.bind_ok h2
        split at h4
        · cases h4; exact Nat.le_refl _
        · split at h4
          · cases h4; exact Nat.le_add_right _ _
          · cases h4
theorem runOps_up [Outer] (hU : CalleeUp callee) : ∀ {os : List Oper} {st : St} {x : St × List Rec} {evs : List Ev}, runOps P cfg asm callee ops os st = .ok x evs → st.nx ≤ x.1.nx
  | [], st, x, evs, h => by cases h; exact Nat.le_refl _
  | o :: os, st, x, evs, h => by
    simp only [runOps] at h
    obtain ⟨r, e1, e2, h1, h2, rfl⟩ := R.bind_ok h
    obtain ⟨y, e3, e4, h3, h4, rfl⟩ := R.bind_ok h2
    cases h4
    have := runOps_up hU h3
    have h' := step_up hU h1
    simp only [after_nx] at this
    show st.nx ≤ y.1.nx
    omega

theorem runOps_list [Outer] (hN : ∀ (f : Nat) (fn : Func), P.funcs[f]? = some fn → (fn.name == "runtime.NumGoroutine") = false) (hC : CalleeOk P ρ callee) (hU : CalleeUp callee) (hasm : Asm.den ρ asm) {Q : Exit → Act → World → Prop} :
    ∀ {os : List Oper} {st : St} {x : St × List Rec} {evs : List Ev}, runOps P cfg asm callee ops os st = .ok x evs → Holds P ρ evs → ∀ {β : Nat → Nat} {a : Act} {w : World}, Rel ρ β inh w0 st a w →
    (∀ β' a' w', (∀ i, i < st.nx → β' i = β i) → Rel ρ β' inh w0 x.1 a' w' → Q .normal a' w') → wpList P ops Q os a w
  | [], st, x, evs, h, _, β, a, w, hR, hQ => by cases h; exact hQ β a w (fun _ _ => rfl) hR
  | o :: os, st, x, evs, h, hev, β, a, w, hR, hQ => by
    simp only [runOps] at h
    obtain ⟨r, e1, e2, h1, h2, rfl⟩ := R.bind_ok h
    obtain ⟨y, e3, e4, h3, h4, rfl⟩ := R.bind_ok h2
    cases h4
    refine wpList_step fun K hK => step_rel hN hC hasm h1 (fun e he => hev e (by simp [he])) hR fun β' a' w' hβ hR' => hK _ _ ?_
    refine runOps_list hN hC hU hasm h3 (fun e he => hev e (by simp [he])) hR' fun β'' a'' w'' hβ' hR'' => hQ β'' a'' w'' (fun i hi => ?_) hR''
    have := step_up hU h1
    rw [hβ' i (by rw [after_nx]; omega), hβ i hi]
end
end Go.Proofs.Ytlccefdjhiedcaa.Sx
end
section
namespace Go.Proofs.Ytlccefdjhiedcaa.Sx
open Go.RowKit

def Closed (ops : Array Oper) (listed : Array Bool) : Prop :=
  listed.size = ops.size ∧ ∀ j oj, ops[j]? = some oj → listed.getD j false = true → ∀ e ∈ oj.after, Region.binds .any e = true → listed.getD e.on false = true
theorem Closed.set {ops : Array Oper} {listed : Array Bool} {i : Nat} (h : Closed ops listed) (hi : i ∈ Region.ready .any ops listed) : Closed ops (listed.setIfInBounds i true) := by
  obtain ⟨_, oi, hoi, hall⟩ := mem_ready.1 hi
  refine ⟨by simp [h.1], fun j oj hj hl e he hb => ?_⟩
  by_cases hij : i = j
  · subst hij
    have : oj = oi := Option.some.inj (hj.symm.trans hoi)
    subst this
    exact getD_set_true (hall e he hb)
  · rw [getD_set_ne false hij] at hl
    exact getD_set_true (h.2 j oj hj hl e he hb)

def maskOf (masks : List Nat) : List Edge → Nat
  | [] => 0
  | e :: es => match Region.binds .any e with
    | true => Nat.lor (Nat.lor (Nat.pow 2 e.on) (masks.getD e.on 0)) (maskOf masks es)
    | false => maskOf masks es
def masksOf : List Oper → List Nat → List Nat
  | [], acc => acc
  | o :: os, acc => masksOf os (acc ++ [maskOf acc o.after.toList])
def forward : List Oper → Nat → Bool
  | [], _ => true
  | o :: os, k => o.after.toList.all (fun e => !Region.binds .any e || Nat.blt e.on k) && forward os (k + 1)
theorem maskOf_bit {masks : List Nat} {j : Nat} : ∀ {es : List Edge}, (maskOf masks es).testBit j = true → ∃ e ∈ es, Region.binds .any e = true ∧ (j = e.on ∨ (masks.getD e.on 0).testBit j = true)
  | [], h => by simp [maskOf] at h
  | e :: es, h => by
    simp only [maskOf] at h
    split at h
    · rename_i hb
      have h : ((2 ^ e.on ||| masks.getD e.on 0) ||| maskOf masks es).testBit j = true := h
      rw [Nat.testBit_or, Nat.testBit_or, Bool.or_eq_true, Bool.or_eq_true, Nat.testBit_two_pow] at h
      rcases h with (h | h) | h
      · exact ⟨e, .head _, hb, .inl (by simpa using (of_decide_eq_true h).symm)⟩
      · exact ⟨e, .head _, hb, .inr h⟩
      · obtain ⟨e', he, h'⟩ := maskOf_bit h
        exact ⟨e', .tail _ he, h'⟩
    · obtain ⟨e', he, h'⟩ := maskOf_bit h
      exact ⟨e', .tail _ he, h'⟩
def MaskOk (ops : Array Oper) (masks : List Nat) : Prop :=
  ∀ (k m : Nat), masks[k]? = some m → ∀ listed, Closed ops listed → (∀ ok : Oper, ops[k]? = some ok → ∀ e ∈ ok.after, Region.binds .any e = true → listed.getD e.on false = true) → ∀ j, m.testBit j = true → listed.getD j false = true
theorem masksOf_ok [Outer] (ops : Array Oper) : ∀ (os : List Oper) (acc : List Nat), (∀ j, os[j]? = ops[acc.length + j]?) → MaskOk ops acc → MaskOk ops (masksOf os acc)
  | [], acc, _, h => h
  | o :: os, acc, ho, h => by
    have h0 : ops[acc.length]? = some o := by simpa using (ho 0).symm
    refine masksOf_ok ops os _ (fun j => by have := ho (j + 1); simp only [List.length_append, List.length_singleton]; rw [Nat.add_right_comm] at *; simpa [Nat.add_assoc, Nat.add_comm 1 j] using this) ?_
    intro k m hk listed hc hp j hj
    by_cases hlt : k < acc.length
    · rw [List.getElem?_append_left hlt] at hk
      exact h k m hk listed hc hp j hj
    · rw [List.getElem?_append_right (by omega)] at hk
      have hk0 : k = acc.length := by
        have := (List.getElem?_eq_some_iff.1 hk).1
        simp at this; omega
      subst hk0
      simp at hk
      subst hk
      obtain ⟨e, he, hb, hor⟩ := maskOf_bit hj
      have hl := hp o h0 e (by simpa using he) hb
      rcases hor with rfl | hbit
      · exact hl
      · cases hm : acc[e.on]? with
        | none => rw [List.getD_eq_getElem?_getD, hm] at hbit; simp at hbit
        | some m' =>
          rw [List.getD_eq_getElem?_getD, hm] at hbit
          exact h e.on m' hm listed hc (fun ok hok e' he' hb' => hc.2 e.on ok hok hl e' he' hb') j hbit

def foldT (p : Nat → Bool) : Nat → List Rec → List SW → List SW
  | _, [], tm => tm
  | k, r :: rs, tm => foldT p (k + 1) rs (if p k then putT r.dst r.val tm else tm)
def foldM (p : Nat → Bool) : Nat → List Rec → (Nat → Option MB) → Nat → Option MB
  | _, [], mm => mm
  | k, r :: rs, mm => foldM p (k + 1) rs (if p k then setFs mm r.upd else mm)
theorem foldT_length (p : Nat → Bool) : ∀ (k : Nat) (rs : List Rec) (tm : List SW), (foldT p k rs tm).length = tm.length
  | _, [], _ => rfl
  | k, r :: rs, tm => by
    simp only [foldT, foldT_length p (k + 1) rs]
    split
    · exact putT_length _ _ _
    · rfl
theorem look_put_congr [Outer] {dst : Option Nat} {v : SW} {l l' : List SW} {t : Nat} (hl : l.length = l'.length) (h : dst ≠ some t → look l t = look l' t) (h' : dst = some t → l.length ≤ t → look l t = look l' t) : look (putT dst v l) t = look (putT dst v l') t := by
  by_cases hd : dst = some t
  · subst hd
    rcases Nat.lt_or_ge t l.length with ht | ht
    · rw [look_putT_self ht, look_putT_self (by omega)]
    · have e1 : look (putT (some t) v l) t = .undef := by simp [putT, look_get, ht]
      have e2 : look (putT (some t) v l') t = .undef := by rw [hl] at ht; simp [putT, look_get, ht]
      rw [e1, e2]
  · rw [look_putT_ne hd, look_putT_ne hd, h hd]
theorem foldT_look [Outer] {p q : Nat → Bool} {t : Nat} : ∀ {k : Nat} {rs : List Rec} {tm tm' : List SW}, (∀ i r, rs[i]? = some r → r.dst = some t → p (k + i) = q (k + i)) → tm.length = tm'.length → look tm t = look tm' t →
    look (foldT p k rs tm) t = look (foldT q k rs tm') t
  | k, [], tm, tm', _, _, h => h
  | k, r :: rs, tm, tm', hpq, hl, h => by
    simp only [foldT]
    refine foldT_look (fun i r' hr hd => by have := hpq (i + 1) r' (by simpa using hr) hd; rwa [show k + (i + 1) = k + 1 + i by omega] at this) ?_ ?_
    · split <;> split <;> simp [putT_length, hl]
    · by_cases hd : r.dst = some t
      · have := hpq 0 r (by simp) hd
        simp only [Nat.add_zero] at this
        rw [this]
        split
        · exact look_put_congr hl (fun _ => h) (fun _ _ => h)
        · exact h
      · split <;> split <;> simp only [look_putT_ne hd, h]
theorem setFs_congr : ∀ {upd : Mem} {g g' : Nat → Option MB} {b : Nat}, (b ∉ upd.map (·.1) → g b = g' b) → setFs g upd b = setFs g' upd b
  | [], g, g', b, h => h (by simp)
  | (i, m) :: upd, g, g', b, h => by
    simp only [setFs]
    refine setFs_congr fun hb => ?_
    unfold setF
    split
    · rfl
    · rename_i hi; exact h (by simp [hi]; simpa using hb)
theorem setFs_out : ∀ {upd : Mem} {g : Nat → Option MB} {b : Nat}, b ∉ upd.map (·.1) → setFs g upd b = g b
  | [], g, b, _ => rfl
  | (i, m) :: upd, g, b, h => by
    simp only [List.map_cons, List.mem_cons, not_or] at h
    simp only [setFs]
    rw [setFs_out h.2]
    simp [setF, h.1]
theorem foldM_congr [Outer] {p q : Nat → Bool} {b : Nat} : ∀ {k : Nat} {rs : List Rec} {mm mm' : Nat → Option MB}, (∀ i r, rs[i]? = some r → b ∈ r.upd.map (·.1) → p (k + i) = q (k + i)) → mm b = mm' b → foldM p k rs mm b = foldM q k rs mm' b
  | k, [], mm, mm', _, h => h
  | k, r :: rs, mm, mm', hpq, h => by
    simp only [foldM]
    refine foldM_congr (fun i r' hr hd => by have := hpq (i + 1) r' (by simpa using hr) hd; rwa [show k + (i + 1) = k + 1 + i by omega] at this) ?_
    by_cases hb : b ∈ r.upd.map (·.1)
    · have := hpq 0 r (by simp) hb
      simp only [Nat.add_zero] at this
      rw [this]
      split
      · exact setFs_congr fun h' => absurd hb h'
      · exact h
    · split <;> split <;> simp only [setFs_out hb, h]
theorem foldT_last [Outer] {p : Nat → Bool} {t : Nat} : ∀ {k : Nat} {rs : List Rec} {tm : List SW} {j : Nat} {rj : Rec}, rs[j]? = some rj → rj.dst = some t → p (k + j) = true → (∀ i r, j < i → rs[i]? = some r → r.dst = some t → p (k + i) = false) → t < tm.length →
    look (foldT p k rs tm) t = rj.val
  | k, [], tm, j, rj, h, _, _, _, _ => by simp at h
  | k, r :: rs, tm, 0, rj, h, hd, hp, hl, ht => by
    simp at h
    subst h
    simp only [foldT]
    simp only [Nat.add_zero] at hp
    rw [hp, if_pos rfl]
    have : ∀ i r', rs[i]? = some r' → r'.dst = some t → p (k + 1 + i) = (fun _ => false) (k + 1 + i) := fun i r' hr hd' => by
      have := hl (i + 1) r' (by omega) (by simpa using hr) hd'
      rwa [show k + (i + 1) = k + 1 + i by omega] at this
    rw [foldT_look (q := fun _ => false) this rfl rfl]
    have hno : ∀ (k : Nat) (rs : List Rec) (tm : List SW), foldT (fun _ => false) k rs tm = tm := by
      intro k rs
      induction rs generalizing k with
      | nil => intro tm; rfl
      | cons x xs ih => intro tm; simp [foldT, ih]
    rw [hno, hd, look_putT_self ht]
  | k, r :: rs, tm, j + 1, rj, h, hd, hp, hl, ht => by
    simp only [foldT]
    refine foldT_last (j := j) (by simpa using h) hd (by rwa [show k + (j + 1) = k + 1 + j by omega] at hp) (fun i r' hi hr hd' => by have := hl (i + 1) r' (by omega) (by simpa using hr) hd'; rwa [show k + (i + 1) = k + 1 + i by omega] at this) ?_
    split
    · rw [putT_length]; exact ht
    · exact ht
theorem foldM_last [Outer] {p : Nat → Bool} {b : Nat} : ∀ {k : Nat} {rs : List Rec} {mm : Nat → Option MB} {j : Nat} {rj : Rec}, rs[j]? = some rj → b ∈ rj.upd.map (·.1) → p (k + j) = true → (∀ i r, j < i → rs[i]? = some r → b ∈ r.upd.map (·.1) → p (k + i) = false) →
    ∀ g, foldM p k rs mm b = setFs g rj.upd b
  | k, [], mm, j, rj, h, _, _, _, g => by simp at h
  | k, r :: rs, mm, 0, rj, h, hd, hp, hl, g => by
    simp at h
    subst h
    simp only [foldM]
    simp only [Nat.add_zero] at hp
    rw [hp, if_pos rfl]
    have : ∀ i r', rs[i]? = some r' → b ∈ r'.upd.map (·.1) → p (k + 1 + i) = (fun _ => false) (k + 1 + i) := fun i r' hr hd' => by
      have := hl (i + 1) r' (by omega) (by simpa using hr) hd'
      rwa [show k + (i + 1) = k + 1 + i by omega] at this
    rw [foldM_congr (q := fun _ => false) this rfl]
    have hno : ∀ (k : Nat) (rs : List Rec) (mm : Nat → Option MB), foldM (fun _ => false) k rs mm = mm := by
      intro k rs
      induction rs generalizing k with
      | nil => intro mm; rfl
      | cons x xs ih => intro mm; simp [foldM, ih]
    rw [hno]
    exact setFs_congr fun h' => absurd hd h'
  | k, r :: rs, mm, j + 1, rj, h, hd, hp, hl, g => by
    simp only [foldM]
    exact foldM_last (j := j) (by simpa using h) hd (by rwa [show k + (j + 1) = k + 1 + j by omega] at hp) (fun i r' hi hr hd' => by have := hl (i + 1) r' (by omega) (by simpa using hr) hd'; rwa [show k + (i + 1) = k + 1 + i by omega] at this) g
theorem foldT_none {k : Nat} {rs : List Rec} {tm : List SW} {p : Nat → Bool} (h : ∀ i, i < rs.length → p (k + i) = false) : foldT p k rs tm = tm := by
  induction rs generalizing k with
  | nil => rfl
  | cons r rs ih =>
    have h0 := h 0 (by simp)
    simp only [Nat.add_zero] at h0
    simp only [foldT, h0, Bool.false_eq_true, if_false]
    exact ih fun i hi => by rw [show k + 1 + i = k + (i + 1) by omega]; exact h (i + 1) (by simp; omega)
theorem foldM_none {k : Nat} {rs : List Rec} {mm : Nat → Option MB} {p : Nat → Bool} (h : ∀ i, i < rs.length → p (k + i) = false) : foldM p k rs mm = mm := by
  induction rs generalizing k with
  | nil => rfl
  | cons r rs ih =>
    have h0 := h 0 (by simp)
    simp only [Nat.add_zero] at h0
    simp only [foldM, h0, Bool.false_eq_true, if_false]
    exact ih fun i hi => by rw [show k + 1 + i = k + (i + 1) by omega]; exact h (i + 1) (by simp; omega)
end Go.Proofs.Ytlccefdjhiedcaa.Sx
end
section
namespace Go.Proofs.Ytlccefdjhiedcaa.Sx
open Go.RowKit

def interN : List Nat → List Nat → Bool
  | [], _ => false
  | i :: l, m => memN i m || interN l m
def keysOf : Mem → List Nat
  | [] => []
  | (i, _) :: l => i :: keysOf l
def idsM : Mem → List Nat
  | [] => []
  | (i, some m) :: l => i :: (m.ids ++ idsM l)
  | (_, none) :: l => idsM l
def dstIn (d : Option Nat) (l : List Nat) : Bool :=
  match d with
  | some t => memN t l
  | none => false
def depR (r s : Rec) : Bool :=
  dstIn r.dst s.looks || dstIn s.dst r.looks || dstIn r.dst s.dst.toList || interN (keysOf r.upd) s.fp || interN (keysOf s.upd) r.fp || interN (keysOf r.upd) (keysOf s.upd) || r.whole || s.whole
def inSpan (lo hi : Nat) : List Nat → Bool
  | [] => false
  | i :: l => (Nat.ble lo i && Nat.blt i hi) || inSpan lo hi l
def mentions (r s : Rec) : Bool := inSpan r.lo r.hi (s.val.ids ++ idsM s.upd)
def pairOk (i : Nat) (r s : Rec) (m : Nat) : Bool := (Nat.testBit m i || !(depR r s || mentions r s)) && !mentions s r
def checkPairs (recs : List Rec) (masks : List Nat) (n : Nat) : Bool :=
  (List.range n).all fun j => (List.range j).all fun i =>
    match recs[i]?, recs[j]?, masks[j]? with
    | some r, some s, some m => pairOk i r s m
    | _, _, _ => false
def checkRegion (ops : Array Oper) (st : St) (recs : List Rec) : Bool :=
  boundS st && forward ops.toList 0 && checkPairs recs (masksOf ops.toList []) ops.toList.length

theorem keysOf_eq : ∀ (m : Mem), keysOf m = m.map (·.1)
  | [] => rfl
  | (_, _) :: l => by simp [keysOf, keysOf_eq l]
theorem interN_iff {a b : List Nat} : interN a b = true ↔ ∃ i, i ∈ a ∧ i ∈ b := by
  induction a with
  | nil => simp [interN]
  | cons x l ih => simp [interN, memN_iff, ih]
theorem dstIn_iff {d : Option Nat} {l : List Nat} : dstIn d l = true ↔ ∃ t, d = some t ∧ t ∈ l := by
  cases d <;> simp [dstIn, memN_iff]
theorem inSpan_iff {lo hi : Nat} {l : List Nat} : inSpan lo hi l = true ↔ ∃ i ∈ l, lo ≤ i ∧ i < hi := by
  induction l with
  | nil => simp [inSpan]
  | cons x l ih => simp [inSpan, Nat.blt_eq, Nat.ble_eq, ih]
theorem idsM_mem {i : Nat} {m : MB} : ∀ {l : Mem}, (i, some m) ∈ l → i ∈ idsM l ∧ ∀ j ∈ m.ids, j ∈ idsM l
  | (k, some m') :: l, h => by
    rcases List.mem_cons.1 h with h | h
    · cases h
      exact ⟨by simp [idsM], fun j hj => by simp [idsM, hj]⟩
    · obtain ⟨h1, h2⟩ := idsM_mem h
      exact ⟨by simp [idsM, h1], fun j hj => by simp [idsM, h2 j hj]⟩
  | (k, none) :: l, h => by
    rcases List.mem_cons.1 h with h | h
    · cases h
    · obtain ⟨h1, h2⟩ := idsM_mem h
      exact ⟨by simp [idsM, h1], fun j hj => by simp [idsM, h2 j hj]⟩
  | [], h => by cases h

theorem foldT_shift {p : Nat → Bool} : ∀ {k : Nat} {rs : List Rec} {tm : List SW}, foldT p (k + 1) rs tm = foldT (fun i => p (i + 1)) k rs tm
  | _, [], _ => rfl
  | k, r :: rs, tm => by simp only [foldT]; exact foldT_shift
theorem foldM_shift {p : Nat → Bool} : ∀ {k : Nat} {rs : List Rec} {mm : Nat → Option MB}, foldM p (k + 1) rs mm = foldM (fun i => p (i + 1)) k rs mm
  | _, [], _ => rfl
  | k, r :: rs, tm => by simp only [foldM]; exact foldM_shift
theorem foldT_ids [Outer] {p : Nat → Bool} {t i : Nat} : ∀ {k : Nat} {rs : List Rec} {tm : List SW}, i ∈ (look (foldT p k rs tm) t).ids → i ∈ (look tm t).ids ∨ ∃ j r, rs[j]? = some r ∧ p (k + j) = true ∧ i ∈ r.val.ids
  | k, [], tm, h => .inl h
  | k, r :: rs, tm, h => by
    simp only [foldT] at h
    rcases foldT_ids h with h | ⟨j, r', h1, h2, h3⟩
    · split at h
      · rename_i hp
        by_cases hd : r.dst = some t
        · rcases Nat.lt_or_ge t tm.length with ht | ht
          · rw [hd, look_putT_self ht] at h
            exact .inr ⟨0, r, by simp, by simpa using hp, h⟩
          · have : look (putT (some t) r.val tm) t = .undef := by simp [putT, look_get, ht]
            rw [hd, this] at h
            cases h
        · rw [look_putT_ne hd] at h; exact .inl h
      · exact .inl h
    · exact .inr ⟨j + 1, r', by simpa using h1, by rwa [show k + 1 + j = k + (j + 1) by omega] at h2, h3⟩
theorem setFs_mem {i : Nat} {m : MB} : ∀ {upd : Mem} {g : Nat → Option MB}, setFs g upd i = some m → g i = some m ∨ (i, some m) ∈ upd
  | [], g, h => .inl h
  | (j, m') :: upd, g, h => by
    simp only [setFs] at h
    rcases setFs_mem h with h | h
    · unfold setF at h
      split at h
      · rename_i hij; cases h; subst hij; exact .inr (.head _)
      · exact .inl h
    · exact .inr (.tail _ h)
theorem foldM_ids [Outer] {p : Nat → Bool} {i : Nat} {m : MB} : ∀ {k : Nat} {rs : List Rec} {mm : Nat → Option MB}, foldM p k rs mm i = some m → mm i = some m ∨ ∃ j r, rs[j]? = some r ∧ p (k + j) = true ∧ (i, some m) ∈ r.upd
  | k, [], mm, h => .inl h
  | k, r :: rs, mm, h => by
    simp only [foldM] at h
    rcases foldM_ids h with h | ⟨j, r', h1, h2, h3⟩
    · split at h
      · rename_i hp
        rcases setFs_mem h with h | h
        · exact .inl h
        · exact .inr ⟨0, r, by simp, by simpa using hp, h⟩
      · exact .inl h
    · exact .inr ⟨j + 1, r', by simpa using h1, by rwa [show k + 1 + j = k + (j + 1) by omega] at h2, h3⟩
theorem ext_look {l l' : List SW} (hl : l.length = l'.length) (h : ∀ t, look l t = look l' t) : l = l' := by
  refine List.ext_getElem hl fun t h1 h2 => ?_
  have := h t
  rw [look_get, look_get] at this
  simpa [h1, h2] using this

section
variable {P : Program} {ρ : Nat → Value} {inh : List Nat} {w0 : World} {cfg : Cfg} {asm : Asm} {callee : Callee} {ops : Array Oper}

theorem runOps_at [Outer] (hU : CalleeUp callee) : ∀ {os : List Oper} {st : St} {x : St × List Rec} {evs : List Ev}, runOps P cfg asm callee ops os st = .ok x evs → ∀ k o, os[k]? = some o →
    ∃ r stk e, x.2[k]? = some r ∧ stepOp P cfg asm callee ops stk o = .ok r e ∧ (∀ y ∈ e, y ∈ evs) ∧ stk.tmps = foldT (fun i => decide (i < k)) 0 x.2 st.tmps ∧
      (fun i => find i stk.mem) = foldM (fun i => decide (i < k)) 0 x.2 (fun i => find i st.mem) ∧ st.nx ≤ stk.nx
  | [], st, x, evs, h, k, o, ho => by simp at ho
  | o' :: os, st, x, evs, h, k, o, ho => by
    simp only [runOps] at h
    obtain ⟨r, e1, e2, h1, h2, rfl⟩ := R.bind_ok h
    obtain ⟨y, e3, e4, h3, h4, rfl⟩ := R.bind_ok h2
    cases h4
    cases k with
    | zero =>
      simp at ho
      subst ho
      refine ⟨r, st, e1, by simp, h1, fun y hy => by simp [hy], ?_, ?_, Nat.le_refl _⟩
      · exact (foldT_none fun i _ => by simp).symm
      · exact (foldM_none fun i _ => by simp).symm
    | succ k =>
      obtain ⟨r', stk, e, k1, k2, k3, k4, k5, k6⟩ := runOps_at hU h3 k o (by simpa using ho)
      refine ⟨r', stk, e, by simpa using k1, k2, fun z hz => by simp [k3 z hz], ?_, ?_, ?_⟩
      · rw [k4]
        simp only [foldT, Nat.zero_lt_succ, decide_true, if_true, St.after]
        rw [foldT_shift]
        simp
      · rw [k5]
        simp only [foldM, Nat.zero_lt_succ, decide_true, if_true, St.after, find_putMs]
        rw [foldM_shift]
        simp
      · have := step_up hU h1
        simp only [after_nx] at k6
        omega
theorem runOps_end [Outer] : ∀ {os : List Oper} {st : St} {x : St × List Rec} {evs : List Ev}, runOps P cfg asm callee ops os st = .ok x evs →
    x.2.length = os.length ∧ x.1.tmps = foldT (fun _ => true) 0 x.2 st.tmps ∧ (fun i => find i x.1.mem) = foldM (fun _ => true) 0 x.2 (fun i => find i st.mem)
  | [], st, x, evs, h => by cases h; exact ⟨rfl, rfl, rfl⟩
  | o' :: os, st, x, evs, h => by
    simp only [runOps] at h
    obtain ⟨r, e1, e2, h1, h2, rfl⟩ := R.bind_ok h
    obtain ⟨y, e3, e4, h3, h4, rfl⟩ := R.bind_ok h2
    cases h4
    obtain ⟨k1, k2, k3⟩ := runOps_end h3
    refine ⟨by simp [k1], ?_, ?_⟩
    · show y.1.tmps = _
      rw [k2]; simp only [foldT, if_true, St.after]; rw [foldT_shift]
    · show (fun i => find i y.1.mem) = _
      rw [k3]; simp only [foldM, if_true, St.after, find_putMs]; rw [foldM_shift]

def Inv [Outer] (ρ : Nat → Value) (inh : List Nat) (w0 : World) (β0 : Nat → Nat) (st : St) (recs : List Rec) (listed : Array Bool) (a : Act) (w : World) : Prop :=
  ∃ β, (∀ i, i < st.nx → β i = β0 i) ∧ Trel ρ β (foldT (fun i => listed.getD i false) 0 recs st.tmps) a.tmps ∧ a.defers = [] ∧ Mrel ρ β inh w0 (foldM (fun i => listed.getD i false) 0 recs fun i => find i st.mem) w

theorem inv_step [Outer] (hN : ∀ (f : Nat) (fn : Func), P.funcs[f]? = some fn → (fn.name == "runtime.NumGoroutine") = false) (hC : CalleeOk P ρ callee) (hU : CalleeUp callee) (hasm : Asm.den ρ asm) {st : St} {x : St × List Rec} {evs : List Ev}
    (h : runOps P cfg asm callee ops ops.toList st = .ok x evs) (hev : Holds P ρ evs) (hchk : checkRegion ops st x.2 = true) {β0 : Nat → Nat} {listed : Array Bool} (hcl : Closed ops listed) {k : Nat} (hk : k ∈ Region.ready .any ops listed) {Q : Exit → Act → World → Prop} {a : Act} {w : World}
    (hI : Inv ρ inh w0 β0 st x.2 listed a w) : wpOp P ops Q k (Inv ρ inh w0 β0 st x.2 (listed.setIfInBounds k true)) a w := by
  obtain ⟨hun, o, ho, hpre⟩ := mem_ready.1 hk
  have hLk : listed.getD k false = false := getD_both hun
  have hklt : k < listed.size := by
    rw [hcl.1]; exact (Array.getElem?_eq_some_iff.1 ho).1
  obtain ⟨r, stk, e, hr, hstep, hsub, htm, hmm, hnx⟩ := runOps_at hU h k o (by simpa using ho)
  have hevk : Holds P ρ e := fun y hy => hev y (hsub y hy)
  simp only [checkRegion, Bool.and_eq_true] at hchk
  obtain ⟨⟨hb0, hfwd⟩, hpairs⟩ := hchk
  simp only [boundS, Bool.and_eq_true] at hb0
  have hlen := (runOps_end h).1
  have hmaskok : MaskOk ops (masksOf ops.toList []) := masksOf_ok ops ops.toList [] (by simp) (by intro k m hm; simp at hm)
  have hpair : ∀ i j ri rj, i < j → x.2[i]? = some ri → x.2[j]? = some rj → ∃ m, (masksOf ops.toList [])[j]? = some m ∧ pairOk i ri rj m = true := fun i j ri rj hij hi hj => by
    have hjl : j < ops.toList.length := by rw [← hlen]; exact (List.getElem?_eq_some_iff.1 hj).1
    have := List.all_eq_true.1 (List.all_eq_true.1 hpairs j (by simpa using hjl)) i (by simpa using hij)
    rw [hi, hj] at this
    split at this
    · rename_i ri' rj' m e1 e2 em
      cases e1; cases e2
      exact ⟨m, em, this⟩
    · cases this
  -- what is before, what is behind
  have hanc : ∀ j m, (masksOf ops.toList [])[k]? = some m → m.testBit j = true → listed.getD j false = true := fun j m hm hj =>
    hmaskok k m hm listed hcl (fun ok hok e he hb => by
      have : ok = o := Option.some.inj (hok.symm.trans ho)
      subst this; exact hpre e he hb) j hj
  have hdesc : ∀ j m, (masksOf ops.toList [])[j]? = some m → m.testBit k = true → listed.getD j false = false := fun j m hm hj => by
    cases hl : listed.getD j false with
    | false => rfl
    | true =>
      have := hmaskok j m hm listed hcl (fun ok hok e he hb => hcl.2 j ok hok hl e he hb) k hj
      rw [hLk] at this; cases this
  have hdep : ∀ i ri, i ≠ k → x.2[i]? = some ri → (depR ri r = true ∨ depR r ri = true) → listed.getD i false = decide (i < k) := fun i ri hne hi hd => by
    have hsym : depR ri r = true ∧ depR r ri = true := by
      have e : depR ri r = depR r ri := by
        have hi2 : ∀ a b : List Nat, interN a b = interN b a := fun a b => by rw [Bool.eq_iff_iff, interN_iff, interN_iff]; exact ⟨fun ⟨i, h⟩ => ⟨i, h.2, h.1⟩, fun ⟨i, h⟩ => ⟨i, h.2, h.1⟩⟩
        have hi3 : dstIn ri.dst r.dst.toList = dstIn r.dst ri.dst.toList := by
          rw [Bool.eq_iff_iff, dstIn_iff, dstIn_iff]
          cases ri.dst <;> cases r.dst <;> simp [eq_comm]
        unfold depR
        rw [hi3, hi2 (keysOf ri.upd) (keysOf r.upd)]
        cases dstIn ri.dst r.looks <;> cases dstIn r.dst ri.looks <;> cases dstIn r.dst ri.dst.toList <;> cases interN (keysOf ri.upd) r.fp <;> cases interN (keysOf r.upd) ri.fp <;> cases interN (keysOf r.upd) (keysOf ri.upd) <;> cases ri.whole <;> cases r.whole <;> rfl
      rcases hd with hd | hd
      · exact ⟨hd, by rw [← e]; exact hd⟩
      · exact ⟨by rw [e]; exact hd, hd⟩
    rcases Nat.lt_or_gt_of_ne hne with hlt | hgt
    · obtain ⟨m, hm, hp⟩ := hpair i k ri r hlt hi hr
      simp only [pairOk, Bool.and_eq_true, Bool.or_eq_true, Bool.not_eq_true'] at hp
      rcases hp.1 with hp | hp
      · rw [hanc i m hm hp]; simp [hlt]
      · rw [hsym.1] at hp; simp at hp
    · obtain ⟨m, hm, hp⟩ := hpair k i r ri hgt hr hi
      simp only [pairOk, Bool.and_eq_true, Bool.or_eq_true, Bool.not_eq_true'] at hp
      rcases hp.1 with hp | hp
      · rw [hdesc i m hm hp]; simp; omega
      · rw [hsym.2] at hp; simp at hp
  have hment : ∀ i ri, x.2[i]? = some ri → listed.getD i false = true → mentions r ri = false := fun i ri hi hl => by
    have hne : i ≠ k := fun e => by subst e; rw [hLk] at hl; cases hl
    rcases Nat.lt_or_gt_of_ne hne with hlt | hgt
    · obtain ⟨m, hm, hp⟩ := hpair i k ri r hlt hi hr
      simp only [pairOk, Bool.and_eq_true, Bool.not_eq_true'] at hp
      exact hp.2
    · obtain ⟨m, hm, hp⟩ := hpair k i r ri hgt hr hi
      simp only [pairOk, Bool.and_eq_true, Bool.or_eq_true, Bool.not_eq_true'] at hp
      rcases hp.1 with hp | hp
      · rw [hdesc i m hm hp] at hl; cases hl
      · simp at hp; exact hp.2
  obtain ⟨hdst, hlooks⟩ := step_dst hstep
  have hlo := (step_bound hstep).1
  obtain ⟨β, hβ, ha, hd, hM⟩ := hI
  -- where the operation looks, all is as1 in the order of the text
  have hlook : ∀ t ∈ o.looksAt ops, look (foldT (fun i => listed.getD i false) 0 x.2 st.tmps) t = look stk.tmps t := fun t ht => by
    rw [htm]
    refine foldT_look (fun i ri hi hdi => ?_) rfl rfl
    simp only [Nat.zero_add]
    by_cases hik : i = k
    · subst hik; rw [hLk]; simp
    · refine hdep i ri hik hi (.inl ?_)
      unfold depR
      have : dstIn ri.dst r.looks = true := dstIn_iff.2 ⟨t, hdi, by rw [hlooks]; exact ht⟩
      simp [this]
  have hmem : ∀ b ∈ r.fp, foldM (fun i => listed.getD i false) 0 x.2 (fun i => find i st.mem) b = find b stk.mem := fun b hb => by
    have this : find b stk.mem = _ := congrFun hmm b
    rw [this]
    refine foldM_congr (fun i ri hi hdi => ?_) rfl
    simp only [Nat.zero_add]
    by_cases hik : i = k
    · subst hik; rw [hLk]; simp
    · refine hdep i ri hik hi (.inl ?_)
      unfold depR
      have : interN (keysOf ri.upd) r.fp = true := interN_iff.2 ⟨b, by rw [keysOf_eq]; exact hdi, hb⟩
      simp [this]
  have hwl : r.whole = true → ∀ i ri, x.2[i]? = some ri → listed.getD i false = decide (i < k) := fun hw i ri hi => by
    by_cases hik : i = k
    · subst hik; rw [hLk]; simp
    · refine hdep i ri hik hi (.inl ?_)
      unfold depR
      simp [hw]
  have hwhole : r.whole = true → foldM (fun i => listed.getD i false) 0 x.2 (fun i => find i st.mem) = fun i => find i stk.mem := fun hw => by
    rw [hmm]
    funext b
    exact foldM_congr (fun i ri hi _ => by simp only [Nat.zero_add]; exact hwl hw i ri hi) rfl
  have hwholeT : r.whole = true → ∀ t, look (foldT (fun i => listed.getD i false) 0 x.2 st.tmps) t = look stk.tmps t := fun hw t => by
    rw [htm]
    exact foldT_look (fun i ri hi _ => by simp only [Nat.zero_add]; exact hwl hw i ri hi) rfl rfl
  obtain ⟨hold1, hold2⟩ := step_old hstep
  have hnew : r.whole = false → ∀ i, ¬ (r.lo ≤ i ∧ i < r.hi) → r.old i := fun hw i hi => by
    unfold Rec.old
    rcases Nat.lt_or_ge i r.lo with h | h
    · exact .inl h
    · exact .inr ⟨hw, Nat.le_of_not_lt fun hh => hi ⟨h, hh⟩⟩
  have hft : ∀ t, ∀ i ∈ (look (foldT (fun i => listed.getD i false) 0 x.2 st.tmps) t).ids, r.old i := fun t i hi => by
    cases hw : r.whole with
    | true => rw [hwholeT hw t] at hi; exact hold1 t i hi
    | false =>
      rcases foldT_ids hi with hi | ⟨j, rj, h1, h2, h3⟩
      · exact .inl (by rw [hlo]; exact Nat.lt_of_lt_of_le (boundT_look hb0.1 t i hi) hnx)
      · have hm := hment j rj h1 (by simpa using h2)
        refine hnew hw i fun hs => ?_
        have : mentions r rj = true := inSpan_iff.2 ⟨i, by simp [h3], hs⟩
        rw [hm] at this; cases this
  have hfm : ∀ i m, foldM (fun i => listed.getD i false) 0 x.2 (fun i => find i st.mem) i = some m → r.old i ∧ ∀ j ∈ m.ids, r.old j := fun i m hi => by
    cases hw : r.whole with
    | true => rw [hwhole hw] at hi; exact hold2 i m hi
    | false =>
      rcases foldM_ids hi with hi | ⟨j, rj, h1, h2, h3⟩
      · obtain ⟨g1, g2⟩ := boundM_find hb0.2 i m hi
        exact ⟨.inl (by rw [hlo]; exact Nat.lt_of_lt_of_le g1 hnx), fun j hj => .inl (by rw [hlo]; exact Nat.lt_of_lt_of_le (g2 j hj) hnx)⟩
      · have hm := hment j rj h1 (by simpa using h2)
        obtain ⟨g1, g2⟩ := idsM_mem h3
        refine ⟨hnew hw i fun hs => ?_, fun b hb => hnew hw b fun hs => ?_⟩
        · have : mentions r rj = true := inSpan_iff.2 ⟨i, by simp [g1], hs⟩
          rw [hm] at this; cases this
        · have : mentions r rj = true := inSpan_iff.2 ⟨b, by simp [g2 b hb], hs⟩
          rw [hm] at this; cases this
  have hs := stepOp_sound hN hC hasm hstep hevk hlook hmem hwhole hft hfm ha hM
  -- the effects with it
  have hset : ∀ i, (listed.setIfInBounds k true).getD i false = if i = k then true else listed.getD i false := fun i => by
    by_cases hik : i = k
    · subst hik; simp [hklt]
    · rw [getD_set_ne false (fun e => hik e.symm), if_neg hik]
  have hT : putT r.dst r.val (foldT (fun i => listed.getD i false) 0 x.2 st.tmps) = foldT (fun i => (listed.setIfInBounds k true).getD i false) 0 x.2 st.tmps := by
    refine ext_look (by rw [putT_length, foldT_length, foldT_length]) fun t => ?_
    by_cases hdt : r.dst = some t
    · rcases Nat.lt_or_ge t st.tmps.length with ht | ht
      · rw [hdt, look_putT_self (by rw [foldT_length]; exact ht)]
        refine (foldT_last hr hdt (by simp [hset]) (fun i ri hi hri hdi => ?_) ht).symm
        simp only [Nat.zero_add]
        rw [hset, if_neg (by omega)]
        have := hdep i ri (by omega) hri (.inl (by
          unfold depR
          have : dstIn ri.dst r.dst.toList = true := dstIn_iff.2 ⟨t, hdi, by rw [hdt]; simp⟩
          simp [this]))
        rw [this]; simp; omega
      · have e1 : ∀ l : List SW, l.length = st.tmps.length → look l t = .undef := fun l hl => by simp [look_get, hl, ht]
        rw [e1 _ (by rw [putT_length, foldT_length]), e1 _ (by rw [foldT_length])]
    · rw [look_putT_ne hdt]
      refine foldT_look (fun i ri hi hdi => ?_) rfl rfl
      simp only [Nat.zero_add]
      have : i ≠ k := fun e => by subst e; rw [hr] at hi; cases hi; exact hdt hdi
      rw [hset, if_neg this]
  have hMM : setFs (foldM (fun i => listed.getD i false) 0 x.2 fun i => find i st.mem) r.upd = foldM (fun i => (listed.setIfInBounds k true).getD i false) 0 x.2 fun i => find i st.mem := by
    funext b
    by_cases hb : b ∈ r.upd.map (·.1)
    · refine (foldM_last hr hb (by simp [hset]) (fun i ri hi hri hdi => ?_) _).symm
      simp only [Nat.zero_add]
      rw [hset, if_neg (by omega)]
      have := hdep i ri (by omega) hri (.inl (by
        unfold depR
        have : interN (keysOf ri.upd) (keysOf r.upd) = true := interN_iff.2 ⟨b, by rw [keysOf_eq]; exact hdi, by rw [keysOf_eq]; exact hb⟩
        simp [this]))
      rw [this]; simp; omega
    · rw [setFs_out hb]
      refine foldM_congr (fun i ri hi hdi => ?_) rfl
      simp only [Nat.zero_add]
      have : i ≠ k := fun e => by subst e; rw [hr] at hi; cases hi; exact hb hdi
      rw [hset, if_neg this]
  have hdef : ∀ (v : Value), (a.put o.dst v).defers = [] := fun v => by cases o.dst <;> exact hd
  unfold wpOp
  simp only [ho]
  rcases hs with ⟨hw, hs⟩ | ⟨hw, hv, hu⟩
  · rw [if_pos hw]
    refine .inl (hs _ Q fun v w' β' hβ' hv hm => ⟨β', fun i hi => ?_, ?_, hdef v, by rw [← hMM]; exact hm⟩)
    · rw [hβ' i (.inl (by rw [hlo]; omega)), hβ i hi]
    · rw [← hT, hdst]
      exact (ha.names fun t i hi => hβ' i (hft t i hi)).put o.dst r.val hv
  · rw [if_neg (by rw [hw]; exact Bool.false_ne_true)]
    refine ⟨β, hβ, ?_, hdef undef, by rw [← hMM, hu]; exact hM⟩
    rw [← hT, hdst]
    rw [hv]
    exact ha.put o.dst .undef rfl

theorem countP_set {n : Nat} {listed : Array Bool} {i : Nat} (hi : i < n) (hs : listed.size = n) (hu : listed.getD i false = false) :
    ((List.range n).countP fun t => (listed.setIfInBounds i true).getD t false) = ((List.range n).countP fun t => listed.getD t false) + 1 := by
  have key : ∀ (l : List Nat), l.Nodup → i ∈ l → (l.countP fun t => (listed.setIfInBounds i true).getD t false) = (l.countP fun t => listed.getD t false) + 1 := by
    intro l
    induction l with
    | nil => intro _ h; cases h
    | cons t l ih =>
      intro hn hm
      have hn' := List.nodup_cons.1 hn
      rw [List.countP_cons, List.countP_cons]
      by_cases he : t = i
      · subst he
        have h1 : (listed.setIfInBounds t true).getD t false = true := by simp [hs, hi]
        have h3 : (l.countP fun s => (listed.setIfInBounds t true).getD s false) = l.countP fun s => listed.getD s false :=
          List.countP_congr fun s hs => by rw [getD_set_ne false (fun e => hn'.1 (by rw [e]; exact hs))]
        rw [h1, hu, h3]; simp
      · have hm : i ∈ l := by
          rcases List.mem_cons.1 hm with h | h
          · exact absurd h.symm he
          · exact h
        rw [ih hn'.2 hm, getD_set_ne false (fun e => he e.symm)]
        omega
  exact key _ List.nodup_range (by simpa using hi)

theorem all_listed {listed : Array Bool} (hcl : Closed ops listed) (hf : forward ops.toList 0 = true) (hr : Region.ready .any ops listed = []) : ∀ i, i < ops.size → listed.getD i false = true := by
  have hfw : ∀ (os : List Oper) (k : Nat), forward os k = true → ∀ j o, os[j]? = some o → ∀ e ∈ o.after, Region.binds .any e = true → e.on < k + j := by
    intro os
    induction os with
    | nil => intro k _ j o ho; simp at ho
    | cons x xs ih =>
      intro k h j o ho e he hb
      simp only [forward, Bool.and_eq_true] at h
      cases j with
      | zero =>
        simp at ho; subst ho
        have := List.all_eq_true.1 h.1 e (by simpa using he)
        simpa [hb, Nat.blt_eq] using this
      | succ j => have := ih (k + 1) h.2 j o (by simpa using ho) e he hb; omega
  intro i
  induction i using Nat.strongRecOn with
  | _ i ih =>
    intro hi
    cases hl : listed.getD i false with
    | true => rfl
    | false =>
      exfalso
      have : i ∈ Region.ready .any ops listed := by
        refine mem_ready.2 ⟨?_, ops[i], by simp [hi], fun e he hb => ih e.on ?_ ?_⟩
        · have hsz : i < listed.size := by rw [hcl.1]; exact hi
          simp [hsz] at hl ⊢; exact hl
        · have := hfw ops.toList 0 hf i ops[i] (by simp [hi]) e he hb; omega
        · have := hfw ops.toList 0 hf i ops[i] (by simp [hi]) e he hb; omega
      rw [hr] at this; cases this

theorem region_any [Outer] (hN : ∀ (f : Nat) (fn : Func), P.funcs[f]? = some fn → (fn.name == "runtime.NumGoroutine") = false) (hC : CalleeOk P ρ callee) (hU : CalleeUp callee) (hasm : Asm.den ρ asm) (hD : P.follows .mixedOrders = true) {st : St} {x : St × List Rec} {evs : List Ev}
    (h : runOps P cfg asm callee ops ops.toList st = .ok x evs) (hev : Holds P ρ evs) (hchk : checkRegion ops st x.2 = true) {β : Nat → Nat} {a : Act} {w : World} (hR : Rel ρ β inh w0 st a w) {Q : Exit → Act → World → Prop} {id : Nat}
    (hQ : ∀ β' a' w', (∀ i, i < st.nx → β' i = β i) → Rel ρ β' inh w0 x.1 a' w' → Q .normal a' w') : (Code.region id ops true).wp P Q a w := by
  have hfwd : forward ops.toList 0 = true := by
    simp only [checkRegion, Bool.and_eq_true] at hchk
    exact hchk.1.2
  obtain ⟨hlen, hend1, hend2⟩ := runOps_end h
  have hdone : ∀ listed a' w', (∀ i, i < ops.size → listed.getD i false = true) → Inv ρ inh w0 β st x.2 listed a' w' → Q .normal a' w' := fun listed a' w' hall ⟨β', hβ, ha, hd, hM⟩ => by
    have hl : ∀ i ri, x.2[i]? = some ri → listed.getD i false = true := fun i ri hi => hall i (by have := (List.getElem?_eq_some_iff.1 hi).1; rw [hlen] at this; simpa using this)
    refine hQ β' a' w' hβ ⟨?_, hd, ?_⟩
    · rw [hend1]
      have : foldT (fun _ => true) 0 x.2 st.tmps = foldT (fun i => listed.getD i false) 0 x.2 st.tmps := ext_look (by rw [foldT_length, foldT_length]) fun t => foldT_look (fun i ri hi _ => by simp only [Nat.zero_add]; exact (hl i ri hi).symm) rfl rfl
      rw [this]; exact ha
    · rw [hend2]
      have : foldM (fun _ => true) 0 x.2 (fun i => find i st.mem) = foldM (fun i => listed.getD i false) 0 x.2 (fun i => find i st.mem) := by
        funext b
        exact foldM_congr (fun i ri hi _ => by simp only [Nat.zero_add]; exact (hl i ri hi).symm) rfl
      rw [this]; exact hM
  have main : ∀ (f : Nat) (listed : Array Bool) (a : Act) (w : World), Closed ops listed → ((List.range ops.size).countP fun t => listed.getD t false) + f = ops.size → Inv ρ inh w0 β st x.2 listed a w → wpAny P .any ops Q f listed a w := by
    intro f
    induction f with
    | zero =>
      intro listed a w hcl hc hI
      have hall : ∀ i, i < ops.size → listed.getD i false = true := fun i hi => by
        have : ((List.range ops.size).countP fun t => listed.getD t false) = (List.range ops.size).length := by rw [List.length_range]; omega
        exact List.countP_eq_length.1 this i (by simpa using hi)
      refine ⟨?_, hdone listed a w hall hI⟩
      cases hr : Region.ready .any ops listed with
      | nil => rfl
      | cons i l =>
        have hi : i ∈ Region.ready .any ops listed := by rw [hr]; exact .head _
        obtain ⟨hun, o, ho, _⟩ := mem_ready.1 hi
        have := hall i (Array.getElem?_eq_some_iff.1 ho).1
        rw [getD_both hun] at this; cases this
    | succ f ih =>
      intro listed a w hcl hc hI
      refine ⟨fun hr => hdone listed a w (all_listed hcl hfwd hr) hI, fun i hi => ?_⟩
      obtain ⟨hun, o, ho, _⟩ := mem_ready.1 hi
      have hilt := (Array.getElem?_eq_some_iff.1 ho).1
      refine wpOp_mono (fun a' w' hI' => ih _ a' w' (hcl.set hi) ?_ hI') (inv_step hN hC hU hasm h hev hchk hcl hi hI)
      have := countP_set (i := i) hilt hcl.1 (getD_both hun)
      omega
  have hrep : ∀ i, (Array.replicate ops.size false).getD i false = false := fun i => getD_replicate_false ..
  refine wp_region_any hD (main _ _ _ _ ⟨by simp, fun j oj _ hl => (by rw [hrep] at hl; cases hl)⟩ ?_ ⟨β, fun _ _ => rfl, ?_, hR.2.1, ?_⟩)
  · have : ((List.range ops.size).countP fun t => (Array.replicate ops.size false).getD t false) = 0 := by
      rw [List.countP_eq_zero]; intro t _; rw [hrep]; exact Bool.false_ne_true
    omega
  · rw [foldT_none fun i _ => hrep _]; exact hR.1
  · rw [foldM_none fun i _ => hrep _]; exact hR.2.2.drew
end
end Go.Proofs.Ytlccefdjhiedcaa.Sx
end
section
namespace Go.Proofs.Ytlccefdjhiedcaa.Sx
open Go.RowKit

def shW (sh : Sh) (nv : Nat) : SW :=
  match shP sh nv with
  | .one c => .one (.cell c)
  | p => .one (.agg [p])
def dropList (x : SW) (mem : Mem) : Mem :=
  match x with
  | .one (.cell (.sl b _ _)) => putM b none mem
  | .one (.cell (.slice b _ _ _)) => putM b none mem
  | _ => mem
def boxId : SW → Option Nat
  | .one (.cell (.ptr b 0)) => some b
  | .one (.cell (.box b)) => some b
  | _ => none
def dropBox (x : SW) (mem : Mem) : Mem :=
  match boxId x with
  | some b => putM b none mem
  | none => mem
def boxPs : Nat → Nat → Nat → List Piece
  | 0, n, nv => [.row nv n]
  | k + 1, n, nv => .one (.bool (.v nv)) :: boxPs k n (nv + 1)
def havocT : List (Nat × Sh) → St → St
  | [], st => st
  | (t, sh) :: rest, st => match sh with
    | .list et e => havocT rest ⟨st.tmps.set t (.one (.cell (.sl st.nx (st.nx + 1) (.v st.nv)))), putM st.nx (some ⟨et, [.all (st.nv + 1)], some (st.nx + 1, e)⟩) (dropList (look st.tmps t) st.mem), st.nx + 2, st.nv + 2⟩
    | .box ty k n => havocT rest ⟨st.tmps.set t (.one (.cell (.box st.nx))), putM st.nx (some ⟨ty, boxPs k n st.nv, none⟩) (dropBox (look st.tmps t) st.mem), st.nx + 2, st.nv + k + 1⟩
    | sh => havocT rest ⟨st.tmps.set t (shW sh st.nv), st.mem, st.nx, st.nv + 1⟩
def deadT : List Nat → List SW → List SW
  | [], tm => tm
  | t :: rest, tm => deadT rest (tm.set t .dead)
def havocM : List (Nat × List Sh) → Mem → Nat → Option (Mem × Nat)
  | [], mem, nv => some (mem, nv)
  | (i, sh) :: rest, mem, nv => match find i mem with
    | none => none
    | some m => havocM rest (putM i (some ⟨m.ty, shPs sh nv, m.cap⟩) mem) (nv + sh.length)
def dropM : List Nat → Mem → Mem
  | [], mem => mem
  | i :: rest, mem => dropM rest (putM i none mem)
def havoc (sp : LoopSpec) (st : St) : Option St :=
  match havocT sp.slots ⟨deadT sp.dead st.tmps, dropM sp.drop st.mem, st.nx, st.nv⟩ with
  | st1 => match havocM sp.blocks st1.mem st1.nv with
    | none => none
    | some (mem, nv) => some ⟨st1.tmps, mem, st1.nx, nv⟩
def lookLoop (f k : Nat) : List ((Nat × Nat) × LoopSpec) → Option LoopSpec
  | [] => none
  | ((g, j), sp) :: rest => if Nat.beq f g && Nat.beq k j then some sp else lookLoop f k rest
def countLoops : Code → Nat
  | .seq a b => countLoops a + countLoops b
  | .cond _ a b => countLoops a + countLoops b
  | .block _ c => countLoops c
  | .loop c => countLoops c + 1
  | _ => 0
theorem countLoops_eq : ∀ (c : Code), countLoops c = (loopsOf c).length := by
  intro c
  induction c with
  | seq a b iha ihb => simp only [countLoops, loopsOf, List.length_append, iha, ihb]
  | cond c a b iha ihb => simp only [countLoops, loopsOf, List.length_append, iha, ihb]
  | block id c ih => simp only [countLoops, loopsOf, ih]
  | loop c ih => simp only [countLoops, loopsOf, List.length_cons, ih]
  | _ => rfl
def execLoop (asm : Asm) (f k : Nat) (st : St) (sp : LoopSpec) : R (SExit × St) :=
  match havoc sp st with
  | none => .bad "loop: blocks"
  | some st' => match sp.alt with
    | none => .ok (sp.exit, st') [.loop f k st st' sp.exit none (st'.nv - st.nv)]
    | some y => (R.ok () [.loop f k st ⟨st'.tmps, st'.mem, st'.nx, st'.nv + 1⟩ sp.exit (some (st'.nv, y)) (st'.nv + 1 - st.nv)]).bind fun _ =>
      match decideB asm (.v st'.nv) with
      | some true => .ok (y, ⟨st'.tmps, st'.mem, st'.nx, st'.nv + 1⟩) []
      | some false => .ok (sp.exit, ⟨st'.tmps, st'.mem, st'.nx, st'.nv + 1⟩) []
      | none => .split (.v st'.nv) []

def loopN : Nat → (St → R (SExit × St)) → St → R (SExit × St)
  | 0, _, _ => .bad "loop"
  | n + 1, f, st => (f st).bind fun x => match x.1 with
    | .normal => loopN n f x.2
    | .exit id => .ok (.exit id, x.2) []
    | .ret => .ok (.ret, x.2) []
def execC (P : Program) (cfg : Cfg) (asm : Asm) (callee : Callee) (rounds : Nat) (f : Nat) : Nat → Code → St → R (SExit × St)
  | _, .skip, st => .ok (.normal, st) []
  | _, .region _ ops draw, st => (runOps P cfg asm callee ops ops.toList st).bind fun x => match draw with
    | false => .ok (.normal, x.1) []
    | true => match checkRegion ops st x.2 with
      | true => .ok (.normal, x.1) []
      | false => .bad "region: order"
  | k, .seq a b, st => (execC P cfg asm callee rounds f k a st).bind fun x => match x.1 with
    | .normal => execC P cfg asm callee rounds f (k + countLoops a) b x.2
    | .exit id => .ok (.exit id, x.2) []
    | .ret => .ok (.ret, x.2) []
  | k, .cond c t e, st => match opnd st.tmps c with
    | some (.one (.cell (.bool b))) => match decideB asm b with
      | some true => execC P cfg asm callee rounds f k t st
      | some false => execC P cfg asm callee rounds f (k + countLoops t) e st
      | none => .split (atomB b) []
    | _ => .bad "condition"
  | k, .block id c, st => (execC P cfg asm callee rounds f k c st).bind fun x => match x.1 with
    | .normal => .ok (.normal, x.2) []
    | .exit id' => match Nat.beq id' id with
      | true => .ok (.normal, x.2) []
      | false => .ok (.exit id', x.2) []
    | .ret => .ok (.ret, x.2) []
  | k, .loop c, st => match lookLoop f k cfg.loops with
    | some sp => execLoop asm f k st sp
    | none => loopN rounds (execC P cfg asm callee rounds f (k + 1) c) st
  | _, .exit id, st => .ok (.exit id, st) []
  | _, .ret, st => .ok (.ret, st) []
  | _, _, _ => .bad "code"

def Unr (P : Program) (c : Code) (Q : Exit → Act → World → Prop) : Nat → Act → World → Prop
  | 0, _, _ => False
  | n + 1, a, w => c.wp P (Exit.then (Unr P c Q n) Q) a w
theorem least {p : Nat → Prop} (h : ∃ n, p n) : ∃ n, p n ∧ ∀ m, p m → n ≤ m := by
  obtain ⟨n, hn⟩ := h
  induction n using Nat.strongRecOn with
  | _ n ih =>
    by_cases hm : ∃ m, m < n ∧ p m
    · obtain ⟨m, hlt, hp⟩ := hm; exact ih m hlt hp
    · exact ⟨n, hn, fun m hp => Nat.le_of_not_lt fun hlt => hm ⟨m, hlt, hp⟩⟩
theorem loop_of_unr [Outer] {P : Program} {c : Code} {Q : Exit → Act → World → Prop} {n : Nat} {a : Act} {w : World} (h : Unr P c Q n a w) : (Code.loop c).wp P Q a w := by
  classical
  let μ : Act → World → Nat := fun a w => if h : ∃ n, Unr P c Q n a w then Classical.choose (least h) else 0
  refine wp_loop (fun a w => ∃ n, Unr P c Q n a w) μ ⟨n, h⟩ fun a w hI => ?_
  have hs := (Classical.choose_spec (least hI)).1
  have hμ : μ a w = Classical.choose (least hI) := by simp only [μ, dif_pos hI]
  cases hm : Classical.choose (least hI) with
  | zero => rw [hm] at hs; exact hs.elim
  | succ m =>
    rw [hm] at hs
    refine wp_mono hs fun e a' w' hq => ?_
    cases e with
    | normal =>
      simp only [Exit.then] at hq ⊢
      refine ⟨⟨m, hq⟩, ?_⟩
      have hI' : ∃ n, Unr P c Q n a' w' := ⟨m, hq⟩
      have : μ a' w' ≤ m := by
        simp only [μ, dif_pos hI']
        exact (Classical.choose_spec (least hI')).2 m hq
      rw [hμ, hm]; omega
    | exit id => exact hq
    | goto l => exact hq
    | ret => exact hq
    | panic ch => exact hq
    | outgrown => exact hq

section
variable {P : Program} {ρ : Nat → Value} {inh : List Nat} {w0 : World} {cfg : Cfg} {asm : Asm} {callee : Callee} {rounds fn : Nat}

theorem loopN_up {f : St → R (SExit × St)} (hf : ∀ st x evs, f st = .ok x evs → st.nx ≤ x.2.nx) : ∀ {n : Nat} {st : St} {x : SExit × St} {evs : List Ev}, loopN n f st = .ok x evs → st.nx ≤ x.2.nx
  | 0, st, x, evs, h => by cases h
  | n + 1, st, x, evs, h => by
    simp only [loopN] at h
    obtain ⟨y, e1, e2, h1, h2, rfl⟩ := R.bind_ok h
    have hy := hf st y e1 h1
    split at h2
    · exact Nat.le_trans hy (loopN_up hf h2)
    · cases h2; exact hy
    · cases h2; exact hy
theorem havocT_nx : ∀ {l : List (Nat × Sh)} {st : St}, st.nx ≤ (havocT l st).nx
  | [], st => Nat.le_refl _
  | (t, sh) :: rest, st => by
    cases sh <;> simp only [havocT]
    case list et e => exact Nat.le_trans (Nat.le_add_right _ _) (havocT_nx (l := rest) (st := ⟨st.tmps.set t (.one (.cell (.sl st.nx (st.nx + 1) (.v st.nv)))), putM st.nx (some ⟨et, [.all (st.nv + 1)], some (st.nx + 1, e)⟩) (dropList (look st.tmps t) st.mem), st.nx + 2, st.nv + 2⟩))
    case box ty k n => exact Nat.le_trans (Nat.le_add_right _ _) (havocT_nx (l := rest) (st := ⟨st.tmps.set t (.one (.cell (.box st.nx))), putM st.nx (some ⟨ty, boxPs k n st.nv, none⟩) (dropBox (look st.tmps t) st.mem), st.nx + 2, st.nv + k + 1⟩))
    all_goals exact havocT_nx (l := rest) (st := ⟨_, st.mem, st.nx, st.nv + 1⟩)
theorem havoc_nx {sp : LoopSpec} {st st' : St} (h : havoc sp st = some st') : st.nx ≤ st'.nx := by
  unfold havoc at h
  dsimp only at h
  split at h
  · cases h
  · cases h
    exact havocT_nx (l := sp.slots) (st := ⟨deadT sp.dead st.tmps, dropM sp.drop st.mem, st.nx, st.nv⟩)
theorem execLoop_eq [Outer] {f k : Nat} {st : St} {sp : LoopSpec} {x : SExit × St} {evs : List Ev} (hasm : Asm.den ρ asm) (h : execLoop asm f k st sp = .ok x evs) : st.nx ≤ x.2.nx ∧ ∃ alt n, Ev.loop f k st x.2 sp.exit alt n ∈ evs ∧ x.1 = altX ρ sp.exit alt := by
  unfold execLoop at h
  split at h
  · cases h
  · rename_i st' hh
    have hx := havoc_nx hh
    split at h
    · cases h; exact ⟨hx, none, _, .head _, rfl⟩
    · rename_i y hy
      obtain ⟨u, e1, e2, h1, h2, rfl⟩ := R.bind_ok h
      cases h1
      split at h2
      · rename_i hd
        cases h2
        have := decideB_den hasm hd
        refine ⟨hx, some (st'.nv, y), _, .head _, ?_⟩
        simp only [BTm.den] at this
        simp [altX, this]
      · rename_i hd
        cases h2
        have := decideB_den hasm hd
        refine ⟨hx, some (st'.nv, y), _, .head _, ?_⟩
        simp only [BTm.den] at this
        simp [altX, this]
      · cases h2
theorem execLoop_up [Outer] {f k : Nat} {st : St} {sp : LoopSpec} {x : SExit × St} {evs : List Ev} (h : execLoop asm f k st sp = .ok x evs) : st.nx ≤ x.2.nx := by
  unfold execLoop at h
  split at h
  · cases h
  · rename_i st' hh
    have hx := havoc_nx hh
    split at h
    · cases h; exact hx
    · obtain ⟨u, e1, e2, h1, h2, rfl⟩ := R.bind_ok h
      split at h2
      · cases h2; exact hx
      · cases h2; exact hx
      · cases h2
theorem execC_up [Outer] (hU : CalleeUp callee) : ∀ {c : Code} {k : Nat} {st : St} {x : SExit × St} {evs : List Ev}, execC P cfg asm callee rounds fn k c st = .ok x evs → st.nx ≤ x.2.nx := by
  intro c
  induction c with
  | skip => intro k st x evs h; simp only [execC] at h; cases h; exact Nat.le_refl _
  | region id ops draw =>
    intro k st x evs h
    simp only [execC] at h
    obtain ⟨y, e1, e2, h1, h2, rfl⟩ := R.bind_ok h
    have := runOps_up hU h1
    split at h2
    · cases h2; exact this
    · split at h2
      · cases h2; exact this
      · cases h2
  | seq a b iha ihb =>
    intro k st x evs h
    simp only [execC] at h
    obtain ⟨y, e1, e2, h1, h2, rfl⟩ := R.bind_ok h
    have := iha h1
    split at h2
    · exact Nat.le_trans this (ihb h2)
    · cases h2; exact this
    · cases h2; exact this
  | cond c t e iht ihe =>
    intro k st x evs h
    simp only [execC] at h
    split at h
    · split at h
      · exact iht h
      · exact ihe h
      · cases h
    · cases h
  | block id c ih =>
    intro k st x evs h
    simp only [execC] at h
    obtain ⟨y, e1, e2, h1, h2, rfl⟩ := R.bind_ok h
    have := ih h1
    split at h2
    · cases h2; exact this
    · split at h2 <;> (cases h2; exact this)
    · cases h2; exact this
  | loop c ih =>
    intro k st x evs h
    simp only [execC] at h
    split at h
    · exact execLoop_up h
    · exact loopN_up (fun st x evs h => ih h) h
  | exit id => intro k st x evs h; simp only [execC] at h; cases h; exact Nat.le_refl _
  | ret => intro k st x evs h; simp only [execC] at h; cases h; exact Nat.le_refl _
  | rangeFunc _ _ _ _ => intro k st x evs h; simp only [execC] at h; cases h
  | scope _ => intro k st x evs h; simp only [execC] at h; cases h
  | label _ => intro k st x evs h; simp only [execC] at h; cases h
  | goto _ => intro k st x evs h; simp only [execC] at h; cases h
  | refuse _ => intro k st x evs h; simp only [execC] at h; cases h

theorem loopN_sound [Outer] {c : Code} {f : St → R (SExit × St)} (hup : ∀ st x evs, f st = .ok x evs → st.nx ≤ x.2.nx) (hf : ∀ st x evs, f st = .ok x evs → Holds P ρ evs → Sound P ρ inh w0 c st x) : ∀ {n : Nat} {st : St} {x : SExit × St} {evs : List Ev},
    loopN n f st = .ok x evs → Holds P ρ evs → ∀ β a w, Rel ρ β inh w0 st a w → ∀ Q : Exit → Act → World → Prop, (∀ β' a' w', (∀ i, i < st.nx → β' i = β i) → Rel ρ β' inh w0 x.2 a' w' → Q x.1.den a' w') → Unr P c Q n a w
  | 0, st, x, evs, h, _ => by cases h
  | n + 1, st, x, evs, h, hev => by
    intro β a w hR Q hQ
    simp only [loopN] at h
    obtain ⟨y, e1, e2, h1, h2, rfl⟩ := R.bind_ok h
    have hy := hup st y e1 h1
    have hs := hf st y e1 h1 fun e he => hev e (by simp [he])
    refine hs β a w hR _ fun β' a' w' hβ hR' => ?_
    split at h2
    · rename_i hn
      rw [hn]
      exact loopN_sound hup hf h2 (fun e he => hev e (by simp [he])) β' a' w' hR' Q fun β'' a'' w'' hβ' hR'' => hQ β'' a'' w'' (fun i hi => by rw [hβ' i (by omega), hβ i hi]) hR''
    · rename_i id hn
      cases h2
      rw [hn]
      exact hQ β' a' w' hβ hR'
    · rename_i hn
      cases h2
      rw [hn]
      exact hQ β' a' w' hβ hR'

theorem execC_sound [Outer] (hN : ∀ (f : Nat) (fn : Func), P.funcs[f]? = some fn → (fn.name == "runtime.NumGoroutine") = false) (hC : CalleeOk P ρ callee) (hU : CalleeUp callee) (hasm : Asm.den ρ asm) (hD : P.follows .mixedOrders = true) :
    ∀ {c : Code} {k : Nat} {st : St} {x : SExit × St} {evs : List Ev}, (∀ j c', (loopsOf c)[j]? = some c' → loopAt P fn (k + j) = some c') → execC P cfg asm callee rounds fn k c st = .ok x evs → Holds P ρ evs → Sound P ρ inh w0 c st x := by
  intro c
  induction c with
  | skip => intro k st x evs hL h _ β a w hR Q hQ; simp only [execC] at h; cases h; exact wp_skip (hQ β a w (fun _ _ => rfl) hR)
  | region id ops draw =>
    intro k st x evs hL h hev β a w hR Q hQ
    simp only [execC] at h
    obtain ⟨y, e1, e2, h1, h2, rfl⟩ := R.bind_ok h
    have hev1 : Holds P ρ e1 := fun e he => hev e (by simp [he])
    split at h2
    · cases h2
      exact wp_region_list (runOps_list hN hC hU hasm h1 hev1 hR hQ)
    · split at h2
      · rename_i hchk
        cases h2
        exact region_any hN hC hU hasm hD h1 hev1 hchk hR hQ
      · cases h2
  | seq x y ihx ihy =>
    intro k st z evs hL h hev β a w hR Q hQ
    simp only [execC] at h
    obtain ⟨u, e1, e2, h1, h2, rfl⟩ := R.bind_ok h
    have hup := execC_up hU h1
    refine wp_seq (ihx (fun j c' hj => hL j c' (by simp only [loopsOf]; rw [List.getElem?_append_left (List.getElem?_eq_some_iff.1 hj).1]; exact hj)) h1 (fun e he => hev e (by simp [he])) β a w hR _ fun β' a' w' hβ hR' => ?_)
    split at h2
    · rename_i hn
      rw [hn]
      exact ihy (fun j c' hj => by rw [countLoops_eq, Nat.add_assoc]; exact hL _ c' (by simp only [loopsOf]; rw [List.getElem?_append_right (by omega), Nat.add_sub_cancel_left]; exact hj)) h2 (fun e he => hev e (by simp [he])) β' a' w' hR' Q fun β'' a'' w'' hβ' hR'' => hQ β'' a'' w'' (fun i hi => by rw [hβ' i (by omega), hβ i hi]) hR''
    · rename_i id hn
      cases h2
      rw [hn]
      exact hQ β' a' w' hβ hR'
    · rename_i hn
      cases h2
      rw [hn]
      exact hQ β' a' w' hβ hR'
  | cond c t e iht ihe =>
    intro k st z evs hL h hev β a w hR Q hQ
    simp only [execC] at h
    split at h
    · rename_i b hb
      have he : a.eval c = .bool (b.den ρ) := opnd_den hb hR.1 (fun _ _ => rfl)
      split at h
      · rename_i hd
        rw [decideB_den hasm hd] at he
        exact wp_cond_true he (iht (fun j c' hj => hL j c' (by simp only [loopsOf]; rw [List.getElem?_append_left (List.getElem?_eq_some_iff.1 hj).1]; exact hj)) h hev β a w hR Q hQ)
      · rename_i hd
        rw [decideB_den hasm hd] at he
        exact wp_cond_false he (ihe (fun j c' hj => by rw [countLoops_eq, Nat.add_assoc]; exact hL _ c' (by simp only [loopsOf]; rw [List.getElem?_append_right (by omega), Nat.add_sub_cancel_left]; exact hj)) h hev β a w hR Q hQ)
      · cases h
    · cases h
  | block id c ih =>
    intro k st z evs hL h hev β a w hR Q hQ
    simp only [execC] at h
    obtain ⟨u, e1, e2, h1, h2, rfl⟩ := R.bind_ok h
    refine wp_block (ih (fun j c' hj => hL j c' (by simpa only [loopsOf] using hj)) h1 (fun e he => hev e (by simp [he])) β a w hR _ fun β' a' w' hβ hR' => ?_)
    split at h2
    · rename_i hn
      cases h2
      rw [hn]
      exact hQ β' a' w' hβ hR'
    · rename_i id' hn
      rw [hn]
      simp only [SExit.den, Exit.inBlock]
      split at h2
      · rename_i hid
        cases h2
        rw [if_pos (Nat.eq_of_beq_eq_true hid)]
        exact hQ β' a' w' hβ hR'
      · rename_i hid
        cases h2
        rw [if_neg (fun e => by rw [e, Nat.beq_refl] at hid; cases hid)]
        exact hQ β' a' w' hβ hR'
    · rename_i hn
      cases h2
      rw [hn]
      exact hQ β' a' w' hβ hR'
  | loop c ih =>
    intro k st z evs hL h hev β a w hR Q hQ
    simp only [execC] at h
    split at h
    · rename_i sp hsp
      obtain ⟨hnx, alt, n, hmem, hx⟩ := execLoop_eq hasm h
      have := hev _ hmem
      simp only [Ev.holds] at this
      have := this c (by have := hL 0 c (by simp [loopsOf]); simpa using this) inh w0 β a w hR Q
      refine this fun β' a' w' hβ hR' => ?_
      have := hQ β' a' w' hβ hR'
      rw [hx] at this
      exact this
    · exact loop_of_unr (loopN_sound (fun st x evs h => execC_up hU h) (fun st x evs h hev => ih (fun j c' hj => by rw [Nat.add_assoc, Nat.add_comm 1 j]; exact hL (j + 1) c' (by simpa only [loopsOf, List.getElem?_cons_succ] using hj)) h hev) h hev β a w hR Q hQ)
  | exit id => intro k st x evs hL h _ β a w hR Q hQ; simp only [execC] at h; cases h; exact wp_exit (hQ β a w (fun _ _ => rfl) hR)
  | ret => intro k st x evs hL h _ β a w hR Q hQ; simp only [execC] at h; cases h; exact wp_ret (hQ β a w (fun _ _ => rfl) hR)
  | rangeFunc _ _ _ _ => intro k st x evs hL h; simp only [execC] at h; cases h
  | scope _ => intro k st x evs hL h; simp only [execC] at h; cases h
  | label _ => intro k st x evs hL h; simp only [execC] at h; cases h
  | goto _ => intro k st x evs hL h; simp only [execC] at h; cases h
  | refuse _ => intro k st x evs hL h; simp only [execC] at h; cases h
end

def resOne (P : Program) (st : St) : ResultVar → Option SV
  | .tmp t => match look st.tmps t with
    | .one v => some v
    | _ => none
  | .cell p ty => match look st.tmps p with
    | .one (.cell (.ptr b off)) => match hLoad P ty (.one (.cell (.ptr b off))) (find b st.mem) 0 with
      | .ok r _ => match r.val with
        | .one v => some v
        | _ => none
      | _ => none
    | _ => none
def resAll (P : Program) (st : St) : List ResultVar → Option (List SV)
  | [] => some []
  | x :: xs => match resOne P st x with
    | none => none
    | some v => match resAll P st xs with
      | none => none
      | some vs => some (v :: vs)
def resS (P : Program) (st : St) (xs : List ResultVar) : Option SW :=
  match resAll P st xs with
  | none => none
  | some [v] => some (.one v)
  | some vs => some (.tuple vs)

def execF (P : Program) (cfg : Cfg) (asm : Asm) (rounds : Nat) : Nat → Callee
  | 0 => fun _ _ _ _ _ => .bad "depth"
  | n + 1 => fun f args mem nx nv =>
    match P.funcs[f]? with
    | none => .bad "function"
    | some fn => match fn.body with
      | none => .bad "body"
      | some c => (execC P cfg asm (execF P cfg asm rounds n) rounds f 0 c ⟨args ++ List.replicate (fn.ntmps - args.length) .undef, mem, nx, nv⟩).bind fun x => match x.1 with
        | .exit _ => .bad "exit"
        | _ => match resS P x.2 fn.results.toList with
          | some v => .ok ⟨v, x.2.mem, x.2.nx, x.2.nv⟩ []
          | none => .bad "results"

section
variable {P : Program} {ρ : Nat → Value} {β : Nat → Nat} {inh : List Nat} {w0 w : World} {cfg : Cfg} {asm : Asm} {rounds : Nat}

def resSem (tmps : Array Value) (x : ResultVar) : Sem Value :=
  match x with
  | .tmp t => pure (tmps.getD t undef)
  | .cell p t => do loadVar t (← asAddr (tmps.getD p undef))
theorem results_eq (fn : Func) (tmps : Array Value) : results fn tmps = (do let vs ← fn.results.mapM (resSem tmps); pure (if h : vs.size = 1 then vs[0] else .tuple vs)) := rfl
theorem resAll_run [Outer] {st : St} {a : Act} (hR : Rel ρ β inh w0 st a w) : ∀ {xs : List ResultVar} {vs : List SV}, resAll P st xs = some vs →
    (xs.mapM (resSem a.tmps)).run P w = Result.ok (vs.map (·.den ρ β)) w
  | [], vs, h => by cases h; simp
  | x :: xs, vs, h => by
    simp only [resAll] at h
    split at h
    · cases h
    · rename_i v hv
      split at h
      · cases h
      · rename_i vs' hvs
        cases h
        have ih := resAll_run hR hvs
        have hx : (resSem a.tmps x).run P w = .ok (v.den ρ β) w := by
          unfold resSem
          cases x with
          | tmp t =>
            simp only [resOne] at hv
            split at hv
            · rename_i v' hl
              cases hv
              have := hR.1.getD (t := t) (by rw [hl]; simp)
              simp only [Sem.run_pure, this, hl, SW.den_one]
            · cases hv
          | cell p ty =>
            simp only [resOne] at hv
            split at hv
            · rename_i b off hl
              split at hv
              · rename_i r e hr
                split at hv
                · rename_i v' hval
                  cases hv
                  obtain ⟨e1, _, _⟩ := hLoad_run (P := P) (nv := 0) hR.2.2 (b := b) (x := .one (.cell (.ptr b off))) (fun b' off' e => by cases e; rfl) hr
                  rw [hval, SW.den_one] at e1
                  have hg := hR.1.getD (t := p) (by rw [hl]; simp)
                  simp only [hg, hl]
                  simpa [SW.den, SV.den, Cell.den, Instr.loadAt, Instr.sureAddr, asAddr] using e1
                · cases hv
              · cases hv
            · cases hv
        simp only [List.mapM_cons, Sem.run_bind, hx, Result.andThen_ok, ih, Sem.run_pure, List.map_cons]

theorem resS_run [Outer] {st : St} {a : Act} (hR : Rel ρ β inh w0 st a w) {fn : Func} {v : SW} (h : resS P st fn.results.toList = some v) : (results fn a.tmps).run P w = .ok (v.den ρ β) w := by
  unfold resS at h
  rw [results_eq]
  cases hr : resAll P st fn.results.toList with
  | none => rw [hr] at h; cases h
  | some vs =>
    rw [hr] at h
    have hm := resAll_run (P := P) hR hr
    have e : (fn.results.mapM (resSem a.tmps)).run P w = Result.ok (vs.map (·.den ρ β)).toArray w := by
      rw [Array.mapM_eq_mapM_toList, Sem.run_map, hm]
      rfl
    simp only [Sem.run_bind, e, Result.andThen_ok, Sem.run_pure]
    match vs, h with
    | [], h => cases h; rfl
    | [x], h => cases h; rfl
    | x :: y :: rest, h => cases h; rfl

theorem execF_up [Outer] : ∀ (n : Nat), CalleeUp (execF P cfg asm rounds n)
  | 0 => by intro f args mem nx nv ret evs h; cases h
  | n + 1 => by
    intro f args mem nx nv ret evs h
    simp only [execF] at h
    split at h
    · cases h
    · split at h
      · cases h
      · obtain ⟨x, e1, e2, h1, h2, rfl⟩ := R.bind_ok h
        have := execC_up (execF_up n) h1
        split at h2
        · cases h2
        · split at h2
          · cases h2; exact this
          · cases h2

theorem execF_ok [Outer] (hN : ∀ (f : Nat) (fn : Func), P.funcs[f]? = some fn → (fn.name == "runtime.NumGoroutine") = false) (hasm : Asm.den ρ asm) (hD : P.follows .mixedOrders = true) : ∀ (n : Nat), CalleeOk P ρ (execF P cfg asm rounds n)
  | 0 => by intro f args mem nx nv ret evs h; cases h
  | n + 1 => by
    intro f args mem nx nv ret evs h hev β inh w0 w hM
    simp only [execF] at h
    split at h
    · cases h
    · rename_i fn hfn
      split at h
      · cases h
      · rename_i c hc
        refine ⟨fn, hfn, by rw [hc]; rfl, ?_⟩
        obtain ⟨x, e1, e2, h1, h2, rfl⟩ := R.bind_ok h
        have hs := execC_sound (inh := inh) (w0 := w0) hN (execF_ok hN hasm hD n) (execF_up n) hasm hD (fun j c' hj => by simp only [loopAt, hfn, hc, Nat.zero_add]; exact hj) h1 fun e he => hev e (by simp [he])
        refine calls_of_wp hfn hc ?_
        refine hs β _ w ⟨?_, rfl, hM⟩ _ fun β' a' w' hβ hR' => ?_
        · have : denT ρ β args ++ Array.replicate (fn.ntmps - (denT ρ β args).size) undef = denT ρ β (args ++ List.replicate (fn.ntmps - args.length) .undef) := by
            simp only [denT]
            rw [List.map_append, List.map_replicate]
            simp [SW.den]
          rw [this]
          exact Trel.of_den _ _ _
        · split at h2
          · cases h2
          · rename_i hne
            split at h2
            · rename_i v hv
              cases h2
              have hr := resS_run (P := P) hR' hv
              have hk : hR'.2.1 = hR'.2.1 := rfl
              cases hx : x.1 with
              | exit id => exact absurd hx (hne id)
              | normal => exact ⟨hR'.2.1, _, hr, β', hβ, rfl, hR'.2.2⟩
              | ret => exact ⟨hR'.2.1, _, hr, β', hβ, rfl, hR'.2.2⟩
            · cases h2
end
end Go.Proofs.Ytlccefdjhiedcaa.Sx
end
section
namespace Go.Proofs.Ytlccefdjhiedcaa.Sx
open Go.RowKit

def constBeq : Value → Value → Bool
  | .pointer none, .pointer none => true
  | .slice none 0 0, .slice none 0 0 => true
  | .nilFunc, .nilFunc => true
  | .nilIface, .nilIface => true
  | _, _ => false
def pairsBeq : List (Nat × Nat) → List (Nat × Nat) → Bool
  | [], [] => true
  | (a, b) :: x, (c, d) :: y => Nat.beq a c && Nat.beq b d && pairsBeq x y
  | _, _ => false
def BP.beq : BP → BP → Bool
  | .bool a, .bool b => a.beq b
  | .int k a, .int k' b => Nat.beq (kindNo k) (kindNo k') && a.beq b
  | .str a, .str b => a.beq b
  | .row i n, .row j m => Nat.beq i j && Nat.beq n m
  | .rep k v n, .rep k' v' n' => Nat.beq (kindNo k) (kindNo k') && intBeq v v' && Nat.beq n n'
  | _, _ => false
def bpsBeq : List BP → List BP → Bool
  | [], [] => true
  | a :: x, b :: y => a.beq b && bpsBeq x y
  | _, _ => false
def Cell.beq : Cell → Cell → Bool
  | .bool a, .bool b => a.beq b
  | .int k a, .int k' b => Nat.beq (kindNo k) (kindNo k') && a.beq b
  | .str a, .str b => a.beq b
  | .ptr a b, .ptr c d => Nat.beq a c && Nat.beq b d
  | .slice a b c d, .slice a' b' c' d' => Nat.beq a a' && Nat.beq b b' && Nat.beq c c' && Nat.beq d d'
  | .eptr a b c i d, .eptr a' b' c' i' d' => Nat.beq a a' && Nat.beq b b' && Nat.beq c c' && i.beq i' && Nat.beq d d'
  | .sl a b i, .sl a' b' i' => Nat.beq a a' && Nat.beq b b' && i.beq i'
  | .win a b i c j k, .win a' b' i' c' j' k' => Nat.beq a a' && Nat.beq b b' && i.beq i' && Nat.beq c c' && j.beq j' && k.beq k'
  | .awin a b c d j k, .awin a' b' c' d' j' k' => Nat.beq a a' && Nat.beq b b' && Nat.beq c c' && Nat.beq d d' && j.beq j' && k.beq k'
  | .box a, .box b => Nat.beq a b
  | .func f l, .func g m => Nat.beq f g && pairsBeq l m
  | .v i, .v j => Nat.beq i j
  | .const a, .const b => constBeq a b
  | .meth f l, .meth g m => Nat.beq f g && bpsBeq l m
  | _, _ => false
def Piece.beq : Piece → Piece → Bool
  | .one a, .one b => a.beq b
  | .row i n, .row j m => Nat.beq i j && Nat.beq n m
  | .all i, .all j => Nat.beq i j
  | .rep k v n, .rep k' v' n' => Nat.beq (kindNo k) (kindNo k') && intBeq v v' && Nat.beq n n'
  | .bytes t, .bytes t' => t.beq t'
  | _, _ => false
def listBeq {α : Type} (f : α → α → Bool) : List α → List α → Bool
  | [], [] => true
  | a :: x, b :: y => f a b && listBeq f x y
  | _, _ => false
def SV.beq : SV → SV → Bool
  | .cell a, .cell b => a.beq b
  | .agg a, .agg b => listBeq Piece.beq a b
  | _, _ => false
def SW.beq : SW → SW → Bool
  | .undef, .undef => true
  | .dead, .dead => true
  | .one a, .one b => a.beq b
  | .tuple a, .tuple b => listBeq SV.beq a b
  | _, _ => false
def capBeq : Option (Nat × Nat) → Option (Nat × Nat) → Bool
  | none, none => true
  | some (a, b), some (c, d) => Nat.beq a c && Nat.beq b d
  | _, _ => false
def MB.beq (x y : MB) : Bool := Nat.beq x.ty y.ty && listBeq Piece.beq x.ps y.ps && capBeq x.cap y.cap
def mbBeq (x y : Nat × MB) : Bool := Nat.beq x.1 y.1 && x.2.beq y.2
def mbOBeq : Nat × Option MB → Nat × Option MB → Bool
  | (i, none), (j, none) => Nat.beq i j
  | (i, some x), (j, some y) => Nat.beq i j && x.beq y
  | _, _ => false
def St.beq (x y : St) : Bool := listBeq SW.beq x.tmps y.tmps && listBeq mbOBeq x.mem y.mem && Nat.beq x.nx y.nx && Nat.beq x.nv y.nv
def SExit.beq : SExit → SExit → Bool
  | .normal, .normal => true
  | .exit a, .exit b => Nat.beq a b
  | .ret, .ret => true
  | _, _ => false
def altBeq : Option (Nat × SExit) → Option (Nat × SExit) → Bool
  | none, none => true
  | some (a, x), some (b, y) => Nat.beq a b && x.beq y
  | _, _ => false
def partBeq (x y : List Piece × Tm) : Bool := listBeq Piece.beq x.1 y.1 && x.2.beq y.2
def partsUnder (n : Nat) (l : List (List Piece × Tm)) : Bool := l.all fun x => x.1.all (·.under n) && x.2.under n
def Ev.beq : Ev → Ev → Bool
  | .need a, .need b => a.beq b
  | .fits k a, .fits k' b => Nat.beq (kindNo k) (kindNo k') && a.beq b
  | .same t x y i, .same t' x' y' i' => Nat.beq t t' && x.beq x' && y.beq y' && Nat.beq i i'
  | .call f as1 r n, .call f' as' r' n' => Nat.beq f f' && listBeq SV.beq as1 as' && r.beq r' && Nat.beq n n'
  | .turn x f as1 p q m r n, .turn x' f' as' p' q' m' r' n' => Nat.beq x x' && Nat.beq f f' && listBeq SV.beq as1 as' && listBeq mbBeq p p' && listBeq mbBeq q q' && listBeq mbBeq m m' && r.beq r' && Nat.beq n n'
  | .elem s i e f ps n, .elem s' i' e' f' ps' n' => s.beq s' && i.beq i' && Nat.beq e e' && Nat.beq f f' && listBeq Piece.beq ps ps' && Nat.beq n n'
  | .put s i e f ps q n, .put s' i' e' f' ps' q' n' => s.beq s' && i.beq i' && Nat.beq e e' && Nat.beq f f' && listBeq Piece.beq ps ps' && q.beq q' && Nat.beq n n'
  | .join ps l e n, .join ps' l' e' n' => listBeq Piece.beq ps ps' && listBeq partBeq l l' && Nat.beq e e' && Nat.beq n n'
  | .loop f k st st' x alt n, .loop f' k' s2 s2' x' alt' n' => Nat.beq f f' && Nat.beq k k' && st.beq s2 && st'.beq s2' && x.beq x' && altBeq alt alt' && Nat.beq n n'
  | _, _ => false
theorem natBeq {a b : Nat} (h : Nat.beq a b = true) : a = b := Nat.eq_of_beq_eq_true h
theorem listBeq_eq {α : Type} {f : α → α → Bool} (hf : ∀ {a b}, f a b = true → a = b) : ∀ {x y : List α}, listBeq f x y = true → x = y
  | [], [], _ => rfl
  | a :: x, b :: y, h => by
    simp only [listBeq, Bool.and_eq_true] at h
    rw [hf h.1, listBeq_eq hf h.2]
  | [], _ :: _, h => by cases h
  | _ :: _, [], h => by cases h
theorem pairsBeq_eq [Outer] : ∀ {x y : List (Nat × Nat)}, pairsBeq x y = true → x = y
  | [], [], _ => rfl
  | (a, b) :: x, (c, d) :: y, h => by
    simp only [pairsBeq, Bool.and_eq_true] at h
    rw [natBeq h.1.1, natBeq h.1.2, pairsBeq_eq h.2]
  | [], _ :: _, h => by cases h
  | _ :: _, [], h => by cases h
theorem constBeq_eq {a b : Value} (h : constBeq a b = true) : a = b := by
  unfold constBeq at h
  split at h <;> first | rfl | cases h
theorem BP.beq_eq {a b : BP} (h : a.beq b = true) : a = b := by
  cases a <;> cases b <;> simp only [BP.beq, Bool.and_eq_true, Bool.false_eq_true] at h
  · rw [BTm.beq_eq h]
  · rw [kindNo_inj (natBeq h.1), Tm.beq_eq h.2]
  · rw [Tm.beq_eq h]
  · rw [natBeq h.1, natBeq h.2]
  · rw [kindNo_inj (natBeq h.1.1), intBeq_eq h.1.2, natBeq h.2]
theorem bpsBeq_eq : ∀ {a b : List BP}, bpsBeq a b = true → a = b
  | [], [], _ => rfl
  | a :: x, b :: y, h => by
    simp only [bpsBeq, Bool.and_eq_true] at h
    rw [BP.beq_eq h.1, bpsBeq_eq h.2]
  | [], _ :: _, h => by cases h
  | _ :: _, [], h => by cases h
theorem Cell.beq_eq [Outer] {a b : Cell} (h : a.beq b = true) : a = b := by
  cases a <;> cases b <;> simp only [Cell.beq, Bool.and_eq_true, Bool.false_eq_true] at h
  · rw [BTm.beq_eq h]
  · rw [kindNo_inj (natBeq h.1), Tm.beq_eq h.2]
  · rw [Tm.beq_eq h]
  · rw [natBeq h.1, natBeq h.2]
  · rw [natBeq h.1.1.1, natBeq h.1.1.2, natBeq h.1.2, natBeq h.2]
  · rw [natBeq h.1.1.1.1, natBeq h.1.1.1.2, natBeq h.1.1.2, Tm.beq_eq h.1.2, natBeq h.2]
  · rw [natBeq h.1.1, natBeq h.1.2, Tm.beq_eq h.2]
  · rw [natBeq h.1.1.1.1.1, natBeq h.1.1.1.1.2, Tm.beq_eq h.1.1.1.2, natBeq h.1.1.2, Tm.beq_eq h.1.2, Tm.beq_eq h.2]
  · rw [natBeq h.1.1.1.1.1, natBeq h.1.1.1.1.2, natBeq h.1.1.1.2, natBeq h.1.1.2, Tm.beq_eq h.1.2, Tm.beq_eq h.2]
  · rw [natBeq h]
  · rw [natBeq h.1, pairsBeq_eq h.2]
  · rw [natBeq h]
  · rw [constBeq_eq h]
  · rw [natBeq h.1, bpsBeq_eq h.2]
theorem Piece.beq_eq [Outer] {a b : Piece} (h : a.beq b = true) : a = b := by
  cases a <;> cases b <;> simp only [Piece.beq, Bool.and_eq_true, Bool.false_eq_true] at h
  · rw [Cell.beq_eq h]
  · rw [natBeq h.1, natBeq h.2]
  · rw [natBeq h]
  · rw [kindNo_inj (natBeq h.1.1), intBeq_eq h.1.2, natBeq h.2]
  · rw [Tm.beq_eq h]
theorem partBeq_eq [Outer] {a b : List Piece × Tm} (h : partBeq a b = true) : a = b := by
  unfold partBeq at h
  simp only [Bool.and_eq_true] at h
  exact Prod.ext (listBeq_eq Piece.beq_eq h.1) (Tm.beq_eq h.2)
theorem SV.beq_eq [Outer] {a b : SV} (h : a.beq b = true) : a = b := by
  cases a <;> cases b <;> simp only [SV.beq, Bool.false_eq_true] at h
  · rw [Cell.beq_eq h]
  · rw [listBeq_eq Piece.beq_eq h]
theorem SW.beq_eq [Outer] {a b : SW} (h : a.beq b = true) : a = b := by
  cases a <;> cases b <;> simp only [SW.beq, Bool.false_eq_true] at h
  · rfl
  · rfl
  · rw [SV.beq_eq h]
  · rw [listBeq_eq SV.beq_eq h]
theorem capBeq_eq [Outer] {a b : Option (Nat × Nat)} (h : capBeq a b = true) : a = b := by
  unfold capBeq at h
  split at h
  · rfl
  · simp only [Bool.and_eq_true] at h; rw [natBeq h.1, natBeq h.2]
  · cases h
theorem MB.beq_eq [Outer] {a b : MB} (h : a.beq b = true) : a = b := by
  obtain ⟨t, ps, c⟩ := a
  obtain ⟨u, qs, d⟩ := b
  simp only [MB.beq, Bool.and_eq_true] at h
  rw [natBeq h.1.1, listBeq_eq Piece.beq_eq h.1.2, capBeq_eq h.2]
theorem mbBeq_eq [Outer] {a b : Nat × MB} (h : mbBeq a b = true) : a = b := by
  obtain ⟨i, x⟩ := a
  obtain ⟨j, y⟩ := b
  simp only [mbBeq, Bool.and_eq_true] at h
  rw [natBeq h.1, MB.beq_eq h.2]
theorem mbOBeq_eq [Outer] {a b : Nat × Option MB} (h : mbOBeq a b = true) : a = b := by
  unfold mbOBeq at h
  split at h
  · rw [natBeq h]
  · simp only [Bool.and_eq_true] at h; rw [natBeq h.1, MB.beq_eq h.2]
  · cases h
theorem St.beq_eq [Outer] {a b : St} (h : a.beq b = true) : a = b := by
  obtain ⟨t, m, x, v⟩ := a
  obtain ⟨t', m', x', v'⟩ := b
  simp only [St.beq, Bool.and_eq_true] at h
  rw [listBeq_eq SW.beq_eq h.1.1.1, listBeq_eq mbOBeq_eq h.1.1.2, natBeq h.1.2, natBeq h.2]
theorem SExit.beq_eq [Outer] {a b : SExit} (h : a.beq b = true) : a = b := by
  cases a <;> cases b <;> simp only [SExit.beq, Bool.false_eq_true] at h <;> first | rfl | rw [natBeq h]
theorem altBeq_eq [Outer] {a b : Option (Nat × SExit)} (h : altBeq a b = true) : a = b := by
  unfold altBeq at h
  split at h
  · rfl
  · simp only [Bool.and_eq_true] at h; rw [natBeq h.1, SExit.beq_eq h.2]
  · cases h
theorem Ev.beq_eq [Outer] {a b : Ev} (h : a.beq b = true) : a = b := by
  cases a <;> cases b <;> simp only [Ev.beq, Bool.and_eq_true, Bool.false_eq_true] at h
  · rw [BTm.beq_eq h]
  · rw [kindNo_inj (natBeq h.1), Tm.beq_eq h.2]
  · rw [natBeq h.1.1.1, SV.beq_eq h.1.1.2, SV.beq_eq h.1.2, natBeq h.2]
  · rw [natBeq h.1.1.1, listBeq_eq SV.beq_eq h.1.1.2, SW.beq_eq h.1.2, natBeq h.2]
  · obtain ⟨⟨⟨⟨⟨⟨⟨h1, h2⟩, h3⟩, h4⟩, h5⟩, h6⟩, h7⟩, h8⟩ := h
    rw [natBeq h1, natBeq h2, listBeq_eq SV.beq_eq h3, listBeq_eq mbBeq_eq h4, listBeq_eq mbBeq_eq h5, listBeq_eq mbBeq_eq h6, SW.beq_eq h7, natBeq h8]
  · obtain ⟨⟨⟨⟨⟨h1, h2⟩, h3⟩, h4⟩, h5⟩, h6⟩ := h
    rw [Piece.beq_eq h1, Tm.beq_eq h2, natBeq h3, natBeq h4, listBeq_eq Piece.beq_eq h5, natBeq h6]
  · obtain ⟨⟨⟨⟨⟨⟨h1, h2⟩, h3⟩, h4⟩, h5⟩, h6⟩, h7⟩ := h
    rw [Piece.beq_eq h1, Tm.beq_eq h2, natBeq h3, natBeq h4, listBeq_eq Piece.beq_eq h5, Piece.beq_eq h6, natBeq h7]
  · obtain ⟨⟨⟨⟨⟨⟨h1, h2⟩, h3⟩, h4⟩, h5⟩, h6⟩, h7⟩ := h
    rw [natBeq h1, natBeq h2, St.beq_eq h3, St.beq_eq h4, SExit.beq_eq h5, altBeq_eq h6, natBeq h7]
  · rw [listBeq_eq Piece.beq_eq h.1.1.1, listBeq_eq partBeq_eq h.1.1.2, natBeq h.1.2, natBeq h.2]

def MB.under (n : Nat) (m : MB) : Bool := m.ps.all (·.under n)
def underL (n : Nat) (m : List (Nat × MB)) : Bool := m.all fun x => x.2.under n
def underO (n : Nat) : Option MB → Bool
  | none => true
  | some m => m.under n
def underM (n : Nat) (m : Mem) : Bool := m.all fun x => underO n x.2
def St.under (n : Nat) (st : St) : Bool := st.tmps.all (·.under n) && underM n st.mem
def altUnder (n : Nat) : Option (Nat × SExit) → Bool
  | none => true
  | some (b, _) => Nat.blt b n
def Ev.next (n : Nat) : Ev → Option Nat
  | .need b => if b.under n then some n else none
  | .fits _ t => if t.under n then some n else none
  | .same _ x y i => if x.under n && y.under n && Nat.beq i n then some (n + 1) else none
  | .call _ as1 r k => if as1.all (·.under n) && r.under (n + k) then some (n + k) else none
  | .turn _ _ as1 p q m r k => if as1.all (·.under n) && underL n p && underL (n + k) q && underL (n + k) m && r.under (n + k) then some (n + k) else none
  | .elem s i _ _ ps k => if s.under n && i.under n && ps.all (·.under (n + k)) then some (n + k) else none
  | .put s i _ _ ps q k => if s.under n && i.under n && ps.all (·.under n) && q.under (n + k) then some (n + k) else none
  | .join ps l _ k => if partsUnder n l && ps.all (·.under (n + k)) then some (n + k) else none
  | .loop _ _ st st' _ alt k => if st.under n && st'.under (n + k) && altUnder (n + k) alt then some (n + k) else none
def nexts : List Ev → Nat → Option Nat
  | [], n => some n
  | e :: es, n => match e.next n with
    | none => none
    | some m => nexts es m

section
variable {n : Nat} {ρ ρ' : Nat → Value} {β : Nat → Nat}
theorem denV_under (hρ : ∀ i, i < n → ρ' i = ρ i) {vs : List SV} (h : vs.all (·.under n) = true) : denV ρ' β vs = denV ρ β vs := by
  simp only [denV, SVs_under hρ h]
theorem Piece.den_under (hρ : ∀ i, i < n → ρ' i = ρ i) {p : Piece} (h : p.under n = true) : p.den ρ' β = p.den ρ β := by
  have := densP_under (β := β) hρ (ps := [p]) (by simp [h])
  simpa [densP] using this
theorem turns_under [Outer] {P : Program} {ρ1 ρ2 : Nat → Value} {nx : Nat} {f : FuncId} {args : Array Value} {pre post news : List (Nat × MB)} {res : SW} (hpre : ∀ x ∈ pre, ∀ β, x.2.fits ρ1 β = x.2.fits ρ2 β) (hpost : ∀ x ∈ post, ∀ β, x.2.fits ρ1 β = x.2.fits ρ2 β)
    (hnews : ∀ x ∈ news, ∀ β, x.2.fits ρ1 β = x.2.fits ρ2 β) (hres : ∀ β, res.den ρ1 β = res.den ρ2 β) (h : Turns P ρ2 β nx f args pre post news res) : Turns P ρ1 β nx f args pre post news res := fun w hr hw => by
  refine (h w hr fun x hx => ?_).mono fun e w' ⟨β', h1, h2, h3, h4, h5, h6⟩ => ⟨β', h1, by rw [hres]; exact h2, h3, fun x hx => ?_, fun x hx => ?_, h6⟩
  · obtain ⟨o, ho, hf⟩ := hw x hx; exact ⟨o, ho, by rw [← hpre x hx]; exact hf⟩
  · obtain ⟨o, ho, hf⟩ := h4 x hx; exact ⟨o, ho, by rw [hpost x hx]; exact hf⟩
  · obtain ⟨hs, o, ho, hf⟩ := h5 x hx; exact ⟨hs, o, ho, by rw [hnews x hx]; exact hf⟩
theorem underL_fits (hρ : ∀ i, i < n → ρ' i = ρ i) {l : List (Nat × MB)} (h : underL n l = true) : ∀ x ∈ l, ∀ β, x.2.fits ρ' β = x.2.fits ρ β := fun x hx _ =>
  MB.fits_under hρ (List.all_eq_true.1 h x hx)
theorem look_under {tm : List SW} (h : tm.all (·.under n) = true) (t : Nat) : (look tm t).under n = true := by
  rw [look_get]
  cases ht : tm[t]? with
  | none => rfl
  | some x => exact List.all_eq_true.1 h x (List.mem_of_getElem? ht)
theorem find_under {mem : Mem} (h : underM n mem = true) {i : Nat} {m : MB} (hf : find i mem = some m) : m.under n = true := by
  induction mem with
  | nil => cases hf
  | cons x l ih =>
    obtain ⟨j, m'⟩ := x
    simp only [underM, List.all_cons, Bool.and_eq_true] at h
    simp only [find] at hf
    split at hf
    · subst hf; exact h.1
    · exact ih h.2 hf
theorem Mrel.under [Outer] {inh : List Nat} {w0 w : World} {mm : Nat → Option MB} (hm : ∀ i m, mm i = some m → m.fits ρ' β = m.fits ρ β) (h : Mrel ρ β inh w0 mm w) : Mrel ρ' β inh w0 mm w :=
  ⟨h.os, h.tape, h.output, h.size, h.old, fun i m hi => by obtain ⟨o, ho, hf⟩ := h.cells i m hi; exact ⟨o, ho, by rw [hm i m hi]; exact hf⟩, h.own, h.inj, h.ro⟩
theorem Rel.under [Outer] {inh : List Nat} {w0 w : World} {st : St} {a : Act} (hρ : ∀ i, i < n → ρ' i = ρ i) (hs : st.under n = true) (h : Rel ρ β inh w0 st a w) : Rel ρ' β inh w0 st a w := by
  simp only [St.under, Bool.and_eq_true] at hs
  refine ⟨⟨h.1.1, fun t v hv => (h.1.2 t v hv).imp id fun e => ?_⟩, h.2.1, Mrel.under (fun i m hi => MB.fits_under hρ (find_under hs.2 hi)) h.2.2⟩
  rw [e, SW.den_under hρ (look_under hs.1 t)]
end
theorem denJ_under {n : Nat} {ρ ρ' : Nat → Value} {β : Nat → Nat} (hρ : ∀ i, i < n → ρ' i = ρ i) : ∀ {l : List (List Piece × Tm)}, partsUnder n l = true → denJ ρ' β l = denJ ρ β l
  | [], _ => rfl
  | x :: l, h => by
    simp only [partsUnder, List.all_cons, Bool.and_eq_true] at h
    simp only [denJ]
    rw [densP_under hρ h.1.1, denJ_under hρ (by simpa [partsUnder] using h.2)]
theorem partsOk_under {n e : Nat} {ρ ρ' : Nat → Value} {β : Nat → Nat} (hρ : ∀ i, i < n → ρ' i = ρ i) {l : List (List Piece × Tm)} (h : partsUnder n l = true) (hp : partsOk ρ β e l) : partsOk ρ' β e l := fun x hx => by
  obtain ⟨k, h1, h2⟩ := hp x hx
  have := List.all_eq_true.1 h x hx
  simp only [Bool.and_eq_true] at this
  exact ⟨k, by simp only [Tm.i, Tm.den_under hρ this.2] at h1 ⊢; exact h1, by rw [densP_under hρ this.1]; exact h2⟩
theorem Ev.next_le {n m : Nat} {e : Ev} (h : e.next n = some m) : n ≤ m := by
  cases e <;> simp only [Ev.next] at h <;> split at h <;> simp at h <;> omega
theorem nexts_le [Outer] : ∀ {es : List Ev} {n m : Nat}, nexts es n = some m → n ≤ m
  | [], n, m, h => by cases h; exact Nat.le_refl _
  | e :: es, n, m, h => by
    simp only [nexts] at h
    split at h
    · cases h
    · rename_i k hk
      have := Ev.next_le hk
      have := nexts_le h
      omega
theorem Ev.holds_under [Outer] {P : Program} {n m : Nat} {ρ ρ' : Nat → Value} {e : Ev} (h : e.next n = some m) (hρ : ∀ i, i < m → ρ' i = ρ i) (hh : e.holds P ρ) : e.holds P ρ' := by
  have hn : ∀ i, i < n → ρ' i = ρ i := fun i hi => hρ i (Nat.lt_of_lt_of_le hi (Ev.next_le h))
  cases e <;> simp only [Ev.next] at h <;> split at h <;> simp only [Option.some.injEq, reduceCtorEq] at h <;> rename_i hu <;> simp only [Ev.holds] at hh ⊢
  · rw [BTm.den_under hn hu]; exact hh
  · simp only [Tm.i] at hh ⊢; rw [Tm.den_under hn hu]; exact hh
  · simp only [Bool.and_eq_true] at hu
    intro β
    rw [SV.den_under hn hu.1.1, SV.den_under hn hu.1.2, hρ _ (by rw [natBeq hu.2]; omega)]
    exact hh β
  · simp only [Bool.and_eq_true] at hu
    intro β
    rw [denV_under hn hu.1, SW.den_under (by rw [h]; exact hρ) hu.2]
    exact hh β
  · simp only [Bool.and_eq_true] at hu
    obtain ⟨⟨⟨⟨u1, u2⟩, u3⟩, u4⟩, u5⟩ := hu
    rw [h] at u3 u4 u5
    intro β hβ
    rw [denV_under hn u1]
    exact turns_under (underL_fits hn u2) (underL_fits hρ u3) (underL_fits hρ u4) (fun β => SW.den_under hρ u5) (hh β hβ)
  · simp only [Bool.and_eq_true] at hu
    obtain ⟨⟨u1, u2⟩, u3⟩ := hu
    rw [h] at u3
    intro β
    rw [Piece.den_under hn u1, densP_under hρ u3]
    simp only [Tm.i, Tm.den_under hn u2]
    exact hh β
  · simp only [Bool.and_eq_true] at hu
    obtain ⟨⟨⟨u1, u2⟩, u3⟩, u4⟩ := hu
    rw [h] at u4
    intro β
    rw [Piece.den_under hn u1, densP_under hn u3, Piece.den_under hρ u4]
    simp only [Tm.i, Tm.den_under hn u2]
    exact hh β
  · simp only [Bool.and_eq_true] at hu
    obtain ⟨⟨u1, u2⟩, u3⟩ := hu
    rw [h] at u2 u3
    rename_i f k st st' x alt _
    intro c hc inh w0 β a w hR Q hQ
    have hx : altX ρ' x alt = altX ρ x alt := by
      cases alt with
      | none => rfl
      | some by' => simp only [altX]; rw [hρ _ (by simpa [altUnder, Nat.blt_eq] using u3)]
    rw [hx] at hQ
    exact hh c hc inh w0 β a w (hR.under (fun i hi => (hn i hi).symm) u1) Q fun β' a' w' hβ hR' => hQ β' a' w' hβ (hR'.under hρ u2)
  · simp only [Bool.and_eq_true] at hu
    obtain ⟨u1, u2⟩ := hu
    rw [h] at u2
    intro β
    obtain ⟨h1, h2⟩ := hh β
    rw [densP_under hρ u2, denJ_under hn u1]
    exact ⟨h1, partsOk_under hn u1 h2⟩

def env (ρ : List Value) : Nat → Value := fun i => ρ.getD i undef
theorem env_append (ρ vs : List Value) : ∀ i, i < ρ.length → env (ρ ++ vs) i = env ρ i := fun i hi => by
  simp only [env, List.getD_eq_getElem?_getD, List.getElem?_append_left hi]

def evDen [Outer] (P : Program) (K : List Value → Prop) : List Ev → List Value → Prop
  | [], ρ => K ρ
  | .need b :: es, ρ => b.den (env ρ) = true ∧ evDen P K es ρ
  | .fits k t :: es, ρ => (k.min ≤ t.i (env ρ) ∧ t.i (env ρ) ≤ k.max) ∧ evDen P K es ρ
  | .same t x y _ :: es, ρ => ∃ b : Bool, (∀ β, SameFact P t (x.den (env ρ) β) (y.den (env ρ) β) b) ∧ evDen P K es (ρ ++ [.bool b])
  | .call f as1 r n :: es, ρ => ∃ vs : List Value, vs.length = n ∧ (∀ β, Pure P f (denV (env ρ) β as1) (r.den (env (ρ ++ vs)) β)) ∧ evDen P K es (ρ ++ vs)
  | .turn nx f as1 p q m r n :: es, ρ => ∃ vs : List Value, vs.length = n ∧ (∀ β, (∀ x ∈ p, ∀ y ∈ p, x.2.live β = true → y.2.live β = true → β x.1 = β y.1 → x.1 = y.1) → Turns P (env (ρ ++ vs)) β nx f (denV (env ρ) β as1) p q m r) ∧ evDen P K es (ρ ++ vs)
  | .elem s i e fo ps n :: es, ρ => ∃ vs : List Value, vs.length = n ∧ Ev.holds P (env (ρ ++ vs)) (.elem s i e fo ps n) ∧ evDen P K es (ρ ++ vs)
  | .put s i e fo ps q n :: es, ρ => ∃ vs : List Value, vs.length = n ∧ Ev.holds P (env (ρ ++ vs)) (.put s i e fo ps q n) ∧ evDen P K es (ρ ++ vs)
  | .join ps l e n :: es, ρ => ∃ vs : List Value, vs.length = n ∧ Ev.holds P (env (ρ ++ vs)) (.join ps l e n) ∧ evDen P K es (ρ ++ vs)
  | .loop f k st st' x alt n :: es, ρ => ∃ vs : List Value, vs.length = n ∧ Ev.holds P (env (ρ ++ vs)) (.loop f k st st' x alt n) ∧ evDen P K es (ρ ++ vs)

theorem evDen_sound [Outer] {P : Program} {K : List Value → Prop} : ∀ {es : List Ev} {ρ : List Value} {m : Nat}, nexts es ρ.length = some m → evDen P K es ρ → ∃ vs, (ρ ++ vs).length = m ∧ K (ρ ++ vs) ∧ Holds P (env (ρ ++ vs)) es
  | [], ρ, m, h, hd => by cases h; exact ⟨[], by simp, by simpa [evDen] using hd, fun e he => by cases he⟩
  | e :: es, ρ, m, h, hd => by
    simp only [nexts] at h
    split at h
    · cases h
    · rename_i k hk
      have step : ∀ vs : List Value, (ρ ++ vs).length = k → e.holds P (env (ρ ++ vs)) → evDen P K es (ρ ++ vs) → ∃ vs, (ρ ++ vs).length = m ∧ K (ρ ++ vs) ∧ Holds P (env (ρ ++ vs)) (e :: es) := fun vs hl he hd' => by
        obtain ⟨us, h1, h2, h3⟩ := evDen_sound (by rw [hl]; exact h) hd'
        refine ⟨vs ++ us, by rw [← List.append_assoc]; exact h1, by rw [← List.append_assoc]; exact h2, fun e' he' => ?_⟩
        rw [← List.append_assoc]
        rcases List.mem_cons.1 he' with rfl | he'
        · exact Ev.holds_under hk (fun i hi => env_append _ _ i (by rw [hl]; exact hi)) he
        · exact h3 e' he'
      have hlen : ∀ {n : Nat} {vs : List Value}, ρ.length + n = k → vs.length = n → (ρ ++ vs).length = k := fun h1 h2 => by simp; omega
      cases e with
      | need b =>
        simp only [evDen] at hd
        have : ρ.length = k := by simp only [Ev.next] at hk; split at hk <;> simp at hk; exact hk
        exact step [] (by simpa using this) (by simpa [Ev.holds] using hd.1) (by simpa using hd.2)
      | fits kd t =>
        simp only [evDen] at hd
        have : ρ.length = k := by simp only [Ev.next] at hk; split at hk <;> simp at hk; exact hk
        exact step [] (by simpa using this) (by simpa [Ev.holds] using hd.1) (by simpa using hd.2)
      | same t x y i =>
        simp only [evDen] at hd
        obtain ⟨b, hb, hd⟩ := hd
        simp only [Ev.next] at hk
        split at hk
        · rename_i hu
          simp only [Bool.and_eq_true] at hu
          simp only [Option.some.injEq] at hk
          refine step [.bool b] (by simpa using hk) (fun β => ?_) hd
          rw [SV.den_under (env_append ρ _) hu.1.1, SV.den_under (env_append ρ _) hu.1.2]
          have : env (ρ ++ [.bool b]) i = .bool b := by rw [natBeq hu.2]; simp [env]
          rw [this]
          exact hb β
        · cases hk
      | call f as1 r n =>
        simp only [evDen] at hd
        obtain ⟨vs, hl, hb, hd⟩ := hd
        simp only [Ev.next] at hk
        split at hk
        · rename_i hu
          simp only [Bool.and_eq_true] at hu
          simp only [Option.some.injEq] at hk
          refine step vs (hlen hk hl) (fun β => ?_) hd
          rw [denV_under (env_append ρ _) hu.1]
          exact hb β
        · cases hk
      | turn nx f as1 p q ms r n =>
        simp only [evDen] at hd
        obtain ⟨vs, hl, hb, hd⟩ := hd
        simp only [Ev.next] at hk
        split at hk
        · rename_i hu
          simp only [Bool.and_eq_true] at hu
          simp only [Option.some.injEq] at hk
          refine step vs (hlen hk hl) (fun β hβ => ?_) hd
          rw [denV_under (env_append ρ _) hu.1.1.1.1]
          exact hb β hβ
        · cases hk
      | elem s i e fo ps n =>
        simp only [evDen] at hd
        obtain ⟨vs, hl, hb, hd⟩ := hd
        simp only [Ev.next] at hk
        split at hk
        · simp only [Option.some.injEq] at hk
          exact step vs (hlen hk hl) hb hd
        · cases hk
      | put s i e fo ps q n =>
        simp only [evDen] at hd
        obtain ⟨vs, hl, hb, hd⟩ := hd
        simp only [Ev.next] at hk
        split at hk
        · simp only [Option.some.injEq] at hk
          exact step vs (hlen hk hl) hb hd
        · cases hk
      | loop f j st st' x alt n =>
        simp only [evDen] at hd
        obtain ⟨vs, hl, hb, hd⟩ := hd
        simp only [Ev.next] at hk
        split at hk
        · simp only [Option.some.injEq] at hk
          exact step vs (hlen hk hl) hb hd
        · cases hk
      | join ps l e n =>
        simp only [evDen] at hd
        obtain ⟨vs, hl, hb, hd⟩ := hd
        simp only [Ev.next] at hk
        split at hk
        · simp only [Option.some.injEq] at hk
          exact step vs (hlen hk hl) hb hd
        · cases hk

inductive Tree (α : Type) where
  | leaf (evs : List Ev) (ret : α)
  | ite (evs : List Ev) (c : BTm) (t e : Tree α)
  | bad (why : String)

def strip : List Ev → List Ev → Option (List Ev)
  | [], es => some es
  | _ :: _, [] => none
  | x :: xs, e :: es => if x.beq e then strip xs es else none
def build {α : Type} (run : Asm → R α) : Nat → Asm → List Ev → Nat → Tree α
  | 0, _, _, _ => .bad "too many ways"
  | d + 1, asm, known, n => match run asm with
    | .bad why => .bad why
    | .ok ret evs => match strip known evs with
      | none => .bad "prefix"
      | some es => match nexts es n with
        | none => .bad "variables"
        | some _ => .leaf es ret
    | .split c evs => match strip known evs with
      | none => .bad "prefix"
      | some es => match nexts es n with
        | none => .bad "variables"
        | some m => if c.under m then .ite es c (build run d ((c, true) :: asm) evs m) (build run d ((c, false) :: asm) evs m) else .bad "condition"

def Tree.den [Outer] {α : Type} (P : Program) (Q : List Value → α → Prop) : Tree α → List Value → Prop
  | .leaf evs ret, ρ => evDen P (fun ρ' => Q ρ' ret) evs ρ
  | .ite evs c t e, ρ => evDen P (fun ρ' => (c.den (env ρ') = true → t.den P Q ρ') ∧ (c.den (env ρ') = false → e.den P Q ρ')) evs ρ
  | .bad _, _ => False

theorem strip_eq [Outer] : ∀ {xs es rest : List Ev}, strip xs es = some rest → es = xs ++ rest
  | [], es, rest, h => by cases h; rfl
  | x :: xs, [], rest, h => by cases h
  | x :: xs, e :: es, rest, h => by
    simp only [strip] at h
    split at h
    · rename_i hb
      rw [Ev.beq_eq hb, strip_eq h]; rfl
    · cases h
theorem build_sound [Outer] {α : Type} {P : Program} {run : Asm → R α} {Q : List Value → α → Prop} : ∀ {d : Nat} {asm : Asm} {known : List Ev} {ρ : List Value}, Asm.den (env ρ) asm → (∀ x ∈ asm, x.1.under ρ.length = true) → (∀ e ∈ known, ∀ vs, e.holds P (env (ρ ++ vs))) →
    (build run d asm known ρ.length).den P Q ρ → ∃ vs asm' ret evs, run asm' = .ok ret evs ∧ Asm.den (env (ρ ++ vs)) asm' ∧ Holds P (env (ρ ++ vs)) evs ∧ Q (ρ ++ vs) ret
  | 0, asm, known, ρ, _, _, _, h => h.elim
  | d + 1, asm, known, ρ, hasm, hau, hkn, h => by
    have hasm' : ∀ vs, Asm.den (env (ρ ++ vs)) asm := fun vs x hx => by rw [BTm.den_under (env_append ρ vs) (hau x hx)]; exact hasm x hx
    simp only [build] at h
    split at h
    · exact h.elim
    · rename_i ret evs hrun
      split at h
      · exact h.elim
      · rename_i es hs
        split at h
        · exact h.elim
        · rename_i m hm
          simp only [Tree.den] at h
          obtain ⟨vs, h1, h2, h3⟩ := evDen_sound hm h
          refine ⟨vs, asm, ret, evs, hrun, hasm' vs, fun e he => ?_, h2⟩
          rw [strip_eq hs] at he
          rcases List.mem_append.1 he with he | he
          · exact hkn e he vs
          · exact h3 e he
    · rename_i c evs hrun
      split at h
      · exact h.elim
      · rename_i es hs
        split at h
        · exact h.elim
        · rename_i m hm
          split at h
          · rename_i hc
            simp only [Tree.den] at h
            obtain ⟨vs, h1, h2, h3⟩ := evDen_sound hm h
            have hkn' : ∀ e ∈ evs, ∀ us, e.holds P (env ((ρ ++ vs) ++ us)) := fun e he us => by
              rw [strip_eq hs] at he
              rcases List.mem_append.1 he with he | he
              · rw [List.append_assoc]; exact hkn e he _
              · have hh := h3 e he
                -- what the event speaks of is known
                have : ∀ {es : List Ev} {n m : Nat}, nexts es n = some m → ∀ e ∈ es, ∃ a b, e.next a = some b ∧ b ≤ m := by
                  intro es
                  induction es with
                  | nil => intro n m _ e he; cases he
                  | cons x xs ih =>
                    intro n m h e he
                    simp only [nexts] at h
                    split at h
                    · cases h
                    · rename_i k hk
                      rcases List.mem_cons.1 he with rfl | he
                      · exact ⟨n, k, hk, nexts_le h⟩
                      · exact ih h e he
                obtain ⟨a, b, hab, hbm⟩ := this hm e he
                exact Ev.holds_under hab (fun i hi => env_append _ _ i (by rw [h1]; omega)) hh
            have hau' : ∀ x ∈ asm, x.1.under (ρ ++ vs).length = true := fun x hx => under_le (by simp) (hau x hx)
            have fin : ∀ (b : Bool), c.den (env (ρ ++ vs)) = b → (build run d ((c, b) :: asm) evs m).den P Q (ρ ++ vs) → ∃ vs asm' ret evs, run asm' = .ok ret evs ∧ Asm.den (env (ρ ++ vs)) asm' ∧ Holds P (env (ρ ++ vs)) evs ∧ Q (ρ ++ vs) ret := fun b hb ht => by
              rw [← h1] at ht
              obtain ⟨us, asm'', ret, evs', k1, k2, k3, k4⟩ := build_sound (ρ := ρ ++ vs) (asm := (c, b) :: asm) (known := evs) (fun x hx => by
                  rcases List.mem_cons.1 hx with rfl | hx
                  · exact hb
                  · exact hasm' vs x hx) (fun x hx => by
                  rcases List.mem_cons.1 hx with rfl | hx
                  · simp only [h1]; exact hc
                  · exact hau' x hx) hkn' ht
              exact ⟨vs ++ us, asm'', ret, evs', k1, by rw [← List.append_assoc]; exact k2, by rw [← List.append_assoc]; exact k3, by rw [← List.append_assoc]; exact k4⟩
            cases hb : c.den (env (ρ ++ vs)) with
            | true => exact fin true hb (h2.1 hb)
            | false => exact fin false hb (h2.2 hb)
          · exact h.elim
where
  under_le {n m : Nat} (hnm : n ≤ m) : ∀ {b : BTm}, b.under n = true → b.under m = true := by
    have ht : ∀ {t : Tm}, t.under n = true → t.under m = true := by
      intro t
      induction t with
      | v i => intro h; simp only [Tm.under, Nat.blt_eq] at h ⊢; omega
      | lit _ => intro _; rfl
      | str _ => intro _; rfl
      | ari o k a b iha ihb => intro h; simp only [Tm.under, Bool.and_eq_true] at h ⊢; exact ⟨iha h.1, ihb h.2⟩
      | ex o a b iha ihb => intro h; simp only [Tm.under, Bool.and_eq_true] at h ⊢; exact ⟨iha h.1, ihb h.2⟩
      | shf o k a b iha ihb => intro h; simp only [Tm.under, Bool.and_eq_true] at h ⊢; exact ⟨iha h.1, ihb h.2⟩
      | cnv k a iha => intro h; simp only [Tm.under] at h ⊢; exact iha h
      | len a iha => intro h; simp only [Tm.under] at h ⊢; exact iha h
      | byte a b iha ihb => intro h; simp only [Tm.under, Bool.and_eq_true] at h ⊢; exact ⟨iha h.1, ihb h.2⟩
      | cat a b iha ihb => intro h; simp only [Tm.under, Bool.and_eq_true] at h ⊢; exact ⟨iha h.1, ihb h.2⟩
      | sub a b c iha ihb ihc => intro h; simp only [Tm.under, Bool.and_eq_true] at h ⊢; exact ⟨⟨iha h.1.1, ihb h.1.2⟩, ihc h.2⟩
    intro b
    induction b with
    | v i => intro h; simp only [BTm.under, Nat.blt_eq] at h ⊢; omega
    | lit _ => intro _; rfl
    | no a ih => intro h; simp only [BTm.under] at h ⊢; exact ih h
    | eq a b => intro h; simp only [BTm.under, Bool.and_eq_true] at h ⊢; exact ⟨ht h.1, ht h.2⟩
    | lt a b => intro h; simp only [BTm.under, Bool.and_eq_true] at h ⊢; exact ⟨ht h.1, ht h.2⟩
    | seq a b => intro h; simp only [BTm.under, Bool.and_eq_true] at h ⊢; exact ⟨ht h.1, ht h.2⟩
    | slt a b => intro h; simp only [BTm.under, Bool.and_eq_true] at h ⊢; exact ⟨ht h.1, ht h.2⟩

def argsUnder (args : List SW) (mem : Mem) (n : Nat) : Bool := args.all (·.under n) && underM n mem
structure Plain (P : Program) : Prop where
  names : ∀ (f : Nat) (fn : Func), P.funcs[f]? = some fn → (fn.name == "runtime.NumGoroutine") = false
  order : P.follows .mixedOrders = true

def keepM (n : Nat) : Mem → Mem
  | [] => []
  | (i, m) :: l => if Nat.blt i n then (i, m) :: keepM n l else keepM n l
theorem find_keepM [Outer] {n i : Nat} (hi : i < n) : ∀ {mem : Mem}, find i (keepM n mem) = find i mem
  | [] => rfl
  | (j, m) :: l => by
    simp only [keepM]
    split
    · simp only [find, find_keepM hi (mem := l)]
    · rename_i hj
      have hb : Nat.beq i j = false := by
        rw [Bool.eq_false_iff]; intro h; rw [natBeq h] at hi; exact hj (by simpa [Nat.blt_eq] using hi)
      simp only [find, hb, Bool.false_eq_true, if_false, find_keepM hi (mem := l)]
theorem find_keepM_ge [Outer] {n i : Nat} (hi : n ≤ i) : ∀ {mem : Mem}, find i (keepM n mem) = none
  | [] => rfl
  | (j, m) :: l => by
    simp only [keepM]
    split
    · rename_i hj
      have hb : Nat.beq i j = false := by
        rw [Bool.eq_false_iff]; intro h; rw [natBeq h] at hi; simp only [Nat.blt_eq] at hj; omega
      simp only [find, hb, Bool.false_eq_true, if_false, find_keepM_ge hi (mem := l)]
    · exact find_keepM_ge hi (mem := l)
structure Out where
  val : SW
  mem : Mem
def idsIn : List Nat → Nat → Bool
  | [], _ => true
  | i :: l, n => Nat.blt i n && idsIn l n
def trim (n : Nat) (r : Ret) : Out := ⟨r.val, if idsIn r.val.ids n then keepM n r.mem else r.mem⟩
def runOf (P : Program) (cfg : Cfg) (f : FuncId) (args : List SW) (mem : Mem) (nx nv : Nat) (asm : Asm) : R Out := (execF P cfg asm 40 12 f args mem nx nv).bind fun r => .ok (trim nx r) []
def treeOf (P : Program) (cfg : Cfg) (f : FuncId) (args : List SW) (mem : Mem) (nx n : Nat) : Tree Out := build (runOf P cfg f args mem nx n) 60 [] [] n

theorem calls_of [Outer] {P : Program} (hP : Plain P) {cfg : Cfg} {f : FuncId} {args : List SW} {mem : Mem} {nx : Nat} {T : Tree Out} (ρ : List Value) (hT : treeOf P cfg f args mem nx ρ.length = T) (hu : argsUnder args mem ρ.length = true) (β : Nat → Nat) (inh : List Nat) (w : World)
    (hM : Mrel (env ρ) β inh w (fun i => find i mem) w) (Q : List Value → Out → Prop) (h : T.den P Q ρ) :
    Calls P f (denT (env ρ) β args) w fun e w' => ∃ vs ret β', Q (ρ ++ vs) ret ∧ (∀ i, i < nx → β' i = β i) ∧ e = .returned (ret.val.den (env (ρ ++ vs)) β') ∧ Mrel (env (ρ ++ vs)) β' inh w (fun i => find i ret.mem) w' := by
  subst hT
  obtain ⟨vs, asm', ret, evs, hrun, hasm, hev, hv⟩ := build_sound (asm := []) (known := []) (fun x hx => by cases hx) (fun x hx => by cases hx) (fun e he => by cases he) h
  obtain ⟨r, e1, e2, h1, h2, rfl⟩ := R.bind_ok hrun
  cases h2
  simp only [argsUnder, Bool.and_eq_true] at hu
  have hM' : Mrel (env (ρ ++ vs)) β inh w (fun i => find i mem) w := hM.under fun i m hi => MB.fits_under (env_append ρ vs) (find_under hu.2 hi)
  obtain ⟨fn, _, _, hc⟩ := execF_ok hP.names hasm hP.order _ f args mem nx ρ.length r e1 h1 (fun e he => hev e (by simp [he])) β inh w w hM'
  have ha : denT (env (ρ ++ vs)) β args = denT (env ρ) β args := by
    simp only [denT]
    congr 1
    refine List.map_congr_left fun x hx => SW.den_under (env_append ρ vs) (List.all_eq_true.1 hu.1 x hx)
  rw [ha] at hc
  refine hc.mono fun e w' ⟨β', hβ, he, hm⟩ => ⟨vs, trim nx r, β', hv, hβ, he, ?_⟩
  simp only [trim]
  split
  · exact hm.less fun i m hi => by
      rcases Nat.lt_or_ge i nx with hlt | hge
      · rw [← hi, find_keepM hlt]
      · rw [find_keepM_ge hge] at hi; cases hi
  · exact hm
theorem reads_of [Outer] {P : Program} (hP : Plain P) {cfg : Cfg} {f : FuncId} {args : List SW} {T : Tree Out} (ρ : List Value) (hT : treeOf P cfg f args [] 0 ρ.length = T) (hu : argsUnder args [] ρ.length = true) (v : Value)
    (h : T.den P (fun ρ' ret => ∀ β, ret.val.den (env ρ') β = v) ρ) (w : World) (hr : ∀ x ∈ Outer.r, w.heap[x.1]? = some x.2) : Calls P f (denT (env ρ) (fun _ => 0) args) w fun e w' => e = .returned v ∧ Below w.heap.size w w' := by
  have hM : Mrel (env ρ) (fun _ => 0) [] w (fun i => find i []) w := ⟨rfl, rfl, rfl, Nat.le_refl _, fun _ _ _ => rfl, fun i m hm => (by cases hm), fun i m hm => (by cases hm), fun i j m m' hm => (by cases hm), fun x hx => ⟨hr x hx, by simp⟩⟩
  refine (calls_of hP ρ hT hu (fun _ => 0) [] w hM _ h).mono fun e w' ⟨vs, ret, β', hv, _, he, hm⟩ => ⟨by rw [he]; exact congrArg Ending.returned (hv β'), hm.os, hm.tape, hm.output, hm.size, fun k hk => hm.old k hk (by simp)⟩

structure Round where
  exit : SExit
  diffs : List (SW × SW)
def isDead : SW → Bool
  | .dead => true
  | _ => false
def diffT (n : Nat) : List SW → List SW → Option (List (SW × SW))
  | [], [] => some []
  | p :: ps, q :: qs => match diffT n ps qs with
    | none => none
    | some l => if isDead q then some l else if p.beq q && p.under n then some l else if isDead p then none else some ((p, q) :: l)
  | _, _ => none
def diffM (n : Nat) (mem : Mem) : Mem → Option (List (SW × SW))
  | [] => some []
  | (_, none) :: l => diffM n mem l
  | (i, some m) :: l => match find i mem, diffM n mem l with
    | some m', some d => if Nat.beq m'.ty m.ty && capBeq m'.cap m.cap then
        if listBeq Piece.beq m'.ps m.ps && m.under n then some d else some ((.one (.agg m'.ps), .one (.agg m.ps)) :: d)
      else none
    | _, _ => none
def diff0 (n : Nat) (st sth : St) : Option (List (SW × SW)) :=
  match diffT n st.tmps sth.tmps, diffM n st.mem sth.mem, keysNodup sth.mem with
  | some a, some b, true => some (a ++ b)
  | _, _, _ => none
def killT : List SW → List SW → List SW
  | p :: ps, q :: qs => (if isDead q then .dead else p) :: killT ps qs
  | ps, _ => ps
def idsT : List SW → List Nat
  | [] => []
  | x :: l => x.ids ++ idsT l
def idsMem : Mem → List Nat
  | [] => []
  | (_, none) :: l => idsMem l
  | (i, some m) :: l => i :: (m.ids ++ idsMem l)
def renameL (sth : St) (t b c : Nat) (st : St) : Option St :=
  match !memN b (idsT st.tmps ++ idsMem st.mem) && !memN c (idsT st.tmps ++ idsMem st.mem) && !Nat.beq b c with
  | false => match look st.tmps t with
    | .one (.cell (.sl b' c' _)) => if Nat.beq b' b && Nat.beq c' c then some st else none
    | _ => none
  | true => match look st.tmps t with
    | .one (.cell (.sl b' c' L)) => match find b' st.mem with
      | some m => match m.cap with
        | some (c2, e) => if Nat.beq c2 c' then some ⟨st.tmps.set t (.one (.cell (.sl b c L))), putM b (some ⟨m.ty, m.ps, some (c, e)⟩) (putM b' none st.mem), st.nx, st.nv⟩ else none
        | none => none
      | none => none
    | .one (.cell (.const (.slice none 0 0))) => match find b sth.mem with
      | some m => match m.cap with
        | some (_, e) => some ⟨st.tmps.set t (.one (.cell (.sl b c (.lit 0)))), putM b (some ⟨m.ty, [], some (c, e)⟩) st.mem, st.nx, st.nv⟩
        | none => none
      | none => none
    | .one (.cell (.slice b' 0 k k')) => match find b' st.mem, find b sth.mem with
      | some m, some mh => match m.cap, mh.cap, sizeP m.ps with
        | none, some (_, e), some l => if Nat.beq k k' && Nat.beq l (k * e) then some ⟨st.tmps.set t (.one (.cell (.sl b c (.lit ((k : Nat) : Int))))), putM b (some ⟨m.ty, m.ps, some (c, e)⟩) (putM b' none st.mem), st.nx, st.nv⟩ else none
        | _, _, _ => none
      | _, _ => none
    | _ => none
def renameB (t b : Nat) (st : St) : Option St :=
  match look st.tmps t with
  | .one (.cell (.box b')) => if Nat.beq b' b then some st else none
  | .one (.cell (.ptr b' 0)) => match find b' (putM b none st.mem) with
    | some m => match m.cap with
      | none => if !memN b (idsT st.tmps ++ idsMem (putM b none st.mem)) && !memN (b + 1) (idsT st.tmps ++ idsMem (putM b none st.mem)) then some ⟨st.tmps.set t (.one (.cell (.box b))), putM b (some ⟨m.ty, m.ps, none⟩) (putM b' none (putM b none st.mem)), st.nx, st.nv⟩ else none
      | some _ => none
    | none => none
  | _ => none
def prepL (n : Nat) (sth : St) : Nat → List SW → St → Option St
  | _, [], st => some st
  | t, q :: qs, st => match q with
    | .one (.cell (.sl b c (.v i))) => match Nat.ble n i with
      | true => match renameL sth t b c st with
        | none => none
        | some st' => prepL n sth (t + 1) qs st'
      | false => prepL n sth (t + 1) qs st
    | .one (.cell (.box b)) => match renameB t b st with
      | none => none
      | some st' => prepL n sth (t + 1) qs st'
    | _ => prepL n sth (t + 1) qs st
def newNames (n : Nat) : List SW → List Nat
  | [] => []
  | q :: qs => match q with
    | .one (.cell (.sl b c (.v i))) => match Nat.ble n i with
      | true => b :: c :: newNames n qs
      | false => newNames n qs
    | .one (.cell (.box b)) => b :: (b + 1) :: newNames n qs
    | _ => newNames n qs
def diff (n : Nat) (st sth : St) : Option (List (SW × SW)) :=
  match prepL n sth 0 sth.tmps ⟨killT st.tmps sth.tmps, st.mem, st.nx, st.nv⟩ with
  | none => none
  | some st' => diff0 n st' sth
def runRound (P : Program) (cfg : Cfg) (f k n : Nat) (sth : St) (c : Code) (asm : Asm) : R Round :=
  (execC P cfg asm (execF P cfg asm 40 12) 40 f (k + 1) c sth).bind fun x => match diff n x.2 sth with
    | none => .bad "round"
    | some d => .ok ⟨x.1, d⟩ []
def treeRound (P : Program) (cfg : Cfg) (f k n m : Nat) (sth : St) : Tree Round :=
  match loopAt P f k with
  | none => .bad "no such loop"
  | some c => build (runRound P cfg f k n sth c) 60 [] [] (n + m)

section
variable {ρ ρ' : Nat → Value} {n : Nat}
theorem diffT_rel [Outer] (hρ : ∀ i, i < n → ρ' i = ρ i) {β : Nat → Nat} : ∀ {ps qs : List SW} {l : List (SW × SW)}, diffT n ps qs = some l → (∀ x ∈ l, x.1.den ρ' β = x.2.den ρ β) → ps.length = qs.length ∧ ∀ t, look qs t = .dead ∨ (look ps t ≠ .dead ∧ (look ps t).den ρ' β = (look qs t).den ρ β)
  | [], [], l, h, _ => ⟨rfl, fun t => .inr ⟨by simp [look], rfl⟩⟩
  | [], _ :: _, l, h, _ => by simp [diffT] at h
  | p :: ps, [], l, h, _ => by simp [diffT] at h
  | p :: ps, q :: qs, l, h, hl => by
    simp only [diffT] at h
    split at h
    · cases h
    · rename_i l' hl'
      split at h
      · rename_i hq
        cases h
        obtain ⟨h1, h2⟩ := diffT_rel hρ hl' hl
        refine ⟨by simp [h1], fun t => ?_⟩
        cases t with
        | zero => exact .inl (by simp only [look]; revert hq; cases q <;> simp [isDead])
        | succ t => exact h2 t
      · rename_i hq
        have hq' : q ≠ .dead := fun e => hq (by rw [e]; rfl)
        split at h
        · rename_i hb
          cases h
          simp only [Bool.and_eq_true] at hb
          obtain ⟨h1, h2⟩ := diffT_rel hρ hl' hl
          have hpq := SW.beq_eq hb.1
          refine ⟨by simp [h1], fun t => ?_⟩
          cases t with
          | zero =>
            refine .inr ⟨?_, ?_⟩
            · simp only [look]; rw [hpq]; exact hq'
            · simp only [look]; rw [← hpq, SW.den_under hρ hb.2]
          | succ t => exact h2 t
        · split at h
          · cases h
          · rename_i hp
            cases h
            obtain ⟨h1, h2⟩ := diffT_rel hρ hl' fun x hx => hl x (.tail _ hx)
            refine ⟨by simp [h1], fun t => ?_⟩
            cases t with
            | zero => exact .inr ⟨fun e => hp (by simp only [look] at e; rw [e]; rfl), hl _ (.head _)⟩
            | succ t => exact h2 t
theorem diffM_rel [Outer] (hρ : ∀ i, i < n → ρ' i = ρ i) {β : Nat → Nat} {mem : Mem} : ∀ {q : Mem} {l : List (SW × SW)}, diffM n mem q = some l → (∀ x ∈ l, x.1.den ρ' β = x.2.den ρ β) → keysNodup q = true →
    ∀ i m, find i q = some m → ∃ m', find i mem = some m' ∧ m'.cap = m.cap ∧ ∀ o, m'.fits ρ' β o → m.fits ρ β o
  | [], l, _, _, _, i, m, hf => by cases hf
  | (j, none) :: q, l, h, hl, hk, i, m, hf => by
    simp only [diffM] at h
    simp only [keysNodup, Bool.and_eq_true] at hk
    simp only [find] at hf
    split at hf
    · cases hf
    · exact diffM_rel hρ h hl hk.2 i m hf
  | (j, some m0) :: q, l, h, hl, hk, i, m, hf => by
    simp only [diffM] at h
    simp only [keysNodup, Bool.and_eq_true] at hk
    split at h
    · rename_i m' d hm' hd
      split at h
      · rename_i hb
        simp only [Bool.and_eq_true] at hb
        have hrest : ∀ l', d = l' → (∀ x ∈ l', x.1.den ρ' β = x.2.den ρ β) → find i q = some m → ∃ m', find i mem = some m' ∧ m'.cap = m.cap ∧ ∀ o, m'.fits ρ' β o → m.fits ρ β o := fun l' e hl' hq => diffM_rel hρ (by rw [hd, e]) hl' hk.2 i m hq
        have hfits : densP ρ' β m'.ps = densP ρ β m0.ps → ∀ o, m'.fits ρ' β o → m0.fits ρ β o := fun e o ⟨rest, fz, h1, h2⟩ => by
          refine ⟨rest, fz, by rw [← e, ← natBeq hb.1]; exact h1, ?_⟩
          unfold MB.room at *
          rw [← capBeq_eq hb.2, ← e]; exact h2
        simp only [find] at hf
        split at h
        · rename_i hp
          cases h
          simp only [Bool.and_eq_true] at hp
          split at hf
          · rename_i hij
            cases hf
            rw [natBeq hij]
            refine ⟨m', hm', capBeq_eq hb.2, hfits ?_⟩
            rw [listBeq_eq Piece.beq_eq hp.1]
            exact densP_under hρ hp.2
          · exact hrest _ rfl hl hf
        · cases h
          split at hf
          · rename_i hij
            cases hf
            rw [natBeq hij]
            refine ⟨m', hm', capBeq_eq hb.2, hfits ?_⟩
            have := hl _ (.head _)
            simp only [SW.den_one, SV.den, Value.agg.injEq] at this
            simpa using this
          · exact hrest _ rfl (fun x hx => hl x (.tail _ hx)) hf
      · cases h
    · cases h
theorem diff0_rel [Outer] (hρ : ∀ i, i < n → ρ' i = ρ i) {st sth : St} {l : List (SW × SW)} (h : diff0 n st sth = some l) {β : Nat → Nat} (hl : ∀ x ∈ l, x.1.den ρ' β = x.2.den ρ β) {inh : List Nat} {w0 w : World} {a : Act} (hR : Rel ρ' β inh w0 st a w) : Rel ρ β inh w0 sth a w := by
  unfold diff0 at h
  split at h
  · rename_i x y hx hy hk
    cases h
    obtain ⟨h1, h2⟩ := diffT_rel hρ hx fun z hz => hl z (List.mem_append_left _ hz)
    have h3 := diffM_rel hρ hy (fun z hz => hl z (List.mem_append_right _ hz)) hk
    refine ⟨⟨hR.1.1.trans h1, fun t v hv => ?_⟩, hR.2.1, ?_⟩
    · rcases h2 t with h | ⟨h, h'⟩
      · exact .inl h
      · refine .inr ?_
        rcases hR.1.2 t v hv with e | e
        · exact absurd e h
        · rw [e, h']
    · have hM := hR.2.2
      have lv : ∀ {m1 m : MB}, m1.cap = m.cap → m.live β = true → m1.live β = true := fun e h => by unfold MB.live at h ⊢; rw [e]; exact h
      refine ⟨hM.os, hM.tape, hM.output, hM.size, hM.old, fun i m hm => ?_, fun i m hm hl => ?_, fun i j m m' hm hm' l l' e => ?_, hM.ro⟩
      · obtain ⟨m1, f1, fc, f2⟩ := h3 i m hm
        obtain ⟨o, ho, hf⟩ := hM.cells i m1 f1
        exact ⟨o, fun hl => ho (lv fc hl), f2 o hf⟩
      · obtain ⟨m1, f1, fc, _⟩ := h3 i m hm
        exact hM.own i m1 f1 (lv fc hl)
      · obtain ⟨m1, f1, c1, _⟩ := h3 i m hm
        obtain ⟨m2, f2, c2, _⟩ := h3 j m' hm'
        exact hM.inj i j m1 m2 f1 f2 (lv c1 l) (lv c2 l') e
  · cases h
end

section
variable {P : Program} {ρ : Nat → Value} {β : Nat → Nat} {inh : List Nat} {w0 w : World}
theorem idsT_mem {i : Nat} : ∀ {l : List SW} {t : Nat}, i ∈ (look l t).ids → i ∈ idsT l
  | [], t, h => by simp [look, SW.ids] at h
  | x :: l, 0, h => List.mem_append_left _ h
  | x :: l, t + 1, h => List.mem_append_right _ (idsT_mem (l := l) (t := t) h)
theorem idsMem_find {i : Nat} {m : MB} : ∀ {l : Mem}, find i l = some m → i ∈ idsMem l ∧ ∀ j ∈ m.ids, j ∈ idsMem l
  | [], h => by cases h
  | (k, none) :: l, h => by
    simp only [find] at h
    split at h
    · cases h
    · exact idsMem_find (l := l) h
  | (k, some m') :: l, h => by
    simp only [find] at h
    split at h
    · rename_i hk
      cases h
      rw [natBeq hk]
      exact ⟨.head _, fun j hj => .tail _ (List.mem_append_left _ hj)⟩
    · obtain ⟨h1, h2⟩ := idsMem_find (l := l) h
      exact ⟨.tail _ (List.mem_append_right _ h1), fun j hj => .tail _ (List.mem_append_right _ (h2 j hj))⟩
theorem look_killT {t : Nat} : ∀ {ps qs : List SW}, look (killT ps qs) t = .dead ∨ look (killT ps qs) t = look ps t
  | [], _ => by cases ‹List SW› <;> exact .inr rfl
  | p :: ps, [] => .inr rfl
  | p :: ps, q :: qs => by
    cases t with
    | zero =>
      simp only [killT, look]
      split
      · exact .inl rfl
      · exact .inr rfl
    | succ t => exact look_killT (t := t) (ps := ps) (qs := qs)
theorem killT_length : ∀ (ps qs : List SW), (killT ps qs).length = ps.length
  | [], qs => by cases qs <;> rfl
  | p :: ps, [] => rfl
  | p :: ps, q :: qs => by simp [killT, killT_length ps qs]
def dropOne : Option Nat → Mem → Mem
  | none, mem => mem
  | some i, mem => putM i none mem
theorem Rel.relist [Outer] {st : St} {a : Act} (hR : Rel ρ β inh w0 st a w) {t b c g k : Nat} {v : SW} {m : MB} {o : Obj} {b' : Option Nat} (hb : b ∉ idsT st.tmps ++ idsMem st.mem) (hc : c ∉ idsT st.tmps ++ idsMem st.mem) (hbc : b ≠ c)
    (hv : v.den ρ (ext (ext β b g) c k) = (look st.tmps t).den ρ β) (hd : look st.tmps t ≠ .dead)
    (hf : m.fits ρ (ext (ext β b g) c k) o) (ho : m.live (ext (ext β b g) c k) = true → w.heap[g]? = some o ∧ (w0.heap.size ≤ g ∨ g ∈ inh) ∧ ∀ i x, find i st.mem = some x → x.live β = true → β i = g → b' = some i) :
    Rel ρ (ext (ext β b g) c k) inh w0 ⟨st.tmps.set t v, putM b (some m) (dropOne b' st.mem), st.nx, st.nv⟩ a w := by
  obtain ⟨β', hβ'⟩ : ∃ bb, bb = ext (ext β b g) c k := ⟨_, rfl⟩
  rw [← hβ'] at hv hf ho ⊢
  have e1 : β' b = g := by rw [hβ']; simp [ext, hbc]
  have e3 : ∀ i, i ≠ b → i ≠ c → β' i = β i := fun i h1 h2 => by rw [hβ']; simp [ext, h1, h2]
  have e4 : ∀ i, i ∈ idsT st.tmps ++ idsMem st.mem → β' i = β i := fun i hi => e3 i (fun e => hb (e ▸ hi)) (fun e => hc (e ▸ hi))
  refine ⟨⟨by rw [hR.1.1]; simp, fun s u hu => ?_⟩, hR.2.1, ?_⟩
  · rcases hR.1.2 s u hu with h | h
    · by_cases hst : s = t
      · subst hst; exact absurd h hd
      · refine .inl ?_
        rw [look_get] at h ⊢
        simpa [List.getElem?_set_ne (fun e => hst e.symm)] using h
    · refine .inr ?_
      by_cases hst : s = t
      · subst hst
        have hlt : s < st.tmps.length := by
          have := (Array.getElem?_eq_some_iff.1 hu).1
          have := hR.1.1; omega
        have : look (st.tmps.set s v) s = v := by rw [look_get]; simp [hlt]
        rw [this, hv]; exact h
      · have : look (st.tmps.set t v) s = look st.tmps s := by
          rw [look_get, look_get, List.getElem?_set_ne (fun e => hst e.symm)]
        rw [this, h]
        exact (SW.den_names fun i hi => e4 i (List.mem_append_left _ (idsT_mem hi))).symm
  · have hM := hR.2.2
    have hM1 : Mrel ρ β' inh w0 (fun i => find i st.mem) w := hM.names fun i x hx => by
      obtain ⟨f1, f2⟩ := idsMem_find hx
      exact ⟨e4 i (List.mem_append_right _ f1), fun j hj => e4 j (List.mem_append_right _ (f2 j hj))⟩
    have hlv : ∀ {i x}, find i st.mem = some x → x.live β' = x.live β := fun {i x} hx => MB.live_names fun j hj => e4 j (List.mem_append_right _ ((idsMem_find hx).2 j hj))
    show Mrel ρ β' inh w0 (fun i => find i (putM b (some m) _)) w
    rw [find_putM]
    have hsub : ∀ i x, find i (dropOne b' st.mem) = some x → find i st.mem = some x ∧ b' ≠ some i := fun i x hx => by
      cases b' with
      | none => exact ⟨hx, fun e => by cases e⟩
      | some j =>
        have := congrFun (find_putM j none st.mem) i
        simp only [dropOne] at this hx
        rw [this] at hx
        unfold setF at hx
        split at hx
        · cases hx
        · rename_i hij; exact ⟨hx, fun e => hij (Option.some.inj e).symm⟩
    have hM2 : Mrel ρ β' inh w0 (fun i => find i (dropOne b' st.mem)) w := hM1.less fun i x hx => (hsub i x hx).1
    refine hM2.add (o := o) ?_ (fun hl => by rw [e1]; exact (ho hl).1) hf (fun hl => by rw [e1]; exact (ho hl).2.1) (fun hl i x hx hlx => ?_)
    · cases hn : find b (dropOne b' st.mem) with
      | none => rfl
      | some x => exact absurd (List.mem_append_right _ (idsMem_find (hsub b x hn).1).1) hb
    · obtain ⟨f1, f2⟩ := hsub i x hx
      rw [e1, e4 i (List.mem_append_right _ (idsMem_find f1).1)]
      intro e
      exact f2 ((ho hl).2.2 i x f1 (by rw [← hlv f1]; exact hlx) e)
theorem renameL_rel [Outer] {sth st st' : St} {t b c : Nat} (h : renameL sth t b c st = some st') {a : Act} (hR : Rel ρ β inh w0 st a w) : ∃ β', (∀ i, i ≠ b → i ≠ c → β' i = β i) ∧ Rel ρ β' inh w0 st' a w := by
  unfold renameL at h
  split at h
  · split at h
    · split at h
      · cases h; exact ⟨β, fun _ _ _ => rfl, hR⟩
      · cases h
    · cases h
  · rename_i hfresh
    simp only [Bool.and_eq_true, Bool.not_eq_true'] at hfresh
    obtain ⟨⟨hb, hc⟩, hbc⟩ := hfresh
    have hb : b ∉ idsT st.tmps ++ idsMem st.mem := fun hi => by rw [memN_iff.2 hi] at hb; cases hb
    have hc : c ∉ idsT st.tmps ++ idsMem st.mem := fun hi => by rw [memN_iff.2 hi] at hc; cases hc
    have hbc : b ≠ c := fun e => by subst e; simp at hbc
    have ag : ∀ g k i, i ≠ b → i ≠ c → ext (ext β b g) c k i = β i := fun g k i h1 h2 => by simp [ext, h1, h2]
    split at h
    · rename_i b' c' L hl
      split at h
      · rename_i m hm
        split at h
        · rename_i c2 e hcap
          split at h
          · rename_i hcc
            have hcc := natBeq hcc
            subst hcc
            cases h
            obtain ⟨o, ho, hf⟩ := hR.2.2.cells b' m hm
            have x1 : ext (ext β b (β b')) c (β c2) b = β b' := by simp [ext, hbc]
            have x2 : ext (ext β b (β b')) c (β c2) c = β c2 := by simp [ext]
            have hlive : MB.live (ext (ext β b (β b')) c (β c2)) ⟨m.ty, m.ps, some (c, e)⟩ = m.live β := by
              unfold MB.live; simp only [hcap, x2]
            have hnames : ∀ i ∈ idsP m.ps, ext (ext β b (β b')) c (β c2) i = β i := fun i hi => by
              have := (idsMem_find hm).2 i (List.mem_append_left _ hi)
              exact ag _ _ i (fun e => hb (e ▸ List.mem_append_right _ this)) (fun e => hc (e ▸ List.mem_append_right _ this))
            refine ⟨_, ag (β b') (β c2), hR.relist (b' := some b') (o := o) hb hc hbc ?_ (by rw [hl]; intro e; cases e) ?_ (fun hlv => ?_)⟩
            · rw [hl]
              show (Cell.sl b c L).den ρ _ = (Cell.sl b' c2 L).den ρ β
              simp only [Cell.den, x1, x2]
            · obtain ⟨rest, fz, f1, f2⟩ := hf
              refine ⟨rest, fz, ?_, ?_⟩
              · show o = .cells (densP ρ _ m.ps ++ rest).toArray m.ty fz
                rw [densP_names hnames]; exact f1
              · show (densP ρ _ m.ps).length + rest.length = (_ - 1) * e ∧ okFz fz ((densP ρ _ m.ps).length + rest.length)
                rw [densP_names hnames, x2]
                unfold MB.room at f2; rw [hcap] at f2; exact f2
            · rw [hlive] at hlv
              exact ⟨ho hlv, hR.2.2.own b' m hm hlv, fun i x hx hlx e => by rw [hR.2.2.inj i b' x m hx hm hlx hlv e]⟩
          · cases h
        · cases h
      · cases h
    · rename_i hl
      split at h
      · rename_i m hm
        split at h
        · rename_i c2 e hcap
          cases h
          have x2 : ext (ext β b 0) c 0 c = 0 := by simp [ext]
          refine ⟨_, ag 0 0, hR.relist (b' := none) (o := .cells #[] m.ty) hb hc hbc ?_ (by rw [hl]; intro e; cases e) ⟨[], (0, 0), rfl, ?_⟩ (fun hlv => ?_)⟩
          · rw [hl, sl_none rfl x2]; rfl
          · show 0 + 0 = (_ - 1) * e ∧ okFz (0, 0) _
            rw [x2]; exact ⟨by simp, okFz_zero _⟩
          · unfold MB.live at hlv; simp only [x2] at hlv; exact absurd hlv (by decide)
        · cases h
      · cases h
    · rename_i b' k k' hl
      split at h
      · rename_i m mh hm hmh
        split at h
        · rename_i c2 e l hcap hcaph hsz
          split at h
          · rename_i hkk
            simp only [Bool.and_eq_true] at hkk
            have h1 := natBeq hkk.1
            have h2 := natBeq hkk.2
            subst h1
            cases h
            obtain ⟨o, ho, hf⟩ := hR.2.2.cells b' m hm
            have hlv0 : m.live β = true := by unfold MB.live; rw [hcap]
            have x1 : ext (ext β b (β b')) c (k + 1) b = β b' := by simp [ext, hbc]
            have x2 : ext (ext β b (β b')) c (k + 1) c = k + 1 := by simp [ext]
            have hnames : ∀ i ∈ idsP m.ps, ext (ext β b (β b')) c (k + 1) i = β i := fun i hi => by
              have := (idsMem_find hm).2 i (List.mem_append_left _ hi)
              exact ag _ _ i (fun e => hb (e ▸ List.mem_append_right _ this)) (fun e => hc (e ▸ List.mem_append_right _ this))
            refine ⟨_, ag (β b') (k + 1), hR.relist (b' := some b') (o := o) hb hc hbc ?_ (by rw [hl]; intro e; cases e) ?_ (fun _ => ?_)⟩
            · rw [hl, sl_some (.inr (by rw [x2]; omega)), x1, x2]
              simp [SW.den, SV.den, Cell.den, Tm.i, Tm.den]
            · obtain ⟨rest, fz, f1, f2⟩ := hf
              have f2 : rest = [] ∧ fz = (0, 0) := by unfold MB.room at f2; rw [hcap] at f2; exact f2
              obtain ⟨rfl, rfl⟩ := f2
              refine ⟨[], (0, 0), ?_, ?_⟩
              · show o = .cells (densP ρ _ m.ps ++ []).toArray m.ty
                rw [densP_names hnames]; exact f1
              · show (densP ρ _ m.ps).length + 0 = (_ - 1) * e ∧ okFz (0, 0) _
                rw [sizeP_den ρ _ hsz, x2, h2]; exact ⟨by simp, okFz_zero _⟩
            · exact ⟨ho hlv0, hR.2.2.own b' m hm hlv0, fun i x hx hlx e => by rw [hR.2.2.inj i b' x m hx hm hlx hlv0 e]⟩
          · cases h
        · cases h
      · cases h
    · cases h
theorem renameB_rel [Outer] {st st' : St} {t b : Nat} (h : renameB t b st = some st') {a : Act} (hR : Rel ρ β inh w0 st a w) : ∃ β', (∀ i, i ≠ b → i ≠ b + 1 → β' i = β i) ∧ Rel ρ β' inh w0 st' a w := by
  unfold renameB at h
  split at h
  · split at h
    · cases h; exact ⟨β, fun _ _ _ => rfl, hR⟩
    · cases h
  · rename_i b' hl
    split at h
    · rename_i m hm
      split at h
      · rename_i hcap
        split at h
        · rename_i hfresh
          cases h
          simp only [Bool.and_eq_true, Bool.not_eq_true'] at hfresh
          obtain ⟨hb, hc⟩ := hfresh
          have hb : b ∉ idsT st.tmps ++ idsMem (putM b none st.mem) := fun hi => by rw [memN_iff.2 hi] at hb; cases hb
          have hc : b + 1 ∉ idsT st.tmps ++ idsMem (putM b none st.mem) := fun hi => by rw [memN_iff.2 hi] at hc; cases hc
          have hR1 : Rel ρ β inh w0 ⟨st.tmps, putM b none st.mem, st.nx, st.nv⟩ a w := by
            refine ⟨hR.1, hR.2.1, ?_⟩
            refine hR.2.2.less fun i x hx => ?_
            have := congrFun (find_putM b none st.mem) i
            simp only at hx
            rw [this] at hx
            unfold setF at hx
            split at hx
            · cases hx
            · exact hx
          obtain ⟨o, ho, hf⟩ := hR1.2.2.cells b' m hm
          have hlv0 : m.live β = true := by unfold MB.live; rw [hcap]
          have x1 : ext (ext β b (β b')) (b + 1) 0 b = β b' := by simp [ext]
          have ag : ∀ i, i ≠ b → i ≠ b + 1 → ext (ext β b (β b')) (b + 1) 0 i = β i := fun i h1 h2 => by simp [ext, h1, h2]
          have hnames : ∀ i ∈ idsP m.ps, ext (ext β b (β b')) (b + 1) 0 i = β i := fun i hi => by
            have := (idsMem_find hm).2 i (List.mem_append_left _ hi)
            exact ag i (fun e => hb (by rw [← e]; exact List.mem_append_right _ (by rw [e]; rw [e] at this; exact this))) (fun e => hc (by rw [← e]; exact List.mem_append_right _ this))
          refine ⟨_, ag, hR1.relist (b' := some b') (o := o) hb hc (by omega) ?_ (by show look st.tmps t ≠ .dead; rw [hl]; intro e; cases e) ?_ (fun _ => ?_)⟩
          · show _ = (look st.tmps t).den ρ β
            rw [hl]
            show Value.pointer (some ⟨ext (ext β b (β b')) (b + 1) 0 b, 0, none⟩) = Value.pointer (some ⟨β b', 0, none⟩)
            rw [x1]
          · obtain ⟨rest, fz, f1, f2⟩ := hf
            have f2 : rest = [] ∧ fz = (0, 0) := by unfold MB.room at f2; rw [hcap] at f2; exact f2
            obtain ⟨rfl, rfl⟩ := f2
            refine ⟨[], (0, 0), ?_, rfl, rfl⟩
            show o = .cells (densP ρ _ m.ps ++ []).toArray m.ty
            rw [densP_names hnames]; exact f1
          · exact ⟨ho hlv0, hR1.2.2.own b' m hm hlv0, fun i x hx hlx e => by rw [hR1.2.2.inj i b' x m hx hm hlx hlv0 e]⟩
        · cases h
      · cases h
    · cases h
  · cases h
theorem prepL_rel [Outer] {n : Nat} {sth : St} {a : Act} : ∀ {qs : List SW} {t : Nat} {st st' : St} {β : Nat → Nat}, prepL n sth t qs st = some st' → Rel ρ β inh w0 st a w → ∃ β', (∀ i, i ∉ newNames n qs → β' i = β i) ∧ Rel ρ β' inh w0 st' a w
  | [], t, st, st', β, h, hR => by cases h; exact ⟨β, fun _ _ => rfl, hR⟩
  | q :: qs, t, st, st', β, h, hR => by
    simp only [prepL] at h
    split at h
    · rename_i b c i
      split at h
      · rename_i hle
        split at h
        · cases h
        · rename_i st1 h1
          obtain ⟨β1, a1, R1⟩ := renameL_rel h1 hR
          obtain ⟨β2, a2, R2⟩ := prepL_rel h R1
          refine ⟨β2, fun j hj => ?_, R2⟩
          simp only [newNames, hle, List.mem_cons, not_or] at hj
          rw [a2 j hj.2.2, a1 j hj.1 hj.2.1]
      · rename_i hle
        obtain ⟨β2, a2, R2⟩ := prepL_rel h hR
        exact ⟨β2, fun j hj => a2 j (by simpa only [newNames, hle] using hj), R2⟩
    · rename_i b
      split at h
      · cases h
      · rename_i st1 h1
        obtain ⟨β1, a1, R1⟩ := renameB_rel h1 hR
        obtain ⟨β2, a2, R2⟩ := prepL_rel h R1
        refine ⟨β2, fun j hj => ?_, R2⟩
        simp only [newNames, List.mem_cons, not_or] at hj
        rw [a2 j hj.2.2, a1 j hj.1 hj.2.1]
    · rename_i hq
      obtain ⟨β2, a2, R2⟩ := prepL_rel h hR
      refine ⟨β2, fun j hj => a2 j ?_, R2⟩
      intro hin
      apply hj
      unfold newNames
      split
      · rename_i b c i _ _
        split
        · exact .tail _ (.tail _ hin)
        · exact hin
      · exact .tail _ (.tail _ hin)
      · exact hin
theorem diff_rel [Outer] {ρ' : Nat → Value} {n : Nat} (hρ : ∀ i, i < n → ρ' i = ρ i) {st sth : St} {l : List (SW × SW)} (h : diff n st sth = some l) (hl : ∀ x ∈ l, ∀ β, x.1.den ρ' β = x.2.den ρ β) {a : Act} (hR : Rel ρ' β inh w0 st a w) :
    ∃ β', (∀ i, i ∉ newNames n sth.tmps → β' i = β i) ∧ Rel ρ β' inh w0 sth a w := by
  unfold diff at h
  split at h
  · cases h
  · rename_i st1 h1
    have hK : Rel ρ' β inh w0 ⟨killT st.tmps sth.tmps, st.mem, st.nx, st.nv⟩ a w := by
      refine ⟨⟨by rw [hR.1.1]; simp [killT_length], fun t v hv => ?_⟩, hR.2.1, hR.2.2⟩
      rcases look_killT (t := t) (ps := st.tmps) (qs := sth.tmps) with e | e
      · exact .inl e
      · rw [show (⟨killT st.tmps sth.tmps, st.mem, st.nx, st.nv⟩ : St).tmps = killT st.tmps sth.tmps from rfl, e]
        exact hR.1.2 t v hv
    obtain ⟨β', hb, R⟩ := prepL_rel h1 hK
    exact ⟨β', hb, diff0_rel hρ h (fun x hx => hl x hx β') R⟩
end

theorem loopsOf_nest : ∀ {b : Code} {k j : Nat} {c c' : Code}, (loopsOf b)[k]? = some c → (loopsOf c)[j]? = some c' → (loopsOf b)[k + 1 + j]? = some c' := by
  intro b
  have app : ∀ {x y : List Code} {k j : Nat} {c c' : Code}, (∀ {k j : Nat} {c c' : Code}, x[k]? = some c → (loopsOf c)[j]? = some c' → x[k + 1 + j]? = some c') → (∀ {k j : Nat} {c c' : Code}, y[k]? = some c → (loopsOf c)[j]? = some c' → y[k + 1 + j]? = some c') →
      (x ++ y)[k]? = some c → (loopsOf c)[j]? = some c' → (x ++ y)[k + 1 + j]? = some c' := fun {x y k j c c'} hx hy h h' => by
    rcases Nat.lt_or_ge k x.length with hk | hk
    · rw [List.getElem?_append_left hk] at h
      have := hx h h'
      rw [List.getElem?_append_left (List.getElem?_eq_some_iff.1 this).1]; exact this
    · rw [List.getElem?_append_right hk] at h
      have := hy h h'
      rw [List.getElem?_append_right (by omega)]
      rw [show k + 1 + j - x.length = k - x.length + 1 + j by omega]; exact this
  induction b with
  | seq a b iha ihb => intro k j c c' h h'; simp only [loopsOf] at h ⊢; exact app iha ihb h h'
  | cond _ a b iha ihb => intro k j c c' h h'; simp only [loopsOf] at h ⊢; exact app iha ihb h h'
  | block id b ih => intro k j c c' h h'; simp only [loopsOf] at h ⊢; exact ih h h'
  | loop b ih =>
    intro k j c c' h h'
    simp only [loopsOf] at h ⊢
    cases k with
    | zero =>
      simp at h
      subst h
      rw [Nat.zero_add, Nat.add_comm 1 j, List.getElem?_cons_succ]; exact h'
    | succ k =>
      rw [List.getElem?_cons_succ] at h
      rw [show k + 1 + 1 + j = (k + 1 + j) + 1 by omega, List.getElem?_cons_succ]
      exact ih h h'
  | _ => intro k j c c' h; simp [loopsOf] at h

theorem loopAt_eq {P : Program} {f k : Nat} {c : Code} (h : loopAt P f k = some c) : ∃ fn body, P.funcs[f]? = some fn ∧ fn.body = some body ∧ (loopsOf body)[k]? = some c := by
  unfold loopAt at h
  split at h
  · cases h
  · rename_i fn hfn
    split at h
    · cases h
    · rename_i body hbody
      exact ⟨fn, body, hfn, hbody, h⟩
def loopOk (n m : Nat) (st sth : St) : Bool := st.under n && sth.under (n + m) && Nat.ble st.nx sth.nx && (newNames n sth.tmps).all (Nat.ble st.nx)
theorem loop_holds [Outer] {P : Program} (hP : Plain P) {cfg : Cfg} {f k m : Nat} {st sth : St} {x : SExit} {alt : Option (Nat × SExit)} {T : Tree Round} (ρ us : List Value) (hT : treeRound P cfg f k ρ.length m sth = T) (hok : loopOk ρ.length m st sth = true)
    (I : List Value → Prop) (μ : List Value → Nat) {l : List (SW × SW)} (hd : diff ρ.length st sth = some l)
    (hentry : ∃ vs, vs.length = m ∧ I vs ∧ ∀ y ∈ l, ∀ β, y.1.den (env ρ) β = y.2.den (env (ρ ++ vs)) β)
    (hround : ∀ vs, vs.length = m → I vs → T.den P (fun ρ' r => match r.exit with
      | .normal => ∃ vs', vs'.length = m ∧ I vs' ∧ μ vs' < μ vs ∧ ∀ y ∈ r.diffs, ∀ β, y.1.den (env ρ') β = y.2.den (env (ρ ++ vs')) β
      | e => e = altX (env (ρ ++ us)) x alt ∧ ∀ y ∈ r.diffs, ∀ β, y.1.den (env ρ') β = y.2.den (env (ρ ++ us)) β) (ρ ++ vs)) :
    ∀ c, loopAt P f k = some c → ∀ inh w0, Sound P (env (ρ ++ us)) inh w0 (.loop c) st (altX (env (ρ ++ us)) x alt, sth) := by
  intro c hc inh w0 β a w hR Q hQ
  simp only [loopOk, Bool.and_eq_true] at hok
  obtain ⟨⟨⟨hst, hsth⟩, hnx⟩, hnn⟩ := hok
  have hnx : st.nx ≤ sth.nx := by simpa [Nat.ble_eq] using hnx
  have hnn : ∀ i, i < st.nx → i ∉ newNames ρ.length sth.tmps := fun i hi hm => by
    have := List.all_eq_true.1 hnn i hm
    rw [Nat.ble_eq] at this; omega
  have hb : T = build (runRound P cfg f k ρ.length sth c) 60 [] [] (ρ.length + m) := by rw [← hT]; simp only [treeRound, hc]
  have hlen : ∀ vs : List Value, vs.length = m → (ρ ++ vs).length = ρ.length + m := fun vs h => by simp [h]
  have hpre : ∀ (us vs : List Value), ∀ i, i < ρ.length → env (ρ ++ us) i = env (ρ ++ vs) i := fun us vs i hi => by rw [env_append _ _ i hi, env_append _ _ i hi]
  have main : ∀ (n : Nat) (vs : List Value), vs.length = m → I vs → μ vs < n → ∀ β2 a w, (∀ i, i < st.nx → β2 i = β i) → Rel (env (ρ ++ vs)) β2 inh w0 sth a w → Unr P c Q n a w := by
    intro n
    induction n with
    | zero => intro vs _ _ h; exact absurd h (Nat.not_lt_zero _)
    | succ n ih =>
      intro vs hl hI hμ β2 a w hβ2 hR2
      have ht := hround vs hl hI
      rw [hb, ← hlen vs hl] at ht
      obtain ⟨ws, asm', r, evs, hrun, hasm, hev, hq⟩ := build_sound (asm := []) (known := []) (fun x hx => by cases hx) (fun x hx => by cases hx) (fun e he => by cases he) ht
      obtain ⟨y, e1, e2, h1, h2, rfl⟩ := R.bind_ok hrun
      split at h2
      · cases h2
      · rename_i d hdd
        cases h2
        have hL : ∀ j c', (loopsOf c)[j]? = some c' → loopAt P f (k + 1 + j) = some c' := fun j c' hj => by
          obtain ⟨fn, body, k1, k2, k3⟩ := loopAt_eq hc
          simp only [loopAt, k1, k2]
          exact loopsOf_nest k3 hj
        have hs := execC_sound (inh := inh) (w0 := w0) hP.names (execF_ok hP.names hasm hP.order 12) (execF_up 12) hasm hP.order hL h1 fun e he => hev e (by simp [he])
        refine hs β2 a w (hR2.under (n := ρ.length + m) (fun i hi => env_append _ _ i (by rw [hlen vs hl]; exact hi)) hsth) _ fun β3 a' w' hβ3 hR3 => ?_
        have hβ3' : ∀ i, i < st.nx → β3 i = β i := fun i hi => by rw [hβ3 i (by omega), hβ2 i hi]
        have hag : ∀ (us : List Value), ∀ i, i < ρ.length → env (ρ ++ vs ++ ws) i = env (ρ ++ us) i := fun us i hi => by rw [List.append_assoc]; exact hpre _ _ i hi
        cases hy : y.1 with
        | normal =>
          rw [hy] at hq
          obtain ⟨vs', q1, q2, q3, q4⟩ := hq
          obtain ⟨β4, hβ4, hR4⟩ := diff_rel (hag vs') hdd q4 hR3
          exact ih vs' q1 q2 (by omega) β4 a' w' (fun i hi => by rw [hβ4 i (hnn i hi)]; exact hβ3' i hi) hR4
        | exit id =>
          rw [hy] at hq
          obtain ⟨q1, q2⟩ := hq
          obtain ⟨β4, hβ4, hR4⟩ := diff_rel (hag us) hdd q2 hR3
          have := hQ β4 a' w' (fun i hi => by rw [hβ4 i (hnn i hi)]; exact hβ3' i hi) hR4
          rw [← q1] at this
          exact this
        | ret =>
          rw [hy] at hq
          obtain ⟨q1, q2⟩ := hq
          obtain ⟨β4, hβ4, hR4⟩ := diff_rel (hag us) hdd q2 hR3
          have := hQ β4 a' w' (fun i hi => by rw [hβ4 i (hnn i hi)]; exact hβ3' i hi) hR4
          rw [← q1] at this
          exact this
  obtain ⟨vs0, hl0, hI0, he0⟩ := hentry
  have hR' : Rel (env ρ) β inh w0 st a w := hR.under (fun i hi => (env_append _ _ i hi).symm) hst
  obtain ⟨β4, hβ4, hR4⟩ := diff_rel (fun i hi => (env_append _ _ i hi).symm) hd he0 hR'
  exact loop_of_unr (n := μ vs0 + 1) (main _ vs0 hl0 hI0 (Nat.lt_succ_self _) β4 a w (fun i hi => hβ4 i (hnn i hi)) hR4)
end Go.Proofs.Ytlccefdjhiedcaa.Sx
end
