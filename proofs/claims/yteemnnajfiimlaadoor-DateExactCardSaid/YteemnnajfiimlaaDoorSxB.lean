/- Symbolic execution: the operations. No program is named here. -/
import Derived.Test.YteemnnajfiimlaaDoorSxA
namespace Go.Proofs.YteemnnajfiimlaaDoor.Sx
open Go.RowKit

/-- Blocks of the callers that are read, and never written. -/
class Outer where
  r : List (Nat × Obj)

/-! ### Memory -/
def find (i : Nat) : Mem → Option MB
  | [] => none
  | (j, m) :: rest => if Nat.beq i j then m else find i rest
def putM (i : Nat) (m : Option MB) : Mem → Mem
  | [] => [(i, m)]
  | (j, m') :: rest => if Nat.beq i j then (i, m) :: rest else (j, m') :: putM i m rest
def putMs : Mem → Mem → Mem
  | [], mem => mem
  | (i, m) :: upd, mem => putMs upd (putM i m mem)
/-- The same on functions. -/
def setF (mm : Nat → Option MB) (i : Nat) (m : Option MB) : Nat → Option MB := fun j => if j = i then m else mm j
def setFs (mm : Nat → Option MB) : Mem → Nat → Option MB
  | [] => mm
  | (i, m) :: upd => setFs (setF mm i m) upd
theorem find_putM (i : Nat) (m : Option MB) (mem : Mem) : (fun j => find j (putM i m mem)) = setF (fun j => find j mem) i m := by
  funext j
  induction mem with
  | nil => simp only [putM, find, setF, Nat.beq_eq]
  | cons x rest ih =>
    obtain ⟨k, m'⟩ := x
    simp only [putM]
    by_cases hik : i = k
    · subst hik
      simp only [Nat.beq_refl, if_true, find, setF]
      by_cases hj : j = i
      · subst hj; simp
      · have : Nat.beq j i = false := by rw [Bool.eq_false_iff]; intro h; exact hj (Nat.eq_of_beq_eq_true h)
        simp [this, hj]
    · have : Nat.beq i k = false := by rw [Bool.eq_false_iff]; intro h; exact hik (Nat.eq_of_beq_eq_true h)
      simp only [this, Bool.false_eq_true, if_false, find]
      by_cases hj : j = k
      · subst hj
        have hne : j ≠ i := fun e => hik e.symm
        simp [setF, hne]
      · have h2 : Nat.beq j k = false := by rw [Bool.eq_false_iff]; intro h; exact hj (Nat.eq_of_beq_eq_true h)
        simp only [h2, Bool.false_eq_true, if_false, ih, setF]
theorem find_putMs [Outer] : ∀ (upd mem : Mem), (fun j => find j (putMs upd mem)) = setFs (fun j => find j mem) upd
  | [], _ => rfl
  | (i, m) :: upd, mem => by simp only [putMs, setFs, find_putMs upd, find_putM]

/-- A list of no room is no block at all. -/
def MB.live (β : Nat → Nat) (m : MB) : Bool :=
  match m.cap with
  | none => true
  | some (c, _) => !Nat.beq (β c) 0
theorem MB.live_names {β β' : Nat → Nat} {m : MB} (h : ∀ i ∈ m.ids, β' i = β i) : m.live β' = m.live β := by
  unfold MB.live
  split
  · rfl
  · rename_i c n hc
    rw [h c (List.mem_append_right _ (by rw [hc]; exact .head _))]
theorem MB.live_fits {ρ : Nat → Value} {β : Nat → Nat} {m : MB} {o : Obj} (hf : m.fits ρ β o) (h : densP ρ β m.ps ≠ []) : m.live β = true := by
  obtain ⟨rest, fz, _, hr⟩ := hf
  unfold MB.live
  unfold MB.room at hr
  split
  · rfl
  · rename_i c n hc
    rw [hc] at hr
    cases hb : Nat.beq (β c) 0 with
    | false => rfl
    | true =>
      have h0 := Nat.eq_of_beq_eq_true hb
      replace hr : (densP ρ β m.ps).length + rest.length = (β c - 1) * n := hr.1
      rw [h0, Nat.zero_sub, Nat.zero_mul] at hr
      exact absurd (List.eq_nil_of_length_eq_zero (by omega)) h
/-- The memory of a world, by the blocks that are named. -/
structure Mrel [Outer] (ρ : Nat → Value) (β : Nat → Nat) (inh : List Nat) (w0 : World) (mm : Nat → Option MB) (w : World) : Prop where
  os : w.os = w0.os
  tape : w.tape = w0.tape
  output : w.output = w0.output
  size : w0.heap.size ≤ w.heap.size
  old : ∀ k, k < w0.heap.size → k ∉ inh → w.heap[k]? = w0.heap[k]?
  cells : ∀ i m, mm i = some m → ∃ o, (m.live β = true → w.heap[β i]? = some o) ∧ m.fits ρ β o
  own : ∀ i m, mm i = some m → m.live β = true → w0.heap.size ≤ β i ∨ β i ∈ inh
  inj : ∀ i j m m', mm i = some m → mm j = some m' → m.live β = true → m'.live β = true → β i = β j → i = j
  ro : ∀ x ∈ Outer.r, w0.heap[x.1]? = some x.2 ∧ x.1 ∉ inh

section mrel
variable {ρ : Nat → Value} {β β' : Nat → Nat} {inh : List Nat} {w0 w w' : World} {mm : Nat → Option MB}

theorem Mrel.lt [Outer] (h : Mrel ρ β inh w0 mm w) {i : Nat} {m : MB} (hm : mm i = some m) (hl : m.live β = true) : β i < w.heap.size := by
  obtain ⟨o, ho, _⟩ := h.cells i m hm
  exact (Array.getElem?_eq_some_iff.1 (ho hl)).1

theorem Mrel.later [Outer] (h : Mrel ρ β inh w0 mm w) (hb : Below w.heap.size w w') : Mrel ρ β inh w0 mm w' :=
  ⟨hb.os.trans h.os, hb.tape.trans h.tape, hb.output.trans h.output, Nat.le_trans h.size hb.size,
    fun k hk hi => (hb.block k (Nat.lt_of_lt_of_le hk h.size)).trans (h.old k hk hi),
    fun i m hm => let ⟨o, ho, hf⟩ := h.cells i m hm; ⟨o, fun hl => (hb.block _ (h.lt hm hl)).trans (ho hl), hf⟩, h.own, h.inj, h.ro⟩

theorem Mrel.drew [Outer] (h : Mrel ρ β inh w0 mm w) : Mrel ρ β inh w0 mm { w with drawn := w.drawn + 1 } := h.later ⟨rfl, rfl, rfl, Nat.le_refl _, fun _ _ => rfl⟩

/-- What is forgotten does not matter. -/
theorem Mrel.less [Outer] (h : Mrel ρ β inh w0 mm w) {mm' : Nat → Option MB} (hl : ∀ i m, mm' i = some m → mm i = some m) : Mrel ρ β inh w0 mm' w :=
  ⟨h.os, h.tape, h.output, h.size, h.old, fun i m hm => h.cells i m (hl i m hm), fun i m hm => h.own i m (hl i m hm), fun i j m m' hm hm' => h.inj i j m m' (hl i m hm) (hl j m' hm'), h.ro⟩

/-- Other names for what does not occur. -/
theorem Mrel.names [Outer] (h : Mrel ρ β inh w0 mm w) (hn : ∀ i m, mm i = some m → β' i = β i ∧ ∀ j ∈ m.ids, β' j = β j) : Mrel ρ β' inh w0 mm w :=
  ⟨h.os, h.tape, h.output, h.size, h.old, fun i m hm => by
      obtain ⟨o, ho, hf⟩ := h.cells i m hm
      exact ⟨o, by rw [(hn i m hm).1, MB.live_names (hn i m hm).2]; exact ho, MB.fits_names (hn i m hm).2 hf⟩,
    fun i m hm => by rw [(hn i m hm).1, MB.live_names (hn i m hm).2]; exact h.own i m hm,
    fun i j m m' hm hm' l l' e => by rw [MB.live_names (hn i m hm).2] at l; rw [MB.live_names (hn j m' hm').2] at l'; rw [(hn i m hm).1, (hn j m' hm').1] at e; exact h.inj i j m m' hm hm' l l' e, h.ro⟩

/-- What is read of the callers is as it was, and is none of the named blocks. -/
theorem Mrel.outer [Outer] (h : Mrel ρ β inh w0 mm w) {x : Nat × Obj} (hx : x ∈ Outer.r) {pre : List (Nat × MB)} (hp : ∀ y ∈ pre, mm y.1 = some y.2) : w.heap[x.1]? = some x.2 ∧ ∀ y ∈ pre, y.2.live β = true → β y.1 ≠ x.1 := by
  obtain ⟨h1, h2⟩ := h.ro x hx
  have hlt : x.1 < w0.heap.size := (Array.getElem?_eq_some_iff.1 h1).1
  refine ⟨(h.old _ hlt h2).trans h1, fun y hy hl e => ?_⟩
  rcases h.own _ _ (hp y hy) hl with ho | ho
  · omega
  · exact h2 (e ▸ ho)

def FreshM (mm : Nat → Option MB) (news : List Nat) : Prop := ∀ i m, mm i = some m → i ∉ news ∧ ∀ j ∈ m.ids, j ∉ news

def ext (β : Nat → Nat) (n b : Nat) : Nat → Nat := fun i => if i = n then b else β i
theorem ext_ne {n b i : Nat} (h : i ≠ n) : ext β n b i = β i := by simp [ext, h]
theorem ext_self {n b : Nat} : ext β n b n = b := by simp [ext]

/-- One more block is named, that is none of the named ones. -/
theorem Mrel.add [Outer] (h : Mrel ρ β inh w0 mm w) {n : Nat} {m : MB} {o : Obj} (hn : mm n = none) (ho : m.live β = true → w.heap[β n]? = some o) (hf : m.fits ρ β o) (hnew : m.live β = true → w0.heap.size ≤ β n ∨ β n ∈ inh) (hne : m.live β = true → ∀ i x, mm i = some x → x.live β = true → β i ≠ β n) : Mrel ρ β inh w0 (setF mm n (some m)) w := by
  have hd : ∀ j x, setF mm n (some m) j = some x → (j = n ∧ x = m) ∨ (j ≠ n ∧ mm j = some x) := fun j x hx => by
    unfold setF at hx
    split at hx
    · rename_i hj; cases hx; exact .inl ⟨hj, rfl⟩
    · rename_i hj; exact .inr ⟨hj, hx⟩
  refine ⟨h.os, h.tape, h.output, h.size, h.old, fun j x hx => ?_, fun j x hx => ?_, fun j k x y hx hy lx ly e => ?_, h.ro⟩
  · rcases hd j x hx with ⟨rfl, rfl⟩ | ⟨_, hx⟩
    · exact ⟨o, ho, hf⟩
    · exact h.cells j x hx
  · rcases hd j x hx with ⟨rfl, rfl⟩ | ⟨_, hx⟩
    · exact hnew
    · exact h.own j x hx
  · rcases hd j x hx with ⟨e1, f1⟩ | ⟨_, hx'⟩ <;> rcases hd k y hy with ⟨e2, f2⟩ | ⟨_, hy'⟩
    · rw [e1, e2]
    · rw [e1] at e; rw [f1] at lx; exact absurd e.symm (hne lx k y hy' ly)
    · rw [e2] at e; rw [f2] at ly; exact absurd e (hne ly j x hx' lx)
    · exact h.inj _ _ x y hx' hy' lx ly e

/-- A new block. -/
theorem Mrel.alloc [Outer] (h : Mrel ρ β inh w0 mm w) {n : Nat} (hf : FreshM mm [n]) (m : MB) (o : Obj) (ho : m.fits ρ (ext β n w.heap.size) o) :
    Mrel ρ (ext β n w.heap.size) inh w0 (setF mm n (some m)) (w.alloc o) := by
  have h1 := h.later (w' := w.alloc o) ((Below.refl _ _).alloc (Nat.le_refl _) _)
  have hne : ∀ i x, mm i = some x → i ≠ n := fun i x hx e => (hf i x hx).1 (by simp [e])
  have h2 : Mrel ρ (ext β n w.heap.size) inh w0 mm (w.alloc o) := h1.names fun i m hm => ⟨ext_ne (hne i m hm), fun j hj => ext_ne fun e => (hf i m hm).2 j hj (by simp [e])⟩
  refine h2.add ?_ (fun _ => by rw [ext_self]; exact heap_alloc_new w o) ho (fun _ => by rw [ext_self]; exact .inl h.size) fun _ i x hx hl => ?_
  · cases hm : mm n with
    | none => rfl
    | some x => exact absurd rfl (hne n x hm)
  · rw [ext_self, ext_ne (hne i x hx)]
    have := h.lt hx (by rw [← hl]; exact (MB.live_names fun j hj => ext_ne fun e => (hf i x hx).2 j hj (by simp [e])).symm)
    omega

/-- One block is written: the new world differs in it alone. -/
theorem Mrel.write [Outer] (h : Mrel ρ β inh w0 mm w) {i : Nat} {m m' : MB} (hi : mm i = some m) (hlive : m.live β = true) (hcap : m'.cap = m.cap) (hos : w'.os = w.os) (htape : w'.tape = w.tape) (hout : w'.output = w.output) (hsize : w'.heap.size = w.heap.size)
    {o : Obj} (hb : w'.heap[β i]? = some o) (ho : m'.fits ρ β o) (hk : ∀ k, k ≠ β i → w'.heap[k]? = w.heap[k]?) : Mrel ρ β inh w0 (setF mm i (some m')) w' := by
  have hd : ∀ j x, setF mm i (some m') j = some x → (j = i ∧ x = m') ∨ (j ≠ i ∧ mm j = some x) := fun j x hx => by
    unfold setF at hx
    split at hx
    · rename_i hj; cases hx; exact .inl ⟨hj, rfl⟩
    · rename_i hj; exact .inr ⟨hj, hx⟩
  have hl' : m'.live β = m.live β := by unfold MB.live; rw [hcap]
  refine ⟨hos.trans h.os, htape.trans h.tape, hout.trans h.output, by rw [hsize]; exact h.size, fun k hk' hn => ?_, fun j x hx => ?_, fun j x hx => ?_, fun j k x y hx hy lx ly e => ?_, h.ro⟩
  · rw [hk k fun e => ?_]
    · exact h.old k hk' hn
    · rcases h.own i m hi hlive with ho | ho
      · omega
      · exact hn (e ▸ ho)
  · rcases hd j x hx with ⟨rfl, rfl⟩ | ⟨hj, hx⟩
    · exact ⟨o, fun _ => hb, ho⟩
    · obtain ⟨o', ho', hf'⟩ := h.cells j x hx
      exact ⟨o', fun hl => by rw [hk _ fun e => hj (h.inj j i x m hx hi hl hlive e)]; exact ho' hl, hf'⟩
  · rcases hd j x hx with ⟨rfl, rfl⟩ | ⟨hj, hx⟩
    · rw [hl']; exact h.own j m hi
    · exact h.own j x hx
  · rcases hd j x hx with ⟨e1, f1⟩ | ⟨_, hx'⟩ <;> rcases hd k y hy with ⟨e2, f2⟩ | ⟨_, hy'⟩
    · rw [e1, e2]
    · rw [e1] at e ⊢; exact h.inj _ _ m y hi hy' hlive ly e
    · rw [e2] at e ⊢; exact h.inj _ _ x m hx' hi lx hlive e
    · exact h.inj _ _ x y hx' hy' lx ly e
end mrel

/-! ### Slots and states -/
def look : List SW → Nat → SW
  | [], _ => .undef
  | x :: _, 0 => x
  | _ :: l, n + 1 => look l n
/-- The slots of a frame are as the terms say, but for the dead ones. -/
def Trel (ρ : Nat → Value) (β : Nat → Nat) (tm : List SW) (tmps : Array Value) : Prop :=
  tmps.size = tm.length ∧ ∀ t v, tmps[t]? = some v → look tm t = .dead ∨ v = (look tm t).den ρ β
structure St where
  tmps : List SW
  mem : Mem
  nx : Nat
  nv : Nat
/-- A frame and a world, as the terms of a state say. -/
def Rel [Outer] (ρ : Nat → Value) (β : Nat → Nat) (inh : List Nat) (w0 : World) (st : St) (a : Act) (w : World) : Prop :=
  Trel ρ β st.tmps a.tmps ∧ a.defers = [] ∧ Mrel ρ β inh w0 (fun i => find i st.mem) w
inductive SExit where
  | normal
  | exit (id : Nat)
  | ret
def SExit.den : SExit → Exit
  | .normal => .normal
  | .exit id => .exit id
  | .ret => .ret
/-- What a run of a text says of it. -/
def Sound [Outer] (P : Program) (ρ : Nat → Value) (inh : List Nat) (w0 : World) (c : Code) (st : St) (x : SExit × St) : Prop :=
  ∀ β a w, Rel ρ β inh w0 st a w → ∀ Q : Exit → Act → World → Prop, (∀ β' a' w', (∀ i, i < st.nx → β' i = β i) → Rel ρ β' inh w0 x.2 a' w' → Q x.1.den a' w') → c.wp P Q a w

/-! ### What a run takes for granted -/
def SameFact (P : Program) (t : TypeId) (x y : Value) (b : Bool) : Prop := ∀ w, (Op.equal t x y).run P w = .ok b w

def Pure (P : Program) (f : FuncId) (args : Array Value) (v : Value) : Prop :=
  ∀ w, Calls P f args w fun e w' => e = .returned v ∧ Below w.heap.size w w'

/-- What a call leaves as it was: all but the blocks named. -/
structure Turned (ids : List Nat) (w w' : World) : Prop where
  os : w'.os = w.os
  tape : w'.tape = w.tape
  output : w'.output = w.output
  size : w.heap.size ≤ w'.heap.size
  block : ∀ k, k < w.heap.size → k ∉ ids → w'.heap[k]? = w.heap[k]?

/-- The numbers of the blocks that are there. -/
def liveIds (β : Nat → Nat) : List (Nat × MB) → List Nat
  | [] => []
  | x :: l => if x.2.live β then β x.1 :: liveIds β l else liveIds β l
theorem liveIds_mem {β : Nat → Nat} {k : Nat} : ∀ {l : List (Nat × MB)}, k ∈ liveIds β l ↔ ∃ x ∈ l, x.2.live β = true ∧ β x.1 = k
  | [] => by simp [liveIds]
  | x :: l => by
    simp only [liveIds]
    split
    · rename_i h
      rw [List.mem_cons, liveIds_mem (l := l)]
      constructor
      · rintro (rfl | ⟨y, hy, h1, h2⟩)
        · exact ⟨x, .head _, h, rfl⟩
        · exact ⟨y, .tail _ hy, h1, h2⟩
      · rintro ⟨y, hy, h1, h2⟩
        rcases List.mem_cons.1 hy with rfl | hy
        · exact .inl h2.symm
        · exact .inr ⟨y, hy, h1, h2⟩
    · rename_i h
      rw [liveIds_mem (l := l)]
      constructor
      · rintro ⟨y, hy, h1, h2⟩; exact ⟨y, .tail _ hy, h1, h2⟩
      · rintro ⟨y, hy, h1, h2⟩
        rcases List.mem_cons.1 hy with rfl | hy
        · exact absurd h1 h
        · exact ⟨y, hy, h1, h2⟩
theorem liveIds_congr {β β' : Nat → Nat} : ∀ {l : List (Nat × MB)}, (∀ x ∈ l, β' x.1 = β x.1 ∧ x.2.live β' = x.2.live β) → liveIds β' l = liveIds β l
  | [], _ => rfl
  | x :: l, h => by
    simp only [liveIds, (h x (.head _)).1, (h x (.head _)).2, liveIds_congr fun y hy => h y (.tail _ hy)]
/-- A call that reads the blocks 'pre' and leaves them as 'post', and may make blocks 'news'; names from n on are new. -/
def Turns [Outer] (P : Program) (ρ : Nat → Value) (β : Nat → Nat) (n : Nat) (f : FuncId) (args : Array Value) (pre post news : List (Nat × MB)) (res : SW) : Prop :=
  ∀ w, (∀ x ∈ Outer.r, w.heap[x.1]? = some x.2 ∧ ∀ y ∈ pre, y.2.live β = true → β y.1 ≠ x.1) → (∀ x ∈ pre, ∃ o, (x.2.live β = true → w.heap[β x.1]? = some o) ∧ x.2.fits ρ β o) → Calls P f args w fun e w' => ∃ β', (∀ i, i < n → β' i = β i) ∧ e = .returned (res.den ρ β') ∧ Turned (liveIds β pre) w w' ∧
    (∀ x ∈ post, ∃ o, (x.2.live β' = true → w'.heap[β x.1]? = some o) ∧ x.2.fits ρ β' o) ∧ (∀ x ∈ news, (x.2.live β' = true → w.heap.size ≤ β' x.1) ∧ ∃ o, (x.2.live β' = true → w'.heap[β' x.1]? = some o) ∧ x.2.fits ρ β' o) ∧
    (∀ x ∈ news, ∀ y ∈ news, x.2.live β' = true → y.2.live β' = true → β' x.1 = β' y.1 → x.1 = y.1)

def loopsOf : Code → List Code
  | .seq a b => loopsOf a ++ loopsOf b
  | .cond _ a b => loopsOf a ++ loopsOf b
  | .block _ c => loopsOf c
  | .loop c => c :: loopsOf c
  | _ => []
def loopAt (P : Program) (f : FuncId) (k : Nat) : Option Code :=
  match P.funcs[f]? with
  | none => none
  | some fn => match fn.body with
    | none => none
    | some c => (loopsOf c)[k]?

inductive Ev where
  | need (b : BTm)
  | fits (k : IntKind) (t : Tm)
  | same (t : TypeId) (x y : SV) (i : Nat)
  | call (f : FuncId) (args : List SV) (res : SW) (n : Nat)
  | turn (nx : Nat) (f : FuncId) (args : List SV) (pre post news : List (Nat × MB)) (res : SW) (n : Nat)
  | elem (src : Piece) (idx : Tm) (e fo : Nat) (ps : List Piece) (n : Nat)
  | put (src : Piece) (idx : Tm) (e fo : Nat) (vs : List Piece) (new : Piece) (n : Nat)
  | loop (f k : Nat) (st st' : St) (x : SExit) (alt : Option (Nat × SExit)) (n : Nat)
  | join (ps : List Piece) (parts : List (List Piece × Tm)) (e : Nat) (n : Nat)

/-- Parts of a list, one behind the other: so many elements of so many cells each. -/
def denJ (ρ : Nat → Value) (β : Nat → Nat) : List (List Piece × Tm) → List Value
  | [] => []
  | x :: l => densP ρ β x.1 ++ denJ ρ β l
def partsOk (ρ : Nat → Value) (β : Nat → Nat) (e : Nat) (parts : List (List Piece × Tm)) : Prop :=
  ∀ x ∈ parts, ∃ k : Nat, x.2.i ρ = ((k : Nat) : Int) ∧ (densP ρ β x.1).length = k * e
def denV (ρ : Nat → Value) (β : Nat → Nat) (vs : List SV) : Array Value := (vs.map (·.den ρ β)).toArray
def altX (ρ : Nat → Value) (x : SExit) : Option (Nat × SExit) → SExit
  | none => x
  | some (b, y) => if vBool (ρ b) then y else x

def Ev.holds [Outer] (P : Program) (ρ : Nat → Value) : Ev → Prop
  | .need b => b.den ρ = true
  | .fits k t => k.min ≤ t.i ρ ∧ t.i ρ ≤ k.max
  | .same t x y i => ∀ β, SameFact P t (x.den ρ β) (y.den ρ β) (vBool (ρ i))
  | .call f args res _ => ∀ β, Pure P f (denV ρ β args) (res.den ρ β)
  | .turn nx f args pre post news res _ => ∀ β, (∀ x ∈ pre, ∀ y ∈ pre, x.2.live β = true → y.2.live β = true → β x.1 = β y.1 → x.1 = y.1) → Turns P ρ β nx f (denV ρ β args) pre post news res
  | .elem src idx e fo ps _ => ∀ β, ((src.den ρ β).drop ((idx.i ρ).toNat * e + fo)).take (densP ρ β ps).length = densP ρ β ps
  | .put src idx e fo vs new _ => ∀ β, new.den ρ β = (src.den ρ β).take ((idx.i ρ).toNat * e + fo) ++ densP ρ β vs ++ (src.den ρ β).drop ((idx.i ρ).toNat * e + fo + (densP ρ β vs).length) ∧ (idx.i ρ).toNat * e + fo + (densP ρ β vs).length ≤ (src.den ρ β).length
  | .join ps parts e _ => ∀ β, densP ρ β ps = denJ ρ β parts ∧ partsOk ρ β e parts
  | .loop f k st st' x alt _ => ∀ c, loopAt P f k = some c → ∀ inh w0, Sound P ρ inh w0 (.loop c) st (altX ρ x alt, st')

def Holds [Outer] (P : Program) (ρ : Nat → Value) (evs : List Ev) : Prop := ∀ e ∈ evs, e.holds P ρ

/-! ### The result of a step -/
inductive R (α : Type) where
  | ok (a : α) (evs : List Ev)
  | split (c : BTm) (evs : List Ev)
  | bad (why : String)

def R.bind {α β : Type} (x : R α) (f : α → R β) : R β :=
  match x with
  | .ok a e => match f a with
    | .ok b e' => .ok b (e ++ e')
    | .split c e' => .split c (e ++ e')
    | .bad why => .bad why
  | .split c e => .split c e
  | .bad why => .bad why

theorem R.bind_ok {α β : Type} {x : R α} {f : α → R β} {b : β} {e : List Ev} (h : x.bind f = .ok b e) : ∃ a e1 e2, x = .ok a e1 ∧ f a = .ok b e2 ∧ e = e1 ++ e2 := by
  cases x with
  | ok a e1 =>
    simp only [R.bind] at h
    split at h
    · rename_i b' e2 hf
      cases h
      exact ⟨a, e1, e2, rfl, hf, rfl⟩
    · cases h
    · cases h
  | split _ _ => cases h
  | bad _ => cases h

inductive Sh where
  | bool
  | int (k : IntKind)
  | str
  | row (n : Nat)
  | all
  | any
  | list (et e : Nat)

/-- How a run treats calls: 'inl': entered; 'eff': calls that turn blocks: of the arguments at those places, the cells there get new values; 'ro': blocks that such calls read. -/
structure LoopSpec where
  slots : List (Nat × Sh)
  dead : List Nat
  blocks : List (Nat × List Sh)
  drop : List Nat
  exit : SExit
  alt : Option SExit
structure Cfg where
  inl : List FuncId
  shapes : List (TypeId × List Sh)
  eff : List (FuncId × List (Nat × List (Nat × Sh)))
  ro : List Nat
  nowrap : Bool
  loops : List ((Nat × Nat) × LoopSpec)

/-! ### Conditions -/
abbrev Asm := List (BTm × Bool)
def Asm.den (ρ : Nat → Value) (asm : Asm) : Prop := ∀ x ∈ asm, x.1.den ρ = x.2
def lookB (c : BTm) : Asm → Option Bool
  | [] => none
  | (d, b) :: asm => if c.beq d then some b else lookB c asm
def decideB (asm : Asm) : BTm → Option Bool
  | .lit b => some b
  | .no a => match decideB asm a with
    | some b => some (!b)
    | none => none
  | c => lookB c asm
def atomB : BTm → BTm
  | .no a => atomB a
  | c => c
theorem lookB_den {ρ : Nat → Value} {c : BTm} {b : Bool} : ∀ {asm : Asm}, Asm.den ρ asm → lookB c asm = some b → c.den ρ = b
  | [], _, h => by cases h
  | (d, b') :: asm, ha, h => by
    simp only [lookB] at h
    split at h
    · rename_i hb
      cases h
      rw [BTm.beq_eq hb]; exact ha _ (.head _)
    · exact lookB_den (fun x hx => ha x (.tail _ hx)) h
theorem decideB_den [Outer] {ρ : Nat → Value} {asm : Asm} (ha : Asm.den ρ asm) : ∀ {c : BTm} {b : Bool}, decideB asm c = some b → c.den ρ = b
  | .lit x, b, h => by simp only [decideB, Option.some.injEq] at h; subst h; rfl
  | .no a, b, h => by
    simp only [decideB] at h
    split at h
    · rename_i b' hb
      cases h
      simp only [BTm.den, decideB_den ha hb]
    · cases h
  | .v i, b, h => lookB_den ha h
  | .eq x y, b, h => lookB_den ha h
  | .lt x y, b, h => lookB_den ha h
  | .seq x y, b, h => lookB_den ha h
  | .slt x y, b, h => lookB_den ha h

def mkNo : BTm → BTm
  | .lit b => .lit (!b)
  | .no a => a
  | a => .no a
def mkEq (a b : Tm) : BTm :=
  match a, b with
  | .lit m, .lit n => .lit (intBeq m n)
  | a, b => if a.beq b then .lit true else .eq a b
def intLt : Int → Int → Bool
  | .ofNat a, .ofNat b => Nat.blt a b
  | .negSucc a, .negSucc b => Nat.blt b a
  | .negSucc _, .ofNat _ => true
  | .ofNat _, .negSucc _ => false
def mkLt (a b : Tm) : BTm :=
  match a, b with
  | .lit m, .lit n => .lit (intLt m n)
  | a, b => .lt a b
theorem mkNo_den (ρ : Nat → Value) (a : BTm) : (mkNo a).den ρ = !a.den ρ := by
  cases a <;> simp [mkNo, BTm.den]
theorem intBeq_iff {a b : Int} : intBeq a b = (a == b) := by
  cases h : intBeq a b
  · symm
    rw [beq_eq_false_iff_ne]
    intro e
    subst e
    cases a <;> simp [intBeq] at h
  · rw [intBeq_eq h]; simp
theorem mkEq_den [Outer] (ρ : Nat → Value) (a b : Tm) : (mkEq a b).den ρ = (a.i ρ == b.i ρ) := by
  unfold mkEq
  split
  · simp only [BTm.den, Tm.i, Tm.den, intBeq_iff]
  · split
    · rename_i h
      rw [Tm.beq_eq h]; simp [BTm.den]
    · rfl
theorem intLt_iff {a b : Int} : intLt a b = decide (a < b) := by
  rw [Bool.eq_iff_iff, decide_eq_true_iff]
  cases a <;> cases b <;> simp only [intLt, Nat.blt_eq, Int.ofNat_eq_natCast, Bool.false_eq_true, false_iff, true_iff] <;> omega
theorem mkLt_den [Outer] (ρ : Nat → Value) (a b : Tm) : (mkLt a b).den ρ = decide (a.i ρ < b.i ρ) := by
  unfold mkLt
  split
  · simp only [BTm.den, Tm.i, Tm.den, intLt_iff]; rfl
  · rfl

end Go.Proofs.YteemnnajfiimlaaDoor.Sx
