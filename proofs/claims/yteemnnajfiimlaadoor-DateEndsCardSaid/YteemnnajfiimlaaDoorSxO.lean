/- Symbolic execution: the ways through a function, and what is to be shown of each. No program is named here. -/
import Derived.Test.YteemnnajfiimlaaDoorSxN
namespace Go.Proofs.YteemnnajfiimlaaDoor.Sx
open Go.RowKit

/-! ### Equal events -/
def constBeq : Value → Value → Bool
  | .pointer none, .pointer none => true
  | .slice none 0 0, .slice none 0 0 => true
  | .nilFunc, .nilFunc => true
  | .nilIface, .nilIface => true
  | _, _ => false
def pairsBeq : List (Nat × Nat) → List (Nat × Nat) → Bool
  | [], [] => true
  | (a, b) :: x, (c, d) :: y => Nat.beq a c && Nat.beq b d && pairsBeq x y
  | _, _ => false
def BP.beq : BP → BP → Bool
  | .bool a, .bool b => a.beq b
  | .int k a, .int k' b => Nat.beq (kindNo k) (kindNo k') && a.beq b
  | .str a, .str b => a.beq b
  | .row i n, .row j m => Nat.beq i j && Nat.beq n m
  | .rep k v n, .rep k' v' n' => Nat.beq (kindNo k) (kindNo k') && intBeq v v' && Nat.beq n n'
  | _, _ => false
def bpsBeq : List BP → List BP → Bool
  | [], [] => true
  | a :: x, b :: y => a.beq b && bpsBeq x y
  | _, _ => false
def Cell.beq : Cell → Cell → Bool
  | .bool a, .bool b => a.beq b
  | .int k a, .int k' b => Nat.beq (kindNo k) (kindNo k') && a.beq b
  | .str a, .str b => a.beq b
  | .ptr a b, .ptr c d => Nat.beq a c && Nat.beq b d
  | .slice a b c d, .slice a' b' c' d' => Nat.beq a a' && Nat.beq b b' && Nat.beq c c' && Nat.beq d d'
  | .eptr a b c i d, .eptr a' b' c' i' d' => Nat.beq a a' && Nat.beq b b' && Nat.beq c c' && i.beq i' && Nat.beq d d'
  | .sl a b i, .sl a' b' i' => Nat.beq a a' && Nat.beq b b' && i.beq i'
  | .func f l, .func g m => Nat.beq f g && pairsBeq l m
  | .v i, .v j => Nat.beq i j
  | .const a, .const b => constBeq a b
  | .meth f l, .meth g m => Nat.beq f g && bpsBeq l m
  | _, _ => false
def Piece.beq : Piece → Piece → Bool
  | .one a, .one b => a.beq b
  | .row i n, .row j m => Nat.beq i j && Nat.beq n m
  | .all i, .all j => Nat.beq i j
  | .rep k v n, .rep k' v' n' => Nat.beq (kindNo k) (kindNo k') && intBeq v v' && Nat.beq n n'
  | .bytes t, .bytes t' => t.beq t'
  | _, _ => false
def listBeq {α : Type} (f : α → α → Bool) : List α → List α → Bool
  | [], [] => true
  | a :: x, b :: y => f a b && listBeq f x y
  | _, _ => false
def SV.beq : SV → SV → Bool
  | .cell a, .cell b => a.beq b
  | .agg a, .agg b => listBeq Piece.beq a b
  | _, _ => false
def SW.beq : SW → SW → Bool
  | .undef, .undef => true
  | .dead, .dead => true
  | .one a, .one b => a.beq b
  | .tuple a, .tuple b => listBeq SV.beq a b
  | _, _ => false
def capBeq : Option (Nat × Nat) → Option (Nat × Nat) → Bool
  | none, none => true
  | some (a, b), some (c, d) => Nat.beq a c && Nat.beq b d
  | _, _ => false
def MB.beq (x y : MB) : Bool := Nat.beq x.ty y.ty && listBeq Piece.beq x.ps y.ps && capBeq x.cap y.cap
def mbBeq (x y : Nat × MB) : Bool := Nat.beq x.1 y.1 && x.2.beq y.2
def mbOBeq : Nat × Option MB → Nat × Option MB → Bool
  | (i, none), (j, none) => Nat.beq i j
  | (i, some x), (j, some y) => Nat.beq i j && x.beq y
  | _, _ => false
def St.beq (x y : St) : Bool := listBeq SW.beq x.tmps y.tmps && listBeq mbOBeq x.mem y.mem && Nat.beq x.nx y.nx && Nat.beq x.nv y.nv
def SExit.beq : SExit → SExit → Bool
  | .normal, .normal => true
  | .exit a, .exit b => Nat.beq a b
  | .ret, .ret => true
  | _, _ => false
def altBeq : Option (Nat × SExit) → Option (Nat × SExit) → Bool
  | none, none => true
  | some (a, x), some (b, y) => Nat.beq a b && x.beq y
  | _, _ => false
def partBeq (x y : List Piece × Tm) : Bool := listBeq Piece.beq x.1 y.1 && x.2.beq y.2
def partsUnder (n : Nat) (l : List (List Piece × Tm)) : Bool := l.all fun x => x.1.all (·.under n) && x.2.under n
def Ev.beq : Ev → Ev → Bool
  | .need a, .need b => a.beq b
  | .fits k a, .fits k' b => Nat.beq (kindNo k) (kindNo k') && a.beq b
  | .same t x y i, .same t' x' y' i' => Nat.beq t t' && x.beq x' && y.beq y' && Nat.beq i i'
  | .call f as r n, .call f' as' r' n' => Nat.beq f f' && listBeq SV.beq as as' && r.beq r' && Nat.beq n n'
  | .turn x f as p q m r n, .turn x' f' as' p' q' m' r' n' => Nat.beq x x' && Nat.beq f f' && listBeq SV.beq as as' && listBeq mbBeq p p' && listBeq mbBeq q q' && listBeq mbBeq m m' && r.beq r' && Nat.beq n n'
  | .elem s i e f ps n, .elem s' i' e' f' ps' n' => s.beq s' && i.beq i' && Nat.beq e e' && Nat.beq f f' && listBeq Piece.beq ps ps' && Nat.beq n n'
  | .put s i e f ps q n, .put s' i' e' f' ps' q' n' => s.beq s' && i.beq i' && Nat.beq e e' && Nat.beq f f' && listBeq Piece.beq ps ps' && q.beq q' && Nat.beq n n'
  | .join ps l e n, .join ps' l' e' n' => listBeq Piece.beq ps ps' && listBeq partBeq l l' && Nat.beq e e' && Nat.beq n n'
  | .loop f k st st' x alt n, .loop f' k' s2 s2' x' alt' n' => Nat.beq f f' && Nat.beq k k' && st.beq s2 && st'.beq s2' && x.beq x' && altBeq alt alt' && Nat.beq n n'
  | _, _ => false
theorem natBeq {a b : Nat} (h : Nat.beq a b = true) : a = b := Nat.eq_of_beq_eq_true h
theorem listBeq_eq {α : Type} {f : α → α → Bool} (hf : ∀ {a b}, f a b = true → a = b) : ∀ {x y : List α}, listBeq f x y = true → x = y
  | [], [], _ => rfl
  | a :: x, b :: y, h => by
    simp only [listBeq, Bool.and_eq_true] at h
    rw [hf h.1, listBeq_eq hf h.2]
  | [], _ :: _, h => by cases h
  | _ :: _, [], h => by cases h
theorem pairsBeq_eq [Outer] : ∀ {x y : List (Nat × Nat)}, pairsBeq x y = true → x = y
  | [], [], _ => rfl
  | (a, b) :: x, (c, d) :: y, h => by
    simp only [pairsBeq, Bool.and_eq_true] at h
    rw [natBeq h.1.1, natBeq h.1.2, pairsBeq_eq h.2]
  | [], _ :: _, h => by cases h
  | _ :: _, [], h => by cases h
theorem constBeq_eq {a b : Value} (h : constBeq a b = true) : a = b := by
  unfold constBeq at h
  split at h <;> first | rfl | cases h
theorem BP.beq_eq {a b : BP} (h : a.beq b = true) : a = b := by
  cases a <;> cases b <;> simp only [BP.beq, Bool.and_eq_true, Bool.false_eq_true] at h
  · rw [BTm.beq_eq h]
  · rw [kindNo_inj (natBeq h.1), Tm.beq_eq h.2]
  · rw [Tm.beq_eq h]
  · rw [natBeq h.1, natBeq h.2]
  · rw [kindNo_inj (natBeq h.1.1), intBeq_eq h.1.2, natBeq h.2]
theorem bpsBeq_eq : ∀ {a b : List BP}, bpsBeq a b = true → a = b
  | [], [], _ => rfl
  | a :: x, b :: y, h => by
    simp only [bpsBeq, Bool.and_eq_true] at h
    rw [BP.beq_eq h.1, bpsBeq_eq h.2]
  | [], _ :: _, h => by cases h
  | _ :: _, [], h => by cases h
theorem Cell.beq_eq [Outer] {a b : Cell} (h : a.beq b = true) : a = b := by
  cases a <;> cases b <;> simp only [Cell.beq, Bool.and_eq_true, Bool.false_eq_true] at h
  · rw [BTm.beq_eq h]
  · rw [kindNo_inj (natBeq h.1), Tm.beq_eq h.2]
  · rw [Tm.beq_eq h]
  · rw [natBeq h.1, natBeq h.2]
  · rw [natBeq h.1.1.1, natBeq h.1.1.2, natBeq h.1.2, natBeq h.2]
  · rw [natBeq h.1.1.1.1, natBeq h.1.1.1.2, natBeq h.1.1.2, Tm.beq_eq h.1.2, natBeq h.2]
  · rw [natBeq h.1.1, natBeq h.1.2, Tm.beq_eq h.2]
  · rw [natBeq h.1, pairsBeq_eq h.2]
  · rw [natBeq h]
  · rw [constBeq_eq h]
  · rw [natBeq h.1, bpsBeq_eq h.2]
theorem Piece.beq_eq [Outer] {a b : Piece} (h : a.beq b = true) : a = b := by
  cases a <;> cases b <;> simp only [Piece.beq, Bool.and_eq_true, Bool.false_eq_true] at h
  · rw [Cell.beq_eq h]
  · rw [natBeq h.1, natBeq h.2]
  · rw [natBeq h]
  · rw [kindNo_inj (natBeq h.1.1), intBeq_eq h.1.2, natBeq h.2]
  · rw [Tm.beq_eq h]
theorem partBeq_eq [Outer] {a b : List Piece × Tm} (h : partBeq a b = true) : a = b := by
  unfold partBeq at h
  simp only [Bool.and_eq_true] at h
  exact Prod.ext (listBeq_eq Piece.beq_eq h.1) (Tm.beq_eq h.2)
theorem SV.beq_eq [Outer] {a b : SV} (h : a.beq b = true) : a = b := by
  cases a <;> cases b <;> simp only [SV.beq, Bool.false_eq_true] at h
  · rw [Cell.beq_eq h]
  · rw [listBeq_eq Piece.beq_eq h]
theorem SW.beq_eq [Outer] {a b : SW} (h : a.beq b = true) : a = b := by
  cases a <;> cases b <;> simp only [SW.beq, Bool.false_eq_true] at h
  · rfl
  · rfl
  · rw [SV.beq_eq h]
  · rw [listBeq_eq SV.beq_eq h]
theorem capBeq_eq [Outer] {a b : Option (Nat × Nat)} (h : capBeq a b = true) : a = b := by
  unfold capBeq at h
  split at h
  · rfl
  · simp only [Bool.and_eq_true] at h; rw [natBeq h.1, natBeq h.2]
  · cases h
theorem MB.beq_eq [Outer] {a b : MB} (h : a.beq b = true) : a = b := by
  obtain ⟨t, ps, c⟩ := a
  obtain ⟨u, qs, d⟩ := b
  simp only [MB.beq, Bool.and_eq_true] at h
  rw [natBeq h.1.1, listBeq_eq Piece.beq_eq h.1.2, capBeq_eq h.2]
theorem mbBeq_eq [Outer] {a b : Nat × MB} (h : mbBeq a b = true) : a = b := by
  obtain ⟨i, x⟩ := a
  obtain ⟨j, y⟩ := b
  simp only [mbBeq, Bool.and_eq_true] at h
  rw [natBeq h.1, MB.beq_eq h.2]
theorem mbOBeq_eq [Outer] {a b : Nat × Option MB} (h : mbOBeq a b = true) : a = b := by
  unfold mbOBeq at h
  split at h
  · rw [natBeq h]
  · simp only [Bool.and_eq_true] at h; rw [natBeq h.1, MB.beq_eq h.2]
  · cases h
theorem St.beq_eq [Outer] {a b : St} (h : a.beq b = true) : a = b := by
  obtain ⟨t, m, x, v⟩ := a
  obtain ⟨t', m', x', v'⟩ := b
  simp only [St.beq, Bool.and_eq_true] at h
  rw [listBeq_eq SW.beq_eq h.1.1.1, listBeq_eq mbOBeq_eq h.1.1.2, natBeq h.1.2, natBeq h.2]
theorem SExit.beq_eq [Outer] {a b : SExit} (h : a.beq b = true) : a = b := by
  cases a <;> cases b <;> simp only [SExit.beq, Bool.false_eq_true] at h <;> first | rfl | rw [natBeq h]
theorem altBeq_eq [Outer] {a b : Option (Nat × SExit)} (h : altBeq a b = true) : a = b := by
  unfold altBeq at h
  split at h
  · rfl
  · simp only [Bool.and_eq_true] at h; rw [natBeq h.1, SExit.beq_eq h.2]
  · cases h
theorem Ev.beq_eq [Outer] {a b : Ev} (h : a.beq b = true) : a = b := by
  cases a <;> cases b <;> simp only [Ev.beq, Bool.and_eq_true, Bool.false_eq_true] at h
  · rw [BTm.beq_eq h]
  · rw [kindNo_inj (natBeq h.1), Tm.beq_eq h.2]
  · rw [natBeq h.1.1.1, SV.beq_eq h.1.1.2, SV.beq_eq h.1.2, natBeq h.2]
  · rw [natBeq h.1.1.1, listBeq_eq SV.beq_eq h.1.1.2, SW.beq_eq h.1.2, natBeq h.2]
  · obtain ⟨⟨⟨⟨⟨⟨⟨h1, h2⟩, h3⟩, h4⟩, h5⟩, h6⟩, h7⟩, h8⟩ := h
    rw [natBeq h1, natBeq h2, listBeq_eq SV.beq_eq h3, listBeq_eq mbBeq_eq h4, listBeq_eq mbBeq_eq h5, listBeq_eq mbBeq_eq h6, SW.beq_eq h7, natBeq h8]
  · obtain ⟨⟨⟨⟨⟨h1, h2⟩, h3⟩, h4⟩, h5⟩, h6⟩ := h
    rw [Piece.beq_eq h1, Tm.beq_eq h2, natBeq h3, natBeq h4, listBeq_eq Piece.beq_eq h5, natBeq h6]
  · obtain ⟨⟨⟨⟨⟨⟨h1, h2⟩, h3⟩, h4⟩, h5⟩, h6⟩, h7⟩ := h
    rw [Piece.beq_eq h1, Tm.beq_eq h2, natBeq h3, natBeq h4, listBeq_eq Piece.beq_eq h5, Piece.beq_eq h6, natBeq h7]
  · obtain ⟨⟨⟨⟨⟨⟨h1, h2⟩, h3⟩, h4⟩, h5⟩, h6⟩, h7⟩ := h
    rw [natBeq h1, natBeq h2, St.beq_eq h3, St.beq_eq h4, SExit.beq_eq h5, altBeq_eq h6, natBeq h7]
  · rw [listBeq_eq Piece.beq_eq h.1.1.1, listBeq_eq partBeq_eq h.1.1.2, natBeq h.1.2, natBeq h.2]

/-! ### The variables of an event -/
def MB.under (n : Nat) (m : MB) : Bool := m.ps.all (·.under n)
def underL (n : Nat) (m : List (Nat × MB)) : Bool := m.all fun x => x.2.under n
def underO (n : Nat) : Option MB → Bool
  | none => true
  | some m => m.under n
def underM (n : Nat) (m : Mem) : Bool := m.all fun x => underO n x.2
def St.under (n : Nat) (st : St) : Bool := st.tmps.all (·.under n) && underM n st.mem
def altUnder (n : Nat) : Option (Nat × SExit) → Bool
  | none => true
  | some (b, _) => Nat.blt b n
/-- The variables below n are known; how many are known behind the event. -/
def Ev.next (n : Nat) : Ev → Option Nat
  | .need b => if b.under n then some n else none
  | .fits _ t => if t.under n then some n else none
  | .same _ x y i => if x.under n && y.under n && Nat.beq i n then some (n + 1) else none
  | .call _ as r k => if as.all (·.under n) && r.under (n + k) then some (n + k) else none
  | .turn _ _ as p q m r k => if as.all (·.under n) && underL n p && underL (n + k) q && underL (n + k) m && r.under (n + k) then some (n + k) else none
  | .elem s i _ _ ps k => if s.under n && i.under n && ps.all (·.under (n + k)) then some (n + k) else none
  | .put s i _ _ ps q k => if s.under n && i.under n && ps.all (·.under n) && q.under (n + k) then some (n + k) else none
  | .join ps l _ k => if partsUnder n l && ps.all (·.under (n + k)) then some (n + k) else none
  | .loop _ _ st st' _ alt k => if st.under n && st'.under (n + k) && altUnder (n + k) alt then some (n + k) else none
def nexts : List Ev → Nat → Option Nat
  | [], n => some n
  | e :: es, n => match e.next n with
    | none => none
    | some m => nexts es m

section
variable {n : Nat} {ρ ρ' : Nat → Value} {β : Nat → Nat}
theorem denV_under (hρ : ∀ i, i < n → ρ' i = ρ i) {vs : List SV} (h : vs.all (·.under n) = true) : denV ρ' β vs = denV ρ β vs := by
  simp only [denV, SVs_under hρ h]
theorem Piece.den_under (hρ : ∀ i, i < n → ρ' i = ρ i) {p : Piece} (h : p.under n = true) : p.den ρ' β = p.den ρ β := by
  have := densP_under (β := β) hρ (ps := [p]) (by simp [h])
  simpa [densP] using this
theorem turns_under [Outer] {P : Program} {ρ1 ρ2 : Nat → Value} {nx : Nat} {f : FuncId} {args : Array Value} {pre post news : List (Nat × MB)} {res : SW} (hpre : ∀ x ∈ pre, ∀ β, x.2.fits ρ1 β = x.2.fits ρ2 β) (hpost : ∀ x ∈ post, ∀ β, x.2.fits ρ1 β = x.2.fits ρ2 β)
    (hnews : ∀ x ∈ news, ∀ β, x.2.fits ρ1 β = x.2.fits ρ2 β) (hres : ∀ β, res.den ρ1 β = res.den ρ2 β) (h : Turns P ρ2 β nx f args pre post news res) : Turns P ρ1 β nx f args pre post news res := fun w hr hw => by
  refine (h w hr fun x hx => ?_).mono fun e w' ⟨β', h1, h2, h3, h4, h5, h6⟩ => ⟨β', h1, by rw [hres]; exact h2, h3, fun x hx => ?_, fun x hx => ?_, h6⟩
  · obtain ⟨o, ho, hf⟩ := hw x hx; exact ⟨o, ho, by rw [← hpre x hx]; exact hf⟩
  · obtain ⟨o, ho, hf⟩ := h4 x hx; exact ⟨o, ho, by rw [hpost x hx]; exact hf⟩
  · obtain ⟨hs, o, ho, hf⟩ := h5 x hx; exact ⟨hs, o, ho, by rw [hnews x hx]; exact hf⟩
theorem underL_fits (hρ : ∀ i, i < n → ρ' i = ρ i) {l : List (Nat × MB)} (h : underL n l = true) : ∀ x ∈ l, ∀ β, x.2.fits ρ' β = x.2.fits ρ β := fun x hx _ =>
  MB.fits_under hρ (List.all_eq_true.1 h x hx)
theorem look_under {tm : List SW} (h : tm.all (·.under n) = true) (t : Nat) : (look tm t).under n = true := by
  rw [look_get]
  cases ht : tm[t]? with
  | none => rfl
  | some x => exact List.all_eq_true.1 h x (List.mem_of_getElem? ht)
theorem find_under {mem : Mem} (h : underM n mem = true) {i : Nat} {m : MB} (hf : find i mem = some m) : m.under n = true := by
  induction mem with
  | nil => cases hf
  | cons x l ih =>
    obtain ⟨j, m'⟩ := x
    simp only [underM, List.all_cons, Bool.and_eq_true] at h
    simp only [find] at hf
    split at hf
    · subst hf; exact h.1
    · exact ih h.2 hf
theorem Mrel.under [Outer] {inh : List Nat} {w0 w : World} {mm : Nat → Option MB} (hm : ∀ i m, mm i = some m → m.fits ρ' β = m.fits ρ β) (h : Mrel ρ β inh w0 mm w) : Mrel ρ' β inh w0 mm w :=
  ⟨h.os, h.tape, h.output, h.size, h.old, fun i m hi => by obtain ⟨o, ho, hf⟩ := h.cells i m hi; exact ⟨o, ho, by rw [hm i m hi]; exact hf⟩, h.own, h.inj, h.ro⟩
theorem Rel.under [Outer] {inh : List Nat} {w0 w : World} {st : St} {a : Act} (hρ : ∀ i, i < n → ρ' i = ρ i) (hs : st.under n = true) (h : Rel ρ β inh w0 st a w) : Rel ρ' β inh w0 st a w := by
  simp only [St.under, Bool.and_eq_true] at hs
  refine ⟨⟨h.1.1, fun t v hv => (h.1.2 t v hv).imp id fun e => ?_⟩, h.2.1, Mrel.under (fun i m hi => MB.fits_under hρ (find_under hs.2 hi)) h.2.2⟩
  rw [e, SW.den_under hρ (look_under hs.1 t)]
end
theorem denJ_under {n : Nat} {ρ ρ' : Nat → Value} {β : Nat → Nat} (hρ : ∀ i, i < n → ρ' i = ρ i) : ∀ {l : List (List Piece × Tm)}, partsUnder n l = true → denJ ρ' β l = denJ ρ β l
  | [], _ => rfl
  | x :: l, h => by
    simp only [partsUnder, List.all_cons, Bool.and_eq_true] at h
    simp only [denJ]
    rw [densP_under hρ h.1.1, denJ_under hρ (by simpa [partsUnder] using h.2)]
theorem partsOk_under {n e : Nat} {ρ ρ' : Nat → Value} {β : Nat → Nat} (hρ : ∀ i, i < n → ρ' i = ρ i) {l : List (List Piece × Tm)} (h : partsUnder n l = true) (hp : partsOk ρ β e l) : partsOk ρ' β e l := fun x hx => by
  obtain ⟨k, h1, h2⟩ := hp x hx
  have := List.all_eq_true.1 h x hx
  simp only [Bool.and_eq_true] at this
  exact ⟨k, by simp only [Tm.i, Tm.den_under hρ this.2] at h1 ⊢; exact h1, by rw [densP_under hρ this.1]; exact h2⟩
theorem Ev.next_le {n m : Nat} {e : Ev} (h : e.next n = some m) : n ≤ m := by
  cases e <;> simp only [Ev.next] at h <;> split at h <;> simp at h <;> omega
theorem nexts_le [Outer] : ∀ {es : List Ev} {n m : Nat}, nexts es n = some m → n ≤ m
  | [], n, m, h => by cases h; exact Nat.le_refl _
  | e :: es, n, m, h => by
    simp only [nexts] at h
    split at h
    · cases h
    · rename_i k hk
      have := Ev.next_le hk
      have := nexts_le h
      omega
/-- An event speaks of its own variables only. -/
theorem Ev.holds_under [Outer] {P : Program} {n m : Nat} {ρ ρ' : Nat → Value} {e : Ev} (h : e.next n = some m) (hρ : ∀ i, i < m → ρ' i = ρ i) (hh : e.holds P ρ) : e.holds P ρ' := by
  have hn : ∀ i, i < n → ρ' i = ρ i := fun i hi => hρ i (Nat.lt_of_lt_of_le hi (Ev.next_le h))
  cases e <;> simp only [Ev.next] at h <;> split at h <;> simp only [Option.some.injEq, reduceCtorEq] at h <;> rename_i hu <;> simp only [Ev.holds] at hh ⊢
  · rw [BTm.den_under hn hu]; exact hh
  · simp only [Tm.i] at hh ⊢; rw [Tm.den_under hn hu]; exact hh
  · simp only [Bool.and_eq_true] at hu
    intro β
    rw [SV.den_under hn hu.1.1, SV.den_under hn hu.1.2, hρ _ (by rw [natBeq hu.2]; omega)]
    exact hh β
  · simp only [Bool.and_eq_true] at hu
    intro β
    rw [denV_under hn hu.1, SW.den_under (by rw [h]; exact hρ) hu.2]
    exact hh β
  · simp only [Bool.and_eq_true] at hu
    obtain ⟨⟨⟨⟨u1, u2⟩, u3⟩, u4⟩, u5⟩ := hu
    rw [h] at u3 u4 u5
    intro β hβ
    rw [denV_under hn u1]
    exact turns_under (underL_fits hn u2) (underL_fits hρ u3) (underL_fits hρ u4) (fun β => SW.den_under hρ u5) (hh β hβ)
  · simp only [Bool.and_eq_true] at hu
    obtain ⟨⟨u1, u2⟩, u3⟩ := hu
    rw [h] at u3
    intro β
    rw [Piece.den_under hn u1, densP_under hρ u3]
    simp only [Tm.i, Tm.den_under hn u2]
    exact hh β
  · simp only [Bool.and_eq_true] at hu
    obtain ⟨⟨⟨u1, u2⟩, u3⟩, u4⟩ := hu
    rw [h] at u4
    intro β
    rw [Piece.den_under hn u1, densP_under hn u3, Piece.den_under hρ u4]
    simp only [Tm.i, Tm.den_under hn u2]
    exact hh β
  · simp only [Bool.and_eq_true] at hu
    obtain ⟨⟨u1, u2⟩, u3⟩ := hu
    rw [h] at u2 u3
    rename_i f k st st' x alt _
    intro c hc inh w0 β a w hR Q hQ
    have hx : altX ρ' x alt = altX ρ x alt := by
      cases alt with
      | none => rfl
      | some by' => simp only [altX]; rw [hρ _ (by simpa [altUnder, Nat.blt_eq] using u3)]
    rw [hx] at hQ
    exact hh c hc inh w0 β a w (hR.under (fun i hi => (hn i hi).symm) u1) Q fun β' a' w' hβ hR' => hQ β' a' w' hβ (hR'.under hρ u2)
  · simp only [Bool.and_eq_true] at hu
    obtain ⟨u1, u2⟩ := hu
    rw [h] at u2
    intro β
    obtain ⟨h1, h2⟩ := hh β
    rw [densP_under hρ u2, denJ_under hn u1]
    exact ⟨h1, partsOk_under hn u1 h2⟩

/-! ### Known values -/
def env (ρ : List Value) : Nat → Value := fun i => ρ.getD i undef
theorem env_append (ρ vs : List Value) : ∀ i, i < ρ.length → env (ρ ++ vs) i = env ρ i := fun i hi => by
  simp only [env, List.getD_eq_getElem?_getD, List.getElem?_append_left hi]

/-- What is to be shown of a row of events: each; then K of all that is known. -/
def evDen [Outer] (P : Program) (K : List Value → Prop) : List Ev → List Value → Prop
  | [], ρ => K ρ
  | .need b :: es, ρ => b.den (env ρ) = true ∧ evDen P K es ρ
  | .fits k t :: es, ρ => (k.min ≤ t.i (env ρ) ∧ t.i (env ρ) ≤ k.max) ∧ evDen P K es ρ
  | .same t x y _ :: es, ρ => ∃ b : Bool, (∀ β, SameFact P t (x.den (env ρ) β) (y.den (env ρ) β) b) ∧ evDen P K es (ρ ++ [.bool b])
  | .call f as r n :: es, ρ => ∃ vs : List Value, vs.length = n ∧ (∀ β, Pure P f (denV (env ρ) β as) (r.den (env (ρ ++ vs)) β)) ∧ evDen P K es (ρ ++ vs)
  | .turn nx f as p q m r n :: es, ρ => ∃ vs : List Value, vs.length = n ∧ (∀ β, (∀ x ∈ p, ∀ y ∈ p, x.2.live β = true → y.2.live β = true → β x.1 = β y.1 → x.1 = y.1) → Turns P (env (ρ ++ vs)) β nx f (denV (env ρ) β as) p q m r) ∧ evDen P K es (ρ ++ vs)
  | .elem s i e fo ps n :: es, ρ => ∃ vs : List Value, vs.length = n ∧ Ev.holds P (env (ρ ++ vs)) (.elem s i e fo ps n) ∧ evDen P K es (ρ ++ vs)
  | .put s i e fo ps q n :: es, ρ => ∃ vs : List Value, vs.length = n ∧ Ev.holds P (env (ρ ++ vs)) (.put s i e fo ps q n) ∧ evDen P K es (ρ ++ vs)
  | .join ps l e n :: es, ρ => ∃ vs : List Value, vs.length = n ∧ Ev.holds P (env (ρ ++ vs)) (.join ps l e n) ∧ evDen P K es (ρ ++ vs)
  | .loop f k st st' x alt n :: es, ρ => ∃ vs : List Value, vs.length = n ∧ Ev.holds P (env (ρ ++ vs)) (.loop f k st st' x alt n) ∧ evDen P K es (ρ ++ vs)

theorem evDen_sound [Outer] {P : Program} {K : List Value → Prop} : ∀ {es : List Ev} {ρ : List Value} {m : Nat}, nexts es ρ.length = some m → evDen P K es ρ → ∃ vs, (ρ ++ vs).length = m ∧ K (ρ ++ vs) ∧ Holds P (env (ρ ++ vs)) es
  | [], ρ, m, h, hd => by cases h; exact ⟨[], by simp, by simpa [evDen] using hd, fun e he => by cases he⟩
  | e :: es, ρ, m, h, hd => by
    simp only [nexts] at h
    split at h
    · cases h
    · rename_i k hk
      have step : ∀ vs : List Value, (ρ ++ vs).length = k → e.holds P (env (ρ ++ vs)) → evDen P K es (ρ ++ vs) → ∃ vs, (ρ ++ vs).length = m ∧ K (ρ ++ vs) ∧ Holds P (env (ρ ++ vs)) (e :: es) := fun vs hl he hd' => by
        obtain ⟨us, h1, h2, h3⟩ := evDen_sound (by rw [hl]; exact h) hd'
        refine ⟨vs ++ us, by rw [← List.append_assoc]; exact h1, by rw [← List.append_assoc]; exact h2, fun e' he' => ?_⟩
        rw [← List.append_assoc]
        rcases List.mem_cons.1 he' with rfl | he'
        · exact Ev.holds_under hk (fun i hi => env_append _ _ i (by rw [hl]; exact hi)) he
        · exact h3 e' he'
      have hlen : ∀ {n : Nat} {vs : List Value}, ρ.length + n = k → vs.length = n → (ρ ++ vs).length = k := fun h1 h2 => by simp; omega
      cases e with
      | need b =>
        simp only [evDen] at hd
        have : ρ.length = k := by simp only [Ev.next] at hk; split at hk <;> simp at hk; exact hk
        exact step [] (by simpa using this) (by simpa [Ev.holds] using hd.1) (by simpa using hd.2)
      | fits kd t =>
        simp only [evDen] at hd
        have : ρ.length = k := by simp only [Ev.next] at hk; split at hk <;> simp at hk; exact hk
        exact step [] (by simpa using this) (by simpa [Ev.holds] using hd.1) (by simpa using hd.2)
      | same t x y i =>
        simp only [evDen] at hd
        obtain ⟨b, hb, hd⟩ := hd
        simp only [Ev.next] at hk
        split at hk
        · rename_i hu
          simp only [Bool.and_eq_true] at hu
          simp only [Option.some.injEq] at hk
          refine step [.bool b] (by simpa using hk) (fun β => ?_) hd
          rw [SV.den_under (env_append ρ _) hu.1.1, SV.den_under (env_append ρ _) hu.1.2]
          have : env (ρ ++ [.bool b]) i = .bool b := by rw [natBeq hu.2]; simp [env]
          rw [this]
          exact hb β
        · cases hk
      | call f as r n =>
        simp only [evDen] at hd
        obtain ⟨vs, hl, hb, hd⟩ := hd
        simp only [Ev.next] at hk
        split at hk
        · rename_i hu
          simp only [Bool.and_eq_true] at hu
          simp only [Option.some.injEq] at hk
          refine step vs (hlen hk hl) (fun β => ?_) hd
          rw [denV_under (env_append ρ _) hu.1]
          exact hb β
        · cases hk
      | turn nx f as p q ms r n =>
        simp only [evDen] at hd
        obtain ⟨vs, hl, hb, hd⟩ := hd
        simp only [Ev.next] at hk
        split at hk
        · rename_i hu
          simp only [Bool.and_eq_true] at hu
          simp only [Option.some.injEq] at hk
          refine step vs (hlen hk hl) (fun β hβ => ?_) hd
          rw [denV_under (env_append ρ _) hu.1.1.1.1]
          exact hb β hβ
        · cases hk
      | elem s i e fo ps n =>
        simp only [evDen] at hd
        obtain ⟨vs, hl, hb, hd⟩ := hd
        simp only [Ev.next] at hk
        split at hk
        · simp only [Option.some.injEq] at hk
          exact step vs (hlen hk hl) hb hd
        · cases hk
      | put s i e fo ps q n =>
        simp only [evDen] at hd
        obtain ⟨vs, hl, hb, hd⟩ := hd
        simp only [Ev.next] at hk
        split at hk
        · simp only [Option.some.injEq] at hk
          exact step vs (hlen hk hl) hb hd
        · cases hk
      | loop f j st st' x alt n =>
        simp only [evDen] at hd
        obtain ⟨vs, hl, hb, hd⟩ := hd
        simp only [Ev.next] at hk
        split at hk
        · simp only [Option.some.injEq] at hk
          exact step vs (hlen hk hl) hb hd
        · cases hk
      | join ps l e n =>
        simp only [evDen] at hd
        obtain ⟨vs, hl, hb, hd⟩ := hd
        simp only [Ev.next] at hk
        split at hk
        · simp only [Option.some.injEq] at hk
          exact step vs (hlen hk hl) hb hd
        · cases hk

/-! ### The ways through a function -/
inductive Tree (α : Type) where
  | leaf (evs : List Ev) (ret : α)
  | ite (evs : List Ev) (c : BTm) (t e : Tree α)
  | bad (why : String)

def strip : List Ev → List Ev → Option (List Ev)
  | [], es => some es
  | _ :: _, [] => none
  | x :: xs, e :: es => if x.beq e then strip xs es else none
/-- The tree of a run: 'n': how many variables are known, 'known': what has been shown. -/
def build {α : Type} (run : Asm → R α) : Nat → Asm → List Ev → Nat → Tree α
  | 0, _, _, _ => .bad "too many ways"
  | d + 1, asm, known, n => match run asm with
    | .bad why => .bad why
    | .ok ret evs => match strip known evs with
      | none => .bad "prefix"
      | some es => match nexts es n with
        | none => .bad "variables"
        | some _ => .leaf es ret
    | .split c evs => match strip known evs with
      | none => .bad "prefix"
      | some es => match nexts es n with
        | none => .bad "variables"
        | some m => if c.under m then .ite es c (build run d ((c, true) :: asm) evs m) (build run d ((c, false) :: asm) evs m) else .bad "condition"

def Tree.den [Outer] {α : Type} (P : Program) (Q : List Value → α → Prop) : Tree α → List Value → Prop
  | .leaf evs ret, ρ => evDen P (fun ρ' => Q ρ' ret) evs ρ
  | .ite evs c t e, ρ => evDen P (fun ρ' => (c.den (env ρ') = true → t.den P Q ρ') ∧ (c.den (env ρ') = false → e.den P Q ρ')) evs ρ
  | .bad _, _ => False

theorem strip_eq [Outer] : ∀ {xs es rest : List Ev}, strip xs es = some rest → es = xs ++ rest
  | [], es, rest, h => by cases h; rfl
  | x :: xs, [], rest, h => by cases h
  | x :: xs, e :: es, rest, h => by
    simp only [strip] at h
    split at h
    · rename_i hb
      rw [Ev.beq_eq hb, strip_eq h]; rfl
    · cases h
theorem build_sound [Outer] {α : Type} {P : Program} {run : Asm → R α} {Q : List Value → α → Prop} : ∀ {d : Nat} {asm : Asm} {known : List Ev} {ρ : List Value}, Asm.den (env ρ) asm → (∀ x ∈ asm, x.1.under ρ.length = true) → (∀ e ∈ known, ∀ vs, e.holds P (env (ρ ++ vs))) →
    (build run d asm known ρ.length).den P Q ρ → ∃ vs asm' ret evs, run asm' = .ok ret evs ∧ Asm.den (env (ρ ++ vs)) asm' ∧ Holds P (env (ρ ++ vs)) evs ∧ Q (ρ ++ vs) ret
  | 0, asm, known, ρ, _, _, _, h => h.elim
  | d + 1, asm, known, ρ, hasm, hau, hkn, h => by
    have hasm' : ∀ vs, Asm.den (env (ρ ++ vs)) asm := fun vs x hx => by rw [BTm.den_under (env_append ρ vs) (hau x hx)]; exact hasm x hx
    simp only [build] at h
    split at h
    · exact h.elim
    · rename_i ret evs hrun
      split at h
      · exact h.elim
      · rename_i es hs
        split at h
        · exact h.elim
        · rename_i m hm
          simp only [Tree.den] at h
          obtain ⟨vs, h1, h2, h3⟩ := evDen_sound hm h
          refine ⟨vs, asm, ret, evs, hrun, hasm' vs, fun e he => ?_, h2⟩
          rw [strip_eq hs] at he
          rcases List.mem_append.1 he with he | he
          · exact hkn e he vs
          · exact h3 e he
    · rename_i c evs hrun
      split at h
      · exact h.elim
      · rename_i es hs
        split at h
        · exact h.elim
        · rename_i m hm
          split at h
          · rename_i hc
            simp only [Tree.den] at h
            obtain ⟨vs, h1, h2, h3⟩ := evDen_sound hm h
            have hkn' : ∀ e ∈ evs, ∀ us, e.holds P (env ((ρ ++ vs) ++ us)) := fun e he us => by
              rw [strip_eq hs] at he
              rcases List.mem_append.1 he with he | he
              · rw [List.append_assoc]; exact hkn e he _
              · have hh := h3 e he
                -- what the event speaks of is known
                have : ∀ {es : List Ev} {n m : Nat}, nexts es n = some m → ∀ e ∈ es, ∃ a b, e.next a = some b ∧ b ≤ m := by
                  intro es
                  induction es with
                  | nil => intro n m _ e he; cases he
                  | cons x xs ih =>
                    intro n m h e he
                    simp only [nexts] at h
                    split at h
                    · cases h
                    · rename_i k hk
                      rcases List.mem_cons.1 he with rfl | he
                      · exact ⟨n, k, hk, nexts_le h⟩
                      · exact ih h e he
                obtain ⟨a, b, hab, hbm⟩ := this hm e he
                exact Ev.holds_under hab (fun i hi => env_append _ _ i (by rw [h1]; omega)) hh
            have hau' : ∀ x ∈ asm, x.1.under (ρ ++ vs).length = true := fun x hx => under_le (by simp) (hau x hx)
            have fin : ∀ (b : Bool), c.den (env (ρ ++ vs)) = b → (build run d ((c, b) :: asm) evs m).den P Q (ρ ++ vs) → ∃ vs asm' ret evs, run asm' = .ok ret evs ∧ Asm.den (env (ρ ++ vs)) asm' ∧ Holds P (env (ρ ++ vs)) evs ∧ Q (ρ ++ vs) ret := fun b hb ht => by
              rw [← h1] at ht
              obtain ⟨us, asm'', ret, evs', k1, k2, k3, k4⟩ := build_sound (ρ := ρ ++ vs) (asm := (c, b) :: asm) (known := evs) (fun x hx => by
                  rcases List.mem_cons.1 hx with rfl | hx
                  · exact hb
                  · exact hasm' vs x hx) (fun x hx => by
                  rcases List.mem_cons.1 hx with rfl | hx
                  · simp only [h1]; exact hc
                  · exact hau' x hx) hkn' ht
              exact ⟨vs ++ us, asm'', ret, evs', k1, by rw [← List.append_assoc]; exact k2, by rw [← List.append_assoc]; exact k3, by rw [← List.append_assoc]; exact k4⟩
            cases hb : c.den (env (ρ ++ vs)) with
            | true => exact fin true hb (h2.1 hb)
            | false => exact fin false hb (h2.2 hb)
          · exact h.elim
where
  under_le {n m : Nat} (hnm : n ≤ m) : ∀ {b : BTm}, b.under n = true → b.under m = true := by
    have ht : ∀ {t : Tm}, t.under n = true → t.under m = true := by
      intro t
      induction t with
      | v i => intro h; simp only [Tm.under, Nat.blt_eq] at h ⊢; omega
      | lit _ => intro _; rfl
      | str _ => intro _; rfl
      | ari o k a b iha ihb => intro h; simp only [Tm.under, Bool.and_eq_true] at h ⊢; exact ⟨iha h.1, ihb h.2⟩
      | ex o a b iha ihb => intro h; simp only [Tm.under, Bool.and_eq_true] at h ⊢; exact ⟨iha h.1, ihb h.2⟩
      | shf o k a b iha ihb => intro h; simp only [Tm.under, Bool.and_eq_true] at h ⊢; exact ⟨iha h.1, ihb h.2⟩
      | cnv k a iha => intro h; simp only [Tm.under] at h ⊢; exact iha h
      | len a iha => intro h; simp only [Tm.under] at h ⊢; exact iha h
      | byte a b iha ihb => intro h; simp only [Tm.under, Bool.and_eq_true] at h ⊢; exact ⟨iha h.1, ihb h.2⟩
      | cat a b iha ihb => intro h; simp only [Tm.under, Bool.and_eq_true] at h ⊢; exact ⟨iha h.1, ihb h.2⟩
      | sub a b c iha ihb ihc => intro h; simp only [Tm.under, Bool.and_eq_true] at h ⊢; exact ⟨⟨iha h.1.1, ihb h.1.2⟩, ihc h.2⟩
    intro b
    induction b with
    | v i => intro h; simp only [BTm.under, Nat.blt_eq] at h ⊢; omega
    | lit _ => intro _; rfl
    | no a ih => intro h; simp only [BTm.under] at h ⊢; exact ih h
    | eq a b => intro h; simp only [BTm.under, Bool.and_eq_true] at h ⊢; exact ⟨ht h.1, ht h.2⟩
    | lt a b => intro h; simp only [BTm.under, Bool.and_eq_true] at h ⊢; exact ⟨ht h.1, ht h.2⟩
    | seq a b => intro h; simp only [BTm.under, Bool.and_eq_true] at h ⊢; exact ⟨ht h.1, ht h.2⟩
    | slt a b => intro h; simp only [BTm.under, Bool.and_eq_true] at h ⊢; exact ⟨ht h.1, ht h.2⟩

/-! ### What a tree shows of a function -/
def argsUnder (args : List SW) (mem : Mem) (n : Nat) : Bool := args.all (·.under n) && underM n mem
/-- All that is asked of a program, once. -/
structure Plain (P : Program) : Prop where
  names : ∀ (f : Nat) (fn : Func), P.funcs[f]? = some fn → (fn.name == "runtime.NumGoroutine") = false
  order : P.follows .mixedOrders = true

/-- What was there before, as it is now. -/
def keepM (n : Nat) : Mem → Mem
  | [] => []
  | (i, m) :: l => if Nat.blt i n then (i, m) :: keepM n l else keepM n l
theorem find_keepM [Outer] {n i : Nat} (hi : i < n) : ∀ {mem : Mem}, find i (keepM n mem) = find i mem
  | [] => rfl
  | (j, m) :: l => by
    simp only [keepM]
    split
    · simp only [find, find_keepM hi (mem := l)]
    · rename_i hj
      have hb : Nat.beq i j = false := by
        rw [Bool.eq_false_iff]; intro h; rw [natBeq h] at hi; exact hj (by simpa [Nat.blt_eq] using hi)
      simp only [find, hb, Bool.false_eq_true, if_false, find_keepM hi (mem := l)]
theorem find_keepM_ge [Outer] {n i : Nat} (hi : n ≤ i) : ∀ {mem : Mem}, find i (keepM n mem) = none
  | [] => rfl
  | (j, m) :: l => by
    simp only [keepM]
    split
    · rename_i hj
      have hb : Nat.beq i j = false := by
        rw [Bool.eq_false_iff]; intro h; rw [natBeq h] at hi; simp only [Nat.blt_eq] at hj; omega
      simp only [find, hb, Bool.false_eq_true, if_false, find_keepM_ge hi (mem := l)]
    · exact find_keepM_ge hi (mem := l)
/-- The result of a function, and the blocks that it may have turned or that the result names. -/
structure Out where
  val : SW
  mem : Mem
def idsIn : List Nat → Nat → Bool
  | [], _ => true
  | i :: l, n => Nat.blt i n && idsIn l n
def trim (n : Nat) (r : Ret) : Out := ⟨r.val, if idsIn r.val.ids n then keepM n r.mem else r.mem⟩
def runOf (P : Program) (cfg : Cfg) (f : FuncId) (args : List SW) (mem : Mem) (nx nv : Nat) (asm : Asm) : R Out := (execF P cfg asm 40 12 f args mem nx nv).bind fun r => .ok (trim nx r) []
def treeOf (P : Program) (cfg : Cfg) (f : FuncId) (args : List SW) (mem : Mem) (nx n : Nat) : Tree Out := build (runOf P cfg f args mem nx n) 60 [] [] n

/-- A function, from any memory by names. -/
theorem calls_of [Outer] {P : Program} (hP : Plain P) {cfg : Cfg} {f : FuncId} {args : List SW} {mem : Mem} {nx : Nat} {T : Tree Out} (ρ : List Value) (hT : treeOf P cfg f args mem nx ρ.length = T) (hu : argsUnder args mem ρ.length = true) (β : Nat → Nat) (inh : List Nat) (w : World)
    (hM : Mrel (env ρ) β inh w (fun i => find i mem) w) (Q : List Value → Out → Prop) (h : T.den P Q ρ) :
    Calls P f (denT (env ρ) β args) w fun e w' => ∃ vs ret β', Q (ρ ++ vs) ret ∧ (∀ i, i < nx → β' i = β i) ∧ e = .returned (ret.val.den (env (ρ ++ vs)) β') ∧ Mrel (env (ρ ++ vs)) β' inh w (fun i => find i ret.mem) w' := by
  subst hT
  obtain ⟨vs, asm', ret, evs, hrun, hasm, hev, hv⟩ := build_sound (asm := []) (known := []) (fun x hx => by cases hx) (fun x hx => by cases hx) (fun e he => by cases he) h
  obtain ⟨r, e1, e2, h1, h2, rfl⟩ := R.bind_ok hrun
  cases h2
  simp only [argsUnder, Bool.and_eq_true] at hu
  have hM' : Mrel (env (ρ ++ vs)) β inh w (fun i => find i mem) w := hM.under fun i m hi => MB.fits_under (env_append ρ vs) (find_under hu.2 hi)
  obtain ⟨fn, _, _, hc⟩ := execF_ok hP.names hasm hP.order _ f args mem nx ρ.length r e1 h1 (fun e he => hev e (by simp [he])) β inh w w hM'
  have ha : denT (env (ρ ++ vs)) β args = denT (env ρ) β args := by
    simp only [denT]
    congr 1
    refine List.map_congr_left fun x hx => SW.den_under (env_append ρ vs) (List.all_eq_true.1 hu.1 x hx)
  rw [ha] at hc
  refine hc.mono fun e w' ⟨β', hβ, he, hm⟩ => ⟨vs, trim nx r, β', hv, hβ, he, ?_⟩
  simp only [trim]
  split
  · exact hm.less fun i m hi => by
      rcases Nat.lt_or_ge i nx with hlt | hge
      · rw [← hi, find_keepM hlt]
      · rw [find_keepM_ge hge] at hi; cases hi
  · exact hm
/-- A function of plain values, that may read outer blocks. -/
theorem reads_of [Outer] {P : Program} (hP : Plain P) {cfg : Cfg} {f : FuncId} {args : List SW} {T : Tree Out} (ρ : List Value) (hT : treeOf P cfg f args [] 0 ρ.length = T) (hu : argsUnder args [] ρ.length = true) (v : Value)
    (h : T.den P (fun ρ' ret => ∀ β, ret.val.den (env ρ') β = v) ρ) (w : World) (hr : ∀ x ∈ Outer.r, w.heap[x.1]? = some x.2) : Calls P f (denT (env ρ) (fun _ => 0) args) w fun e w' => e = .returned v ∧ Below w.heap.size w w' := by
  have hM : Mrel (env ρ) (fun _ => 0) [] w (fun i => find i []) w := ⟨rfl, rfl, rfl, Nat.le_refl _, fun _ _ _ => rfl, fun i m hm => (by cases hm), fun i m hm => (by cases hm), fun i j m m' hm => (by cases hm), fun x hx => ⟨hr x hx, by simp⟩⟩
  refine (calls_of hP ρ hT hu (fun _ => 0) [] w hM _ h).mono fun e w' ⟨vs, ret, β', hv, _, he, hm⟩ => ⟨by rw [he]; exact congrArg Ending.returned (hv β'), hm.os, hm.tape, hm.output, hm.size, fun k hk => hm.old k hk (by simp)⟩

/-! ### What a tree shows of a loop -/
/-- Where the round of a loop ends; what is not already as at the loop's head. -/
structure Round where
  exit : SExit
  diffs : List (SW × SW)
def isDead : SW → Bool
  | .dead => true
  | _ => false
def diffT (n : Nat) : List SW → List SW → Option (List (SW × SW))
  | [], [] => some []
  | p :: ps, q :: qs => match diffT n ps qs with
    | none => none
    | some l => if isDead q then some l else if p.beq q && p.under n then some l else if isDead p then none else some ((p, q) :: l)
  | _, _ => none
def diffM (n : Nat) (mem : Mem) : Mem → Option (List (SW × SW))
  | [] => some []
  | (_, none) :: l => diffM n mem l
  | (i, some m) :: l => match find i mem, diffM n mem l with
    | some m', some d => if Nat.beq m'.ty m.ty && capBeq m'.cap m.cap then
        if listBeq Piece.beq m'.ps m.ps && m.under n then some d else some ((.one (.agg m'.ps), .one (.agg m.ps)) :: d)
      else none
    | _, _ => none
def diff0 (n : Nat) (st sth : St) : Option (List (SW × SW)) :=
  match diffT n st.tmps sth.tmps, diffM n st.mem sth.mem, keysNodup sth.mem with
  | some a, some b, true => some (a ++ b)
  | _, _, _ => none
/-- What is dead at the loop's head is forgotten. -/
def killT : List SW → List SW → List SW
  | p :: ps, q :: qs => (if isDead q then .dead else p) :: killT ps qs
  | ps, _ => ps
def idsT : List SW → List Nat
  | [] => []
  | x :: l => x.ids ++ idsT l
def idsMem : Mem → List Nat
  | [] => []
  | (_, none) :: l => idsMem l
  | (i, some m) :: l => i :: (m.ids ++ idsMem l)
/-- The list in a slot gets the names of the loop's head. -/
def renameL (sth : St) (t b c : Nat) (st : St) : Option St :=
  match !memN b (idsT st.tmps ++ idsMem st.mem) && !memN c (idsT st.tmps ++ idsMem st.mem) && !Nat.beq b c with
  | false => match look st.tmps t with
    | .one (.cell (.sl b' c' _)) => if Nat.beq b' b && Nat.beq c' c then some st else none
    | _ => none
  | true => match look st.tmps t with
    | .one (.cell (.sl b' c' L)) => match find b' st.mem with
      | some m => match m.cap with
        | some (c2, e) => if Nat.beq c2 c' then some ⟨st.tmps.set t (.one (.cell (.sl b c L))), putM b (some ⟨m.ty, m.ps, some (c, e)⟩) (putM b' none st.mem), st.nx, st.nv⟩ else none
        | none => none
      | none => none
    | .one (.cell (.const (.slice none 0 0))) => match find b sth.mem with
      | some m => match m.cap with
        | some (_, e) => some ⟨st.tmps.set t (.one (.cell (.sl b c (.lit 0)))), putM b (some ⟨m.ty, [], some (c, e)⟩) st.mem, st.nx, st.nv⟩
        | none => none
      | none => none
    | .one (.cell (.slice b' 0 k k')) => match find b' st.mem, find b sth.mem with
      | some m, some mh => match m.cap, mh.cap, sizeP m.ps with
        | none, some (_, e), some l => if Nat.beq k k' && Nat.beq l (k * e) then some ⟨st.tmps.set t (.one (.cell (.sl b c (.lit ((k : Nat) : Int))))), putM b (some ⟨m.ty, m.ps, some (c, e)⟩) (putM b' none st.mem), st.nx, st.nv⟩ else none
        | _, _, _ => none
      | _, _ => none
    | _ => none
/-- The lists that are the loop's own: their lengths are its variables. -/
def prepL (n : Nat) (sth : St) : Nat → List SW → St → Option St
  | _, [], st => some st
  | t, q :: qs, st => match q with
    | .one (.cell (.sl b c (.v i))) => match Nat.ble n i with
      | true => match renameL sth t b c st with
        | none => none
        | some st' => prepL n sth (t + 1) qs st'
      | false => prepL n sth (t + 1) qs st
    | _ => prepL n sth (t + 1) qs st
def newNames (n : Nat) : List SW → List Nat
  | [] => []
  | q :: qs => match q with
    | .one (.cell (.sl b c (.v i))) => match Nat.ble n i with
      | true => b :: c :: newNames n qs
      | false => newNames n qs
    | _ => newNames n qs
def diff (n : Nat) (st sth : St) : Option (List (SW × SW)) :=
  match prepL n sth 0 sth.tmps ⟨killT st.tmps sth.tmps, st.mem, st.nx, st.nv⟩ with
  | none => none
  | some st' => diff0 n st' sth
def runRound (P : Program) (cfg : Cfg) (f k n : Nat) (sth : St) (c : Code) (asm : Asm) : R Round :=
  (execC P cfg asm (execF P cfg asm 40 12) 40 f (k + 1) c sth).bind fun x => match diff n x.2 sth with
    | none => .bad "round"
    | some d => .ok ⟨x.1, d⟩ []
/-- The ways through a round: n variables are known before the loop, m belong to it. -/
def treeRound (P : Program) (cfg : Cfg) (f k n m : Nat) (sth : St) : Tree Round :=
  match loopAt P f k with
  | none => .bad "no such loop"
  | some c => build (runRound P cfg f k n sth c) 60 [] [] (n + m)

section
variable {ρ ρ' : Nat → Value} {n : Nat}
theorem diffT_rel [Outer] (hρ : ∀ i, i < n → ρ' i = ρ i) {β : Nat → Nat} : ∀ {ps qs : List SW} {l : List (SW × SW)}, diffT n ps qs = some l → (∀ x ∈ l, x.1.den ρ' β = x.2.den ρ β) → ps.length = qs.length ∧ ∀ t, look qs t = .dead ∨ (look ps t ≠ .dead ∧ (look ps t).den ρ' β = (look qs t).den ρ β)
  | [], [], l, h, _ => ⟨rfl, fun t => .inr ⟨by simp [look], rfl⟩⟩
  | [], _ :: _, l, h, _ => by simp [diffT] at h
  | p :: ps, [], l, h, _ => by simp [diffT] at h
  | p :: ps, q :: qs, l, h, hl => by
    simp only [diffT] at h
    split at h
    · cases h
    · rename_i l' hl'
      split at h
      · rename_i hq
        cases h
        obtain ⟨h1, h2⟩ := diffT_rel hρ hl' hl
        refine ⟨by simp [h1], fun t => ?_⟩
        cases t with
        | zero => exact .inl (by simp only [look]; revert hq; cases q <;> simp [isDead])
        | succ t => exact h2 t
      · rename_i hq
        have hq' : q ≠ .dead := fun e => hq (by rw [e]; rfl)
        split at h
        · rename_i hb
          cases h
          simp only [Bool.and_eq_true] at hb
          obtain ⟨h1, h2⟩ := diffT_rel hρ hl' hl
          have hpq := SW.beq_eq hb.1
          refine ⟨by simp [h1], fun t => ?_⟩
          cases t with
          | zero =>
            refine .inr ⟨?_, ?_⟩
            · simp only [look]; rw [hpq]; exact hq'
            · simp only [look]; rw [← hpq, SW.den_under hρ hb.2]
          | succ t => exact h2 t
        · split at h
          · cases h
          · rename_i hp
            cases h
            obtain ⟨h1, h2⟩ := diffT_rel hρ hl' fun x hx => hl x (.tail _ hx)
            refine ⟨by simp [h1], fun t => ?_⟩
            cases t with
            | zero => exact .inr ⟨fun e => hp (by simp only [look] at e; rw [e]; rfl), hl _ (.head _)⟩
            | succ t => exact h2 t
theorem diffM_rel [Outer] (hρ : ∀ i, i < n → ρ' i = ρ i) {β : Nat → Nat} {mem : Mem} : ∀ {q : Mem} {l : List (SW × SW)}, diffM n mem q = some l → (∀ x ∈ l, x.1.den ρ' β = x.2.den ρ β) → keysNodup q = true →
    ∀ i m, find i q = some m → ∃ m', find i mem = some m' ∧ m'.cap = m.cap ∧ ∀ o, m'.fits ρ' β o → m.fits ρ β o
  | [], l, _, _, _, i, m, hf => by cases hf
  | (j, none) :: q, l, h, hl, hk, i, m, hf => by
    simp only [diffM] at h
    simp only [keysNodup, Bool.and_eq_true] at hk
    simp only [find] at hf
    split at hf
    · cases hf
    · exact diffM_rel hρ h hl hk.2 i m hf
  | (j, some m0) :: q, l, h, hl, hk, i, m, hf => by
    simp only [diffM] at h
    simp only [keysNodup, Bool.and_eq_true] at hk
    split at h
    · rename_i m' d hm' hd
      split at h
      · rename_i hb
        simp only [Bool.and_eq_true] at hb
        have hrest : ∀ l', d = l' → (∀ x ∈ l', x.1.den ρ' β = x.2.den ρ β) → find i q = some m → ∃ m', find i mem = some m' ∧ m'.cap = m.cap ∧ ∀ o, m'.fits ρ' β o → m.fits ρ β o := fun l' e hl' hq => diffM_rel hρ (by rw [hd, e]) hl' hk.2 i m hq
        have hfits : densP ρ' β m'.ps = densP ρ β m0.ps → ∀ o, m'.fits ρ' β o → m0.fits ρ β o := fun e o ⟨rest, fz, h1, h2⟩ => by
          refine ⟨rest, fz, by rw [← e, ← natBeq hb.1]; exact h1, ?_⟩
          unfold MB.room at *
          rw [← capBeq_eq hb.2, ← e]; exact h2
        simp only [find] at hf
        split at h
        · rename_i hp
          cases h
          simp only [Bool.and_eq_true] at hp
          split at hf
          · rename_i hij
            cases hf
            rw [natBeq hij]
            refine ⟨m', hm', capBeq_eq hb.2, hfits ?_⟩
            rw [listBeq_eq Piece.beq_eq hp.1]
            exact densP_under hρ hp.2
          · exact hrest _ rfl hl hf
        · cases h
          split at hf
          · rename_i hij
            cases hf
            rw [natBeq hij]
            refine ⟨m', hm', capBeq_eq hb.2, hfits ?_⟩
            have := hl _ (.head _)
            simp only [SW.den_one, SV.den, Value.agg.injEq] at this
            simpa using this
          · exact hrest _ rfl (fun x hx => hl x (.tail _ hx)) hf
      · cases h
    · cases h
theorem diff0_rel [Outer] (hρ : ∀ i, i < n → ρ' i = ρ i) {st sth : St} {l : List (SW × SW)} (h : diff0 n st sth = some l) {β : Nat → Nat} (hl : ∀ x ∈ l, x.1.den ρ' β = x.2.den ρ β) {inh : List Nat} {w0 w : World} {a : Act} (hR : Rel ρ' β inh w0 st a w) : Rel ρ β inh w0 sth a w := by
  unfold diff0 at h
  split at h
  · rename_i x y hx hy hk
    cases h
    obtain ⟨h1, h2⟩ := diffT_rel hρ hx fun z hz => hl z (List.mem_append_left _ hz)
    have h3 := diffM_rel hρ hy (fun z hz => hl z (List.mem_append_right _ hz)) hk
    refine ⟨⟨hR.1.1.trans h1, fun t v hv => ?_⟩, hR.2.1, ?_⟩
    · rcases h2 t with h | ⟨h, h'⟩
      · exact .inl h
      · refine .inr ?_
        rcases hR.1.2 t v hv with e | e
        · exact absurd e h
        · rw [e, h']
    · have hM := hR.2.2
      have lv : ∀ {m1 m : MB}, m1.cap = m.cap → m.live β = true → m1.live β = true := fun e h => by unfold MB.live at h ⊢; rw [e]; exact h
      refine ⟨hM.os, hM.tape, hM.output, hM.size, hM.old, fun i m hm => ?_, fun i m hm hl => ?_, fun i j m m' hm hm' l l' e => ?_, hM.ro⟩
      · obtain ⟨m1, f1, fc, f2⟩ := h3 i m hm
        obtain ⟨o, ho, hf⟩ := hM.cells i m1 f1
        exact ⟨o, fun hl => ho (lv fc hl), f2 o hf⟩
      · obtain ⟨m1, f1, fc, _⟩ := h3 i m hm
        exact hM.own i m1 f1 (lv fc hl)
      · obtain ⟨m1, f1, c1, _⟩ := h3 i m hm
        obtain ⟨m2, f2, c2, _⟩ := h3 j m' hm'
        exact hM.inj i j m1 m2 f1 f2 (lv c1 l) (lv c2 l') e
  · cases h
end

section
variable {P : Program} {ρ : Nat → Value} {β : Nat → Nat} {inh : List Nat} {w0 w : World}
theorem idsT_mem {i : Nat} : ∀ {l : List SW} {t : Nat}, i ∈ (look l t).ids → i ∈ idsT l
  | [], t, h => by simp [look, SW.ids] at h
  | x :: l, 0, h => List.mem_append_left _ h
  | x :: l, t + 1, h => List.mem_append_right _ (idsT_mem (l := l) (t := t) h)
theorem idsMem_find {i : Nat} {m : MB} : ∀ {l : Mem}, find i l = some m → i ∈ idsMem l ∧ ∀ j ∈ m.ids, j ∈ idsMem l
  | [], h => by cases h
  | (k, none) :: l, h => by
    simp only [find] at h
    split at h
    · cases h
    · exact idsMem_find (l := l) h
  | (k, some m') :: l, h => by
    simp only [find] at h
    split at h
    · rename_i hk
      cases h
      rw [natBeq hk]
      exact ⟨.head _, fun j hj => .tail _ (List.mem_append_left _ hj)⟩
    · obtain ⟨h1, h2⟩ := idsMem_find (l := l) h
      exact ⟨.tail _ (List.mem_append_right _ h1), fun j hj => .tail _ (List.mem_append_right _ (h2 j hj))⟩
theorem look_killT {t : Nat} : ∀ {ps qs : List SW}, look (killT ps qs) t = .dead ∨ look (killT ps qs) t = look ps t
  | [], _ => by cases ‹List SW› <;> exact .inr rfl
  | p :: ps, [] => .inr rfl
  | p :: ps, q :: qs => by
    cases t with
    | zero =>
      simp only [killT, look]
      split
      · exact .inl rfl
      · exact .inr rfl
    | succ t => exact look_killT (t := t) (ps := ps) (qs := qs)
theorem killT_length : ∀ (ps qs : List SW), (killT ps qs).length = ps.length
  | [], qs => by cases qs <;> rfl
  | p :: ps, [] => rfl
  | p :: ps, q :: qs => by simp [killT, killT_length ps qs]
def dropOne : Option Nat → Mem → Mem
  | none, mem => mem
  | some i, mem => putM i none mem
/-- One block more, named anew: what it was is forgotten. -/
theorem Rel.relist [Outer] {st : St} {a : Act} (hR : Rel ρ β inh w0 st a w) {t b c g k : Nat} {v : SW} {m : MB} {o : Obj} {b' : Option Nat} (hb : b ∉ idsT st.tmps ++ idsMem st.mem) (hc : c ∉ idsT st.tmps ++ idsMem st.mem) (hbc : b ≠ c)
    (hv : v.den ρ (ext (ext β b g) c k) = (look st.tmps t).den ρ β) (hd : look st.tmps t ≠ .dead)
    (hf : m.fits ρ (ext (ext β b g) c k) o) (ho : m.live (ext (ext β b g) c k) = true → w.heap[g]? = some o ∧ (w0.heap.size ≤ g ∨ g ∈ inh) ∧ ∀ i x, find i st.mem = some x → x.live β = true → β i = g → b' = some i) :
    Rel ρ (ext (ext β b g) c k) inh w0 ⟨st.tmps.set t v, putM b (some m) (dropOne b' st.mem), st.nx, st.nv⟩ a w := by
  obtain ⟨β', hβ'⟩ : ∃ bb, bb = ext (ext β b g) c k := ⟨_, rfl⟩
  rw [← hβ'] at hv hf ho ⊢
  have e1 : β' b = g := by rw [hβ']; simp [ext, hbc]
  have e3 : ∀ i, i ≠ b → i ≠ c → β' i = β i := fun i h1 h2 => by rw [hβ']; simp [ext, h1, h2]
  have e4 : ∀ i, i ∈ idsT st.tmps ++ idsMem st.mem → β' i = β i := fun i hi => e3 i (fun e => hb (e ▸ hi)) (fun e => hc (e ▸ hi))
  refine ⟨⟨by rw [hR.1.1]; simp, fun s u hu => ?_⟩, hR.2.1, ?_⟩
  · rcases hR.1.2 s u hu with h | h
    · by_cases hst : s = t
      · subst hst; exact absurd h hd
      · refine .inl ?_
        rw [look_get] at h ⊢
        simpa [List.getElem?_set_ne (fun e => hst e.symm)] using h
    · refine .inr ?_
      by_cases hst : s = t
      · subst hst
        have hlt : s < st.tmps.length := by
          have := (Array.getElem?_eq_some_iff.1 hu).1
          have := hR.1.1; omega
        have : look (st.tmps.set s v) s = v := by rw [look_get]; simp [hlt]
        rw [this, hv]; exact h
      · have : look (st.tmps.set t v) s = look st.tmps s := by
          rw [look_get, look_get, List.getElem?_set_ne (fun e => hst e.symm)]
        rw [this, h]
        exact (SW.den_names fun i hi => e4 i (List.mem_append_left _ (idsT_mem hi))).symm
  · have hM := hR.2.2
    have hM1 : Mrel ρ β' inh w0 (fun i => find i st.mem) w := hM.names fun i x hx => by
      obtain ⟨f1, f2⟩ := idsMem_find hx
      exact ⟨e4 i (List.mem_append_right _ f1), fun j hj => e4 j (List.mem_append_right _ (f2 j hj))⟩
    have hlv : ∀ {i x}, find i st.mem = some x → x.live β' = x.live β := fun {i x} hx => MB.live_names fun j hj => e4 j (List.mem_append_right _ ((idsMem_find hx).2 j hj))
    show Mrel ρ β' inh w0 (fun i => find i (putM b (some m) _)) w
    rw [find_putM]
    have hsub : ∀ i x, find i (dropOne b' st.mem) = some x → find i st.mem = some x ∧ b' ≠ some i := fun i x hx => by
      cases b' with
      | none => exact ⟨hx, fun e => by cases e⟩
      | some j =>
        have := congrFun (find_putM j none st.mem) i
        simp only [dropOne] at this hx
        rw [this] at hx
        unfold setF at hx
        split at hx
        · cases hx
        · rename_i hij; exact ⟨hx, fun e => hij (Option.some.inj e).symm⟩
    have hM2 : Mrel ρ β' inh w0 (fun i => find i (dropOne b' st.mem)) w := hM1.less fun i x hx => (hsub i x hx).1
    refine hM2.add (o := o) ?_ (fun hl => by rw [e1]; exact (ho hl).1) hf (fun hl => by rw [e1]; exact (ho hl).2.1) (fun hl i x hx hlx => ?_)
    · cases hn : find b (dropOne b' st.mem) with
      | none => rfl
      | some x => exact absurd (List.mem_append_right _ (idsMem_find (hsub b x hn).1).1) hb
    · obtain ⟨f1, f2⟩ := hsub i x hx
      rw [e1, e4 i (List.mem_append_right _ (idsMem_find f1).1)]
      intro e
      exact f2 ((ho hl).2.2 i x f1 (by rw [← hlv f1]; exact hlx) e)
theorem renameL_rel [Outer] {sth st st' : St} {t b c : Nat} (h : renameL sth t b c st = some st') {a : Act} (hR : Rel ρ β inh w0 st a w) : ∃ β', (∀ i, i ≠ b → i ≠ c → β' i = β i) ∧ Rel ρ β' inh w0 st' a w := by
  unfold renameL at h
  split at h
  · split at h
    · split at h
      · cases h; exact ⟨β, fun _ _ _ => rfl, hR⟩
      · cases h
    · cases h
  · rename_i hfresh
    simp only [Bool.and_eq_true, Bool.not_eq_true'] at hfresh
    obtain ⟨⟨hb, hc⟩, hbc⟩ := hfresh
    have hb : b ∉ idsT st.tmps ++ idsMem st.mem := fun hi => by rw [memN_iff.2 hi] at hb; cases hb
    have hc : c ∉ idsT st.tmps ++ idsMem st.mem := fun hi => by rw [memN_iff.2 hi] at hc; cases hc
    have hbc : b ≠ c := fun e => by subst e; simp at hbc
    have ag : ∀ g k i, i ≠ b → i ≠ c → ext (ext β b g) c k i = β i := fun g k i h1 h2 => by simp [ext, h1, h2]
    split at h
    · rename_i b' c' L hl
      split at h
      · rename_i m hm
        split at h
        · rename_i c2 e hcap
          split at h
          · rename_i hcc
            have hcc := natBeq hcc
            subst hcc
            cases h
            obtain ⟨o, ho, hf⟩ := hR.2.2.cells b' m hm
            have x1 : ext (ext β b (β b')) c (β c2) b = β b' := by simp [ext, hbc]
            have x2 : ext (ext β b (β b')) c (β c2) c = β c2 := by simp [ext]
            have hlive : MB.live (ext (ext β b (β b')) c (β c2)) ⟨m.ty, m.ps, some (c, e)⟩ = m.live β := by
              unfold MB.live; simp only [hcap, x2]
            have hnames : ∀ i ∈ idsP m.ps, ext (ext β b (β b')) c (β c2) i = β i := fun i hi => by
              have := (idsMem_find hm).2 i (List.mem_append_left _ hi)
              exact ag _ _ i (fun e => hb (e ▸ List.mem_append_right _ this)) (fun e => hc (e ▸ List.mem_append_right _ this))
            refine ⟨_, ag (β b') (β c2), hR.relist (b' := some b') (o := o) hb hc hbc ?_ (by rw [hl]; intro e; cases e) ?_ (fun hlv => ?_)⟩
            · rw [hl]
              show (Cell.sl b c L).den ρ _ = (Cell.sl b' c2 L).den ρ β
              simp only [Cell.den, x1, x2]
            · obtain ⟨rest, fz, f1, f2⟩ := hf
              refine ⟨rest, fz, ?_, ?_⟩
              · show o = .cells (densP ρ _ m.ps ++ rest).toArray m.ty fz
                rw [densP_names hnames]; exact f1
              · show (densP ρ _ m.ps).length + rest.length = (_ - 1) * e ∧ okFz fz ((densP ρ _ m.ps).length + rest.length)
                rw [densP_names hnames, x2]
                unfold MB.room at f2; rw [hcap] at f2; exact f2
            · rw [hlive] at hlv
              exact ⟨ho hlv, hR.2.2.own b' m hm hlv, fun i x hx hlx e => by rw [hR.2.2.inj i b' x m hx hm hlx hlv e]⟩
          · cases h
        · cases h
      · cases h
    · rename_i hl
      split at h
      · rename_i m hm
        split at h
        · rename_i c2 e hcap
          cases h
          have x2 : ext (ext β b 0) c 0 c = 0 := by simp [ext]
          refine ⟨_, ag 0 0, hR.relist (b' := none) (o := .cells #[] m.ty) hb hc hbc ?_ (by rw [hl]; intro e; cases e) ⟨[], (0, 0), rfl, ?_⟩ (fun hlv => ?_)⟩
          · rw [hl, sl_none rfl x2]; rfl
          · show 0 + 0 = (_ - 1) * e ∧ okFz (0, 0) _
            rw [x2]; exact ⟨by simp, okFz_zero _⟩
          · unfold MB.live at hlv; simp only [x2] at hlv; exact absurd hlv (by decide)
        · cases h
      · cases h
    · rename_i b' k k' hl
      split at h
      · rename_i m mh hm hmh
        split at h
        · rename_i c2 e l hcap hcaph hsz
          split at h
          · rename_i hkk
            simp only [Bool.and_eq_true] at hkk
            have h1 := natBeq hkk.1
            have h2 := natBeq hkk.2
            subst h1
            cases h
            obtain ⟨o, ho, hf⟩ := hR.2.2.cells b' m hm
            have hlv0 : m.live β = true := by unfold MB.live; rw [hcap]
            have x1 : ext (ext β b (β b')) c (k + 1) b = β b' := by simp [ext, hbc]
            have x2 : ext (ext β b (β b')) c (k + 1) c = k + 1 := by simp [ext]
            have hnames : ∀ i ∈ idsP m.ps, ext (ext β b (β b')) c (k + 1) i = β i := fun i hi => by
              have := (idsMem_find hm).2 i (List.mem_append_left _ hi)
              exact ag _ _ i (fun e => hb (e ▸ List.mem_append_right _ this)) (fun e => hc (e ▸ List.mem_append_right _ this))
            refine ⟨_, ag (β b') (k + 1), hR.relist (b' := some b') (o := o) hb hc hbc ?_ (by rw [hl]; intro e; cases e) ?_ (fun _ => ?_)⟩
            · rw [hl, sl_some (.inr (by rw [x2]; omega)), x1, x2]
              simp [SW.den, SV.den, Cell.den, Tm.i, Tm.den]
            · obtain ⟨rest, fz, f1, f2⟩ := hf
              have f2 : rest = [] ∧ fz = (0, 0) := by unfold MB.room at f2; rw [hcap] at f2; exact f2
              obtain ⟨rfl, rfl⟩ := f2
              refine ⟨[], (0, 0), ?_, ?_⟩
              · show o = .cells (densP ρ _ m.ps ++ []).toArray m.ty
                rw [densP_names hnames]; exact f1
              · show (densP ρ _ m.ps).length + 0 = (_ - 1) * e ∧ okFz (0, 0) _
                rw [sizeP_den ρ _ hsz, x2, h2]; exact ⟨by simp, okFz_zero _⟩
            · exact ⟨ho hlv0, hR.2.2.own b' m hm hlv0, fun i x hx hlx e => by rw [hR.2.2.inj i b' x m hx hm hlx hlv0 e]⟩
          · cases h
        · cases h
      · cases h
    · cases h
theorem prepL_rel [Outer] {n : Nat} {sth : St} {a : Act} : ∀ {qs : List SW} {t : Nat} {st st' : St} {β : Nat → Nat}, prepL n sth t qs st = some st' → Rel ρ β inh w0 st a w → ∃ β', (∀ i, i ∉ newNames n qs → β' i = β i) ∧ Rel ρ β' inh w0 st' a w
  | [], t, st, st', β, h, hR => by cases h; exact ⟨β, fun _ _ => rfl, hR⟩
  | q :: qs, t, st, st', β, h, hR => by
    simp only [prepL] at h
    split at h
    · rename_i b c i
      split at h
      · rename_i hle
        split at h
        · cases h
        · rename_i st1 h1
          obtain ⟨β1, a1, R1⟩ := renameL_rel h1 hR
          obtain ⟨β2, a2, R2⟩ := prepL_rel h R1
          refine ⟨β2, fun j hj => ?_, R2⟩
          simp only [newNames, hle, List.mem_cons, not_or] at hj
          rw [a2 j hj.2.2, a1 j hj.1 hj.2.1]
      · rename_i hle
        obtain ⟨β2, a2, R2⟩ := prepL_rel h hR
        exact ⟨β2, fun j hj => a2 j (by simpa only [newNames, hle] using hj), R2⟩
    · rename_i hq
      obtain ⟨β2, a2, R2⟩ := prepL_rel h hR
      refine ⟨β2, fun j hj => a2 j ?_, R2⟩
      intro hin
      apply hj
      unfold newNames
      split
      · rename_i b c i _ _
        split
        · exact .tail _ (.tail _ hin)
        · exact hin
      · exact hin
theorem diff_rel [Outer] {ρ' : Nat → Value} {n : Nat} (hρ : ∀ i, i < n → ρ' i = ρ i) {st sth : St} {l : List (SW × SW)} (h : diff n st sth = some l) (hl : ∀ x ∈ l, ∀ β, x.1.den ρ' β = x.2.den ρ β) {a : Act} (hR : Rel ρ' β inh w0 st a w) :
    ∃ β', (∀ i, i ∉ newNames n sth.tmps → β' i = β i) ∧ Rel ρ β' inh w0 sth a w := by
  unfold diff at h
  split at h
  · cases h
  · rename_i st1 h1
    have hK : Rel ρ' β inh w0 ⟨killT st.tmps sth.tmps, st.mem, st.nx, st.nv⟩ a w := by
      refine ⟨⟨by rw [hR.1.1]; simp [killT_length], fun t v hv => ?_⟩, hR.2.1, hR.2.2⟩
      rcases look_killT (t := t) (ps := st.tmps) (qs := sth.tmps) with e | e
      · exact .inl e
      · rw [show (⟨killT st.tmps sth.tmps, st.mem, st.nx, st.nv⟩ : St).tmps = killT st.tmps sth.tmps from rfl, e]
        exact hR.1.2 t v hv
    obtain ⟨β', hb, R⟩ := prepL_rel h1 hK
    exact ⟨β', hb, diff0_rel hρ h (fun x hx => hl x hx β') R⟩
end

theorem loopsOf_nest : ∀ {b : Code} {k j : Nat} {c c' : Code}, (loopsOf b)[k]? = some c → (loopsOf c)[j]? = some c' → (loopsOf b)[k + 1 + j]? = some c' := by
  intro b
  have app : ∀ {x y : List Code} {k j : Nat} {c c' : Code}, (∀ {k j : Nat} {c c' : Code}, x[k]? = some c → (loopsOf c)[j]? = some c' → x[k + 1 + j]? = some c') → (∀ {k j : Nat} {c c' : Code}, y[k]? = some c → (loopsOf c)[j]? = some c' → y[k + 1 + j]? = some c') →
      (x ++ y)[k]? = some c → (loopsOf c)[j]? = some c' → (x ++ y)[k + 1 + j]? = some c' := fun {x y k j c c'} hx hy h h' => by
    rcases Nat.lt_or_ge k x.length with hk | hk
    · rw [List.getElem?_append_left hk] at h
      have := hx h h'
      rw [List.getElem?_append_left (List.getElem?_eq_some_iff.1 this).1]; exact this
    · rw [List.getElem?_append_right hk] at h
      have := hy h h'
      rw [List.getElem?_append_right (by omega)]
      rw [show k + 1 + j - x.length = k - x.length + 1 + j by omega]; exact this
  induction b with
  | seq a b iha ihb => intro k j c c' h h'; simp only [loopsOf] at h ⊢; exact app iha ihb h h'
  | cond _ a b iha ihb => intro k j c c' h h'; simp only [loopsOf] at h ⊢; exact app iha ihb h h'
  | block id b ih => intro k j c c' h h'; simp only [loopsOf] at h ⊢; exact ih h h'
  | loop b ih =>
    intro k j c c' h h'
    simp only [loopsOf] at h ⊢
    cases k with
    | zero =>
      simp at h
      subst h
      rw [Nat.zero_add, Nat.add_comm 1 j, List.getElem?_cons_succ]; exact h'
    | succ k =>
      rw [List.getElem?_cons_succ] at h
      rw [show k + 1 + 1 + j = (k + 1 + j) + 1 by omega, List.getElem?_cons_succ]
      exact ih h h'
  | _ => intro k j c c' h; simp [loopsOf] at h

theorem loopAt_eq {P : Program} {f k : Nat} {c : Code} (h : loopAt P f k = some c) : ∃ fn body, P.funcs[f]? = some fn ∧ fn.body = some body ∧ (loopsOf body)[k]? = some c := by
  unfold loopAt at h
  split at h
  · cases h
  · rename_i fn hfn
    split at h
    · cases h
    · rename_i body hbody
      exact ⟨fn, body, hfn, hbody, h⟩
/-- What is looked up of a loop by a program. -/
def loopOk (n m : Nat) (st sth : St) : Bool := st.under n && sth.under (n + m) && Nat.ble st.nx sth.nx && (newNames n sth.tmps).all (Nat.ble st.nx)
/-- A loop: I is kept, μ falls; 'us': the values behind it. -/
theorem loop_holds [Outer] {P : Program} (hP : Plain P) {cfg : Cfg} {f k m : Nat} {st sth : St} {x : SExit} {alt : Option (Nat × SExit)} {T : Tree Round} (ρ us : List Value) (hT : treeRound P cfg f k ρ.length m sth = T) (hok : loopOk ρ.length m st sth = true)
    (I : List Value → Prop) (μ : List Value → Nat) {l : List (SW × SW)} (hd : diff ρ.length st sth = some l)
    (hentry : ∃ vs, vs.length = m ∧ I vs ∧ ∀ y ∈ l, ∀ β, y.1.den (env ρ) β = y.2.den (env (ρ ++ vs)) β)
    (hround : ∀ vs, vs.length = m → I vs → T.den P (fun ρ' r => match r.exit with
      | .normal => ∃ vs', vs'.length = m ∧ I vs' ∧ μ vs' < μ vs ∧ ∀ y ∈ r.diffs, ∀ β, y.1.den (env ρ') β = y.2.den (env (ρ ++ vs')) β
      | e => e = altX (env (ρ ++ us)) x alt ∧ ∀ y ∈ r.diffs, ∀ β, y.1.den (env ρ') β = y.2.den (env (ρ ++ us)) β) (ρ ++ vs)) :
    ∀ c, loopAt P f k = some c → ∀ inh w0, Sound P (env (ρ ++ us)) inh w0 (.loop c) st (altX (env (ρ ++ us)) x alt, sth) := by
  intro c hc inh w0 β a w hR Q hQ
  simp only [loopOk, Bool.and_eq_true] at hok
  obtain ⟨⟨⟨hst, hsth⟩, hnx⟩, hnn⟩ := hok
  have hnx : st.nx ≤ sth.nx := by simpa [Nat.ble_eq] using hnx
  have hnn : ∀ i, i < st.nx → i ∉ newNames ρ.length sth.tmps := fun i hi hm => by
    have := List.all_eq_true.1 hnn i hm
    rw [Nat.ble_eq] at this; omega
  have hb : T = build (runRound P cfg f k ρ.length sth c) 60 [] [] (ρ.length + m) := by rw [← hT]; simp only [treeRound, hc]
  have hlen : ∀ vs : List Value, vs.length = m → (ρ ++ vs).length = ρ.length + m := fun vs h => by simp [h]
  have hpre : ∀ (us vs : List Value), ∀ i, i < ρ.length → env (ρ ++ us) i = env (ρ ++ vs) i := fun us vs i hi => by rw [env_append _ _ i hi, env_append _ _ i hi]
  have main : ∀ (n : Nat) (vs : List Value), vs.length = m → I vs → μ vs < n → ∀ β2 a w, (∀ i, i < st.nx → β2 i = β i) → Rel (env (ρ ++ vs)) β2 inh w0 sth a w → Unr P c Q n a w := by
    intro n
    induction n with
    | zero => intro vs _ _ h; exact absurd h (Nat.not_lt_zero _)
    | succ n ih =>
      intro vs hl hI hμ β2 a w hβ2 hR2
      have ht := hround vs hl hI
      rw [hb, ← hlen vs hl] at ht
      obtain ⟨ws, asm', r, evs, hrun, hasm, hev, hq⟩ := build_sound (asm := []) (known := []) (fun x hx => by cases hx) (fun x hx => by cases hx) (fun e he => by cases he) ht
      obtain ⟨y, e1, e2, h1, h2, rfl⟩ := R.bind_ok hrun
      split at h2
      · cases h2
      · rename_i d hdd
        cases h2
        have hL : ∀ j c', (loopsOf c)[j]? = some c' → loopAt P f (k + 1 + j) = some c' := fun j c' hj => by
          obtain ⟨fn, body, k1, k2, k3⟩ := loopAt_eq hc
          simp only [loopAt, k1, k2]
          exact loopsOf_nest k3 hj
        have hs := execC_sound (inh := inh) (w0 := w0) hP.names (execF_ok hP.names hasm hP.order 12) (execF_up 12) hasm hP.order hL h1 fun e he => hev e (by simp [he])
        refine hs β2 a w (hR2.under (n := ρ.length + m) (fun i hi => env_append _ _ i (by rw [hlen vs hl]; exact hi)) hsth) _ fun β3 a' w' hβ3 hR3 => ?_
        have hβ3' : ∀ i, i < st.nx → β3 i = β i := fun i hi => by rw [hβ3 i (by omega), hβ2 i hi]
        have hag : ∀ (us : List Value), ∀ i, i < ρ.length → env (ρ ++ vs ++ ws) i = env (ρ ++ us) i := fun us i hi => by rw [List.append_assoc]; exact hpre _ _ i hi
        cases hy : y.1 with
        | normal =>
          rw [hy] at hq
          obtain ⟨vs', q1, q2, q3, q4⟩ := hq
          obtain ⟨β4, hβ4, hR4⟩ := diff_rel (hag vs') hdd q4 hR3
          exact ih vs' q1 q2 (by omega) β4 a' w' (fun i hi => by rw [hβ4 i (hnn i hi)]; exact hβ3' i hi) hR4
        | exit id =>
          rw [hy] at hq
          obtain ⟨q1, q2⟩ := hq
          obtain ⟨β4, hβ4, hR4⟩ := diff_rel (hag us) hdd q2 hR3
          have := hQ β4 a' w' (fun i hi => by rw [hβ4 i (hnn i hi)]; exact hβ3' i hi) hR4
          rw [← q1] at this
          exact this
        | ret =>
          rw [hy] at hq
          obtain ⟨q1, q2⟩ := hq
          obtain ⟨β4, hβ4, hR4⟩ := diff_rel (hag us) hdd q2 hR3
          have := hQ β4 a' w' (fun i hi => by rw [hβ4 i (hnn i hi)]; exact hβ3' i hi) hR4
          rw [← q1] at this
          exact this
  obtain ⟨vs0, hl0, hI0, he0⟩ := hentry
  have hR' : Rel (env ρ) β inh w0 st a w := hR.under (fun i hi => (env_append _ _ i hi).symm) hst
  obtain ⟨β4, hβ4, hR4⟩ := diff_rel (fun i hi => (env_append _ _ i hi).symm) hd he0 hR'
  exact loop_of_unr (n := μ vs0 + 1) (main _ vs0 hl0 hI0 (Nat.lt_succ_self _) β4 a w (fun i hi => hβ4 i (hnn i hi)) hR4)
end Go.Proofs.YteemnnajfiimlaaDoor.Sx
