/- Symbolic execution: arithmetic, comparisons, places. No program is named here. -/
import Derived.Test.YteemnnajfiimlaaDoorSxC
namespace Go.Proofs.YteemnnajfiimlaaDoor.Sx
open Go.RowKit

theorem wrap_in (k : IntKind) (n : Int) (h : k.min ≤ n ∧ n ≤ k.max) : k.wrap n = n := by
  cases k <;> simp [IntKind.min, IntKind.max, IntKind.signed, IntKind.bits, IntKind.wrap] at * <;> omega

/-! ### Integers -/
def litT : Tm → Option Int
  | .lit n => some n
  | _ => none
theorem litT_eq {a : Tm} {n : Int} (h : litT a = some n) : a = .lit n := by
  cases a <;> simp [litT] at h; rw [h]
def arT (nowrap : Bool) (op : BinOp) (k : IntKind) (a b : Tm) : Tm :=
  match litT a, litT b with
  | some m, some n => .lit (ariI op k m n)
  | _, _ => match nowrap with
    | true => .ex op a b
    | false => .ari op k a b
def arE (nowrap : Bool) (op : BinOp) (k : IntKind) (a b : Tm) : List Ev :=
  match litT a, litT b with
  | some _, some _ => []
  | _, _ => match nowrap with
    | true => [.fits k (.ex op a b)]
    | false => []
def nzT (b : Tm) : List Ev :=
  match litT b with
  | some n => match intBeq n 0 with
    | false => []
    | true => [.need (.lit false)]
  | none => [.need (mkNo (mkEq b (.lit 0)))]
def nonnegT (b : Tm) : List Ev :=
  match litT b with
  | some n => match intLt n 0 with
    | false => []
    | true => [.need (.lit false)]
  | none => [.need (mkNo (mkLt b (.lit 0)))]
inductive OpKind where
  | exact | quot | bits | shift | cmp
def opKind : BinOp → OpKind
  | .add | .sub | .mul => .exact
  | .quo | .rem => .quot
  | .and | .or | .xor | .andNot => .bits
  | .shl | .shr => .shift
  | _ => .cmp
def cmpT (op : BinOp) (a b : Tm) : Option BTm :=
  match op with
  | .eql => some (mkEq a b)
  | .neq => some (mkNo (mkEq a b))
  | .lss => some (mkLt a b)
  | .leq => some (mkNo (mkLt b a))
  | .gtr => some (mkLt b a)
  | .geq => some (mkNo (mkLt a b))
  | _ => none
def shT (op : BinOp) (k : IntKind) (a b : Tm) : Tm :=
  match litT a, litT b with
  | some m, some n => .lit (shfI op k m n)
  | _, _ => .shf op k a b
/-- Differences of unsigned numbers may wrap. -/
def mayWrap (op : BinOp) (k : IntKind) : Bool :=
  match op with
  | .sub => k.signed
  | _ => true
def hInt (nowrap : Bool) (op : BinOp) (k : IntKind) (a : Tm) (k' : IntKind) (b : Tm) (nv : Nat) : R OpRes :=
  match opKind op with
  | .shift => .ok ⟨.one (.cell (.int k (shT op k a b))), [], [], nv⟩ (nonnegT b)
  | kd =>
    match Nat.beq (kindNo k) (kindNo k') with
    | false => .bad "int: kinds"
    | true =>
      match kd with
      | .exact => .ok ⟨.one (.cell (.int k (arT (nowrap && mayWrap op k) op k a b))), [], [], nv⟩ (arE (nowrap && mayWrap op k) op k a b)
      | .quot => .ok ⟨.one (.cell (.int k (arT nowrap op k a b))), [], [], nv⟩ (nzT b ++ arE nowrap op k a b)
      | .bits => okC (.int k (arT false op k a b)) nv
      | _ => match cmpT op a b with
        | some c => okC (.bool c) nv
        | none => .bad "int: operator"

section
variable {P : Program} {ρ : Nat → Value} {β : Nat → Nat} {w : World}

theorem arT_den [Outer] {nowrap : Bool} {op : BinOp} {k : IntKind} {a b : Tm} (hop : opKind op = .exact ∨ opKind op = .quot ∨ nowrap = false) (h : Holds P ρ (arE nowrap op k a b)) : (arT nowrap op k a b).i ρ = ariI op k (a.i ρ) (b.i ρ) := by
  unfold arT
  unfold arE at h
  cases ha : litT a with
  | some m =>
    cases hb : litT b with
    | some n => rw [litT_eq ha, litT_eq hb]; rfl
    | none =>
      simp only [ha, hb] at h
      cases nowrap with
      | false => rfl
      | true =>
        have hf := h _ (.head _)
        simp only [Ev.holds] at hf
        rcases hop with hop | hop | hop
        · cases op <;> simp only [opKind, reduceCtorEq] at hop <;> (simp only [ariI]; exact (wrap_in k _ hf).symm)
        · cases op <;> simp only [opKind, reduceCtorEq] at hop
          · simp only [ariI]; exact (wrap_in k _ hf).symm
          · rfl
        · cases hop
  | none =>
    simp only [ha] at h
    cases nowrap with
    | false => rfl
    | true =>
      have hf := h _ (.head _)
      simp only [Ev.holds] at hf
      rcases hop with hop | hop | hop
      · cases op <;> simp only [opKind, reduceCtorEq] at hop <;> (simp only [ariI]; exact (wrap_in k _ hf).symm)
      · cases op <;> simp only [opKind, reduceCtorEq] at hop
        · simp only [ariI]; exact (wrap_in k _ hf).symm
        · rfl
      · cases hop
theorem nzT_den [Outer] {b : Tm} (h : Holds P ρ (nzT b)) : b.i ρ ≠ 0 := by
  unfold nzT at h
  cases hb : litT b with
  | some n =>
    simp only [hb] at h
    rw [litT_eq hb]
    split at h
    · rename_i hn
      rw [intBeq_iff] at hn
      simpa [Tm.i, Tm.den] using hn
    · exact absurd (h _ (.head _)) (by simp [Ev.holds, BTm.den])
  | none =>
    simp only [hb] at h
    have := h _ (.head _)
    simp only [Ev.holds, mkNo_den, mkEq_den] at this
    simpa [Tm.i, Tm.den] using this
theorem nonnegT_den [Outer] {b : Tm} (h : Holds P ρ (nonnegT b)) : ¬ b.i ρ < 0 := by
  unfold nonnegT at h
  cases hb : litT b with
  | some n =>
    simp only [hb] at h
    rw [litT_eq hb]
    split at h
    · rename_i hn
      rw [intLt_iff] at hn
      simpa [Tm.i, Tm.den] using hn
    · exact absurd (h _ (.head _)) (by simp [Ev.holds, BTm.den])
  | none =>
    simp only [hb] at h
    have := h _ (.head _)
    simp only [Ev.holds, mkNo_den, mkLt_den] at this
    intro hlt
    rw [decide_eq_true (show b.i ρ < Tm.i ρ (.lit 0) from hlt)] at this
    cases this
theorem shT_den [Outer] {op : BinOp} {k : IntKind} {a b : Tm} : (shT op k a b).i ρ = shfI op k (a.i ρ) (b.i ρ) := by
  unfold shT
  cases ha : litT a with
  | some m =>
    cases hb : litT b with
    | some n => rw [litT_eq ha, litT_eq hb]; rfl
    | none => rfl
  | none => rfl
theorem not_lt_bool (x y : Int) : (!decide (x < y)) = decide (y ≤ x) := by
  rw [Bool.eq_iff_iff]; simp
theorem cmpT_run [Outer] {op : BinOp} {a b : Tm} {c : BTm} (hk : opKind op = .cmp) (h : cmpT op a b = some c) : (Op.intCmp op (a.i ρ) (b.i ρ)).run P w = .ok (.bool (c.den ρ)) w := by
  cases op <;> simp only [opKind, reduceCtorEq] at hk <;> simp only [cmpT, Option.some.injEq] at h <;> subst h <;> simp only [Op.intCmp, Sem.run_pure, mkEq_den, mkNo_den, mkLt_den, not_lt_bool, bne] <;> rfl

theorem hInt_run [Outer] {nowrap : Bool} {op : BinOp} {k k' : IntKind} {a b : Tm} {nv : Nat} {res : OpRes} {evs : List Ev} {t : TypeId} (h : hInt nowrap op k a k' b nv = .ok res evs) (hev : Holds P ρ evs) :
    (binOp op t (.int k (a.i ρ)) (.int k' (b.i ρ))).run P w = .ok (res.val.den ρ β) w ∧ res.upd = [] ∧ res.news = [] := by
  unfold hInt at h
  split at h
  · rename_i hk
    cases h
    have hn := nonnegT_den hev
    refine ⟨?_, rfl, rfl⟩
    simp only [SW.den, SV.den, Cell.den, shT_den]
    cases op <;> simp only [opKind, reduceCtorEq] at hk <;> simp only [binOp, Op.shift, if_neg hn] <;> rfl
  · rename_i kd hkd
    split at h
    · cases h
    · rename_i hkk
      have hkk := kindNo_inj (Nat.eq_of_beq_eq_true hkk)
      subst hkk
      split at h
      · rename_i hk
        cases h
        refine ⟨?_, rfl, rfl⟩
        simp only [SW.den, SV.den, Cell.den, arT_den (.inl hk) hev]
        cases op <;> simp only [opKind, reduceCtorEq] at hk <;> simp [binOp, Op.intArith, ariI]
      · rename_i hk
        cases h
        have hz := nzT_den (P := P) (ρ := ρ) (b := b) fun e he => hev e (List.mem_append_left _ he)
        refine ⟨?_, rfl, rfl⟩
        simp only [SW.den, SV.den, Cell.den, arT_den (.inr (.inl hk)) fun e he => hev e (List.mem_append_right _ he)]
        cases op <;> simp only [opKind, reduceCtorEq] at hk <;> simp [binOp, Op.intDiv, ariI, hz]
      · rename_i hk
        simp only [okC] at h
        cases h
        refine ⟨?_, rfl, rfl⟩
        have he : Holds P ρ (arE false op k a b) := fun e he => by
          unfold arE at he
          cases ha : litT a <;> cases hb : litT b <;> simp [ha, hb] at he
        simp only [SW.den, SV.den, Cell.den, arT_den (.inr (.inr rfl)) he]
        cases op <;> simp only [opKind, reduceCtorEq] at hk <;> simp [binOp, Op.intBits, ariI]
      · rename_i h1 h2 h3
        split at h
        · rename_i c hc
          simp only [okC] at h
          cases h
          have hk : opKind op = .cmp := by
            revert hkd h1 h2 h3
            cases opKind op <;> simp
          have hr := cmpT_run (P := P) (ρ := ρ) (w := w) hk hc
          refine ⟨?_, rfl, rfl⟩
          simp only [SW.den, SV.den, Cell.den]
          rw [← hr]
          cases op <;> simp only [opKind, reduceCtorEq] at hk <;> simp [binOp]
        · cases h
end
end Go.Proofs.YteemnnajfiimlaaDoor.Sx
