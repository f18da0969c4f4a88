/- Symbolic execution: strings, truth values, parts of composite values, calls. No program is named here. -/
import Derived.Test.YteemnnajfiimlaaDoorSxD
namespace Go.Proofs.YteemnnajfiimlaaDoor.Sx
open Go.RowKit

/-! ### Strings, truth values, equality of rows -/
def litS : Tm → Option ByteArray
  | .str s => some s
  | _ => none
theorem litS_eq {a : Tm} {n : ByteArray} (h : litS a = some n) : a = .str n := by
  cases a <;> simp [litS] at h; rw [h]
def mkLen (s : Tm) : Tm :=
  match litS s with
  | some b => .lit ((b.size : Nat) : Int)
  | none => .len s
theorem mkLen_den [Outer] (ρ : Nat → Value) (s : Tm) : (mkLen s).i ρ = (((s.s ρ).size : Nat) : Int) := by
  unfold mkLen
  split
  · rename_i b h; rw [litS_eq h]; rfl
  · rfl
def hStr (op : BinOp) (a b : Tm) (nv : Nat) : R OpRes :=
  match op with
  | .add => .ok ⟨.one (.cell (.str (.cat a b))), [], [], nv⟩ [.fits .i64 (.ex .add (.len a) (.len b))]
  | .eql => okC (.bool (.seq a b)) nv
  | .neq => okC (.bool (mkNo (.seq a b))) nv
  | .lss => okC (.bool (.slt a b)) nv
  | _ => .bad "string: operator"
def eqlB (op : BinOp) (a : BTm) (b : Bool) : BTm :=
  match op, b with
  | .eql, true => a
  | .eql, false => mkNo a
  | _, true => mkNo a
  | _, false => a
def hBoolEq (asm : Asm) (P : Program) (op : BinOp) (t : TypeId) (a b : BTm) (nv : Nat) : R OpRes :=
  match P.underlying t with
  | some .bool => match op with
    | .eql | .neq => match decideB asm b with
      | some v => okC (.bool (eqlB op a v)) nv
      | none => .split (atomB b) []
    | _ => .bad "bool: operator"
  | _ => .bad "bool: type"
def hAgg (P : Program) (op : BinOp) (t : TypeId) (p q : List Piece) (nv : Nat) : R OpRes :=
  match P.eqGuardType P.depth t with
  | true => .bad "equality: guard"
  | false => match op with
    | .eql => .ok ⟨.one (.cell (.bool (.v nv))), [], [], nv + 1⟩ [.same t (.agg p) (.agg q) nv]
    | .neq => .ok ⟨.one (.cell (.bool (.no (.v nv)))), [], [], nv + 1⟩ [.same t (.agg p) (.agg q) nv]
    | _ => .bad "equality: operator"
/-- A function value beside nil. -/
def hFunc (P : Program) (op : BinOp) (t : TypeId) (same : Bool) (nv : Nat) : R OpRes :=
  match P.underlying t with
  | some (.func _ _ _) => match op with
    | .eql => okC (.bool (.lit same)) nv
    | .neq => okC (.bool (.lit (!same))) nv
    | _ => .bad "func: operator"
  | _ => .bad "func: type"
def hBin (P : Program) (nowrap : Bool) (asm : Asm) (op : BinOp) (t : TypeId) (x y : SW) (nv : Nat) : R OpRes :=
  match x, y with
  | .one (.cell (.int k a)), .one (.cell (.int k' b)) => hInt nowrap op k a k' b nv
  | .one (.cell (.str a)), .one (.cell (.str b)) => hStr op a b nv
  | .one (.cell (.bool a)), .one (.cell (.bool b)) => hBoolEq asm P op t a b nv
  | .one (.agg p), .one (.agg q) => hAgg P op t p q nv
  | .one (.cell (.meth _ _)), .one (.cell (.const .nilFunc)) => hFunc P op t false nv
  | .one (.cell (.func _ _)), .one (.cell (.const .nilFunc)) => hFunc P op t false nv
  | .one (.cell (.const .nilFunc)), .one (.cell (.const .nilFunc)) => hFunc P op t true nv
  | _, _ => .bad "operator"
section
variable {P : Program} {ρ : Nat → Value} {β : Nat → Nat} {w : World} {asm : Asm}

theorem eqGuard_plain {op : BinOp} {t : TypeId} {x y : Operand} {a b : Value} (ha : a ≠ .nilIface) (h : (∀ z, a ≠ .agg z) ∨ P.eqGuardType P.depth t = false) : (eqGuard op t x y a b).run P w = .ok () w := by
  unfold eqGuard
  cases op <;> simp
  all_goals
    split
    · exact absurd rfl ha
    · rename_i u v
      rcases h with h | h
      · exact absurd rfl (h u)
      · have hp : ∀ w, (program : Sem Program).run P w = .ok P w := fun _ => rfl
        simp [hp, h]
    · rfl

theorem stringOp_run [Outer] {op : BinOp} {a b : Tm} {nv : Nat} {res : OpRes} {evs : List Ev} {t : TypeId} (h : hStr op a b nv = .ok res evs) (hev : Holds P ρ evs) :
    (binOp op t (.string (a.s ρ)) (.string (b.s ρ))).run P w = .ok (res.val.den ρ β) w ∧ res.upd = [] ∧ res.news = [] := by
  cases op <;> simp only [hStr, okC, reduceCtorEq] at h <;> cases h <;> refine ⟨?_, rfl, rfl⟩
  · have hf := hev _ (.head _)
    simp only [Ev.holds, Tm.i, Tm.den, exI] at hf
    simp only [binOp, Op.stringOp]
    rw [if_neg (by simp only [Tm.s]; have := hf.2; omega)]
    rfl
  · rfl
  · simp only [SW.den, SV.den, Cell.den, mkNo_den]; rfl
  · rfl
theorem eqlB_den {op : BinOp} (hop : op = .eql ∨ op = .neq) (a : BTm) (b : Bool) : (eqlB op a b).den ρ = (match op with | .eql => (a.den ρ == b) | _ => !(a.den ρ == b)) := by
  rcases hop with rfl | rfl <;> cases b <;> simp [eqlB, mkNo_den]
theorem boolEq_run [Outer] {op : BinOp} {a b : BTm} {nv : Nat} {res : OpRes} {evs : List Ev} {t : TypeId} (hasm : Asm.den ρ asm) (h : hBoolEq asm P op t a b nv = .ok res evs) :
    (binOp op t (.bool (a.den ρ)) (.bool (b.den ρ))).run P w = .ok (res.val.den ρ β) w ∧ res.upd = [] ∧ res.news = [] := by
  unfold hBoolEq at h
  split at h
  · rename_i hu
    have he : (Op.equal t (.bool (a.den ρ)) (.bool (b.den ρ))).run P w = .ok (a.den ρ == b.den ρ) w := by
      have h1 : Op.equal t (.bool (a.den ρ)) (.bool (b.den ρ)) = Op.equalIn (9999 + 1) t (.bool (a.den ρ)) (.bool (b.den ρ)) := rfl
      rw [h1, Op.equalIn]
      simp only [Sem.run_bind, run_underlying hu, Result.andThen_ok, Sem.run_pure]
    split at h
    · split at h
      · rename_i v hv
        simp only [okC] at h
        cases h
        refine ⟨?_, rfl, rfl⟩
        rw [decideB_den hasm hv] at he ⊢
        simp only [SW.den, SV.den, Cell.den, eqlB_den (.inl rfl), binOp, Sem.run_bind, he, Result.andThen_ok, Sem.run_pure]
      · cases h
    · split at h
      · rename_i v hv
        simp only [okC] at h
        cases h
        refine ⟨?_, rfl, rfl⟩
        rw [decideB_den hasm hv] at he ⊢
        simp only [SW.den, SV.den, Cell.den, eqlB_den (.inr rfl), binOp, Sem.run_bind, he, Result.andThen_ok, Sem.run_pure]
      · cases h
    · cases h
  · cases h
theorem func_run {op : BinOp} {t : TypeId} {a b : Value} {same : Bool} {nv : Nat} {res : OpRes} {evs : List Ev} (h : hFunc P op t same nv = .ok res evs) (hab : (a = .nilFunc ∧ b = .nilFunc ∧ same = true) ∨ ((∃ f x c, a = .func f x c) ∧ b = .nilFunc ∧ same = false)) :
    (binOp op t a b).run P w = .ok (res.val.den ρ β) w ∧ res.upd = [] ∧ res.news = [] := by
  unfold hFunc at h
  split at h
  · rename_i x1 x2 x3 hu
    have he : (Op.equal t a b).run P w = .ok same w := by
      have h1 : Op.equal t a b = Op.equalIn (9999 + 1) t a b := rfl
      rw [h1, Op.equalIn]
      rcases hab with ⟨rfl, rfl, rfl⟩ | ⟨⟨f, x, c, rfl⟩, rfl, rfl⟩ <;> simp only [Sem.run_bind, run_underlying hu, Result.andThen_ok, Sem.run_pure]
    split at h
    · simp only [okC] at h; cases h
      refine ⟨?_, rfl, rfl⟩
      rcases hab with ⟨rfl, rfl, rfl⟩ | ⟨⟨f, x, c, rfl⟩, rfl, rfl⟩ <;> simp only [SW.den, SV.den, Cell.den, BTm.den, binOp, Sem.run_bind, he, Result.andThen_ok, Sem.run_pure]
    · simp only [okC] at h; cases h
      refine ⟨?_, rfl, rfl⟩
      rcases hab with ⟨rfl, rfl, rfl⟩ | ⟨⟨f, x, c, rfl⟩, rfl, rfl⟩ <;> simp only [SW.den, SV.den, Cell.den, BTm.den, binOp, Sem.run_bind, he, Result.andThen_ok, Sem.run_pure]
    · cases h
  · cases h
theorem hBin_run [Outer] {nowrap : Bool} {op : BinOp} {t : TypeId} {x y : SW} {ox oy : Operand} {nv : Nat} {res : OpRes} {evs : List Ev} (hasm : Asm.den ρ asm) (h : hBin P nowrap asm op t x y nv = .ok res evs) (hev : Holds P ρ evs) :
    (eqGuard op t ox oy (x.den ρ β) (y.den ρ β)).run P w = .ok () w ∧ (binOp op t (x.den ρ β) (y.den ρ β)).run P w = .ok (res.val.den ρ β) w ∧ res.upd = [] ∧ res.news = [] := by
  unfold hBin at h
  split at h
  · exact ⟨eqGuard_plain (by simp [SW.den, SV.den, Cell.den]) (.inl (by simp [SW.den, SV.den, Cell.den])), hInt_run h hev⟩
  · exact ⟨eqGuard_plain (by simp [SW.den, SV.den, Cell.den]) (.inl (by simp [SW.den, SV.den, Cell.den])), stringOp_run h hev⟩
  · exact ⟨eqGuard_plain (by simp [SW.den, SV.den, Cell.den]) (.inl (by simp [SW.den, SV.den, Cell.den])), boolEq_run hasm h⟩
  · unfold hAgg at h
    split at h
    · cases h
    · rename_i hg
      split at h
      · cases h
        have hs := hev _ (.head _)
        simp only [Ev.holds] at hs
        have hs := hs β w
        simp only [SV.den] at hs
        refine ⟨eqGuard_plain (by simp [SW.den, SV.den]) (.inr hg), ?_, rfl, rfl⟩
        simp only [SW.den, SV.den, Cell.den, BTm.den, binOp, Sem.run_bind, hs, Result.andThen_ok, Sem.run_pure]
      · cases h
        have hs := hev _ (.head _)
        simp only [Ev.holds] at hs
        have hs := hs β w
        simp only [SV.den] at hs
        refine ⟨eqGuard_plain (by simp [SW.den, SV.den]) (.inr hg), ?_, rfl, rfl⟩
        simp only [SW.den, SV.den, Cell.den, BTm.den, binOp, Sem.run_bind, hs, Result.andThen_ok, Sem.run_pure]
      · cases h
  · exact ⟨eqGuard_plain (by simp [SW.den, SV.den, Cell.den]) (.inl (by simp [SW.den, SV.den, Cell.den])), func_run h (.inr ⟨⟨_, _, _, rfl⟩, rfl, rfl⟩)⟩
  · exact ⟨eqGuard_plain (by simp [SW.den, SV.den, Cell.den]) (.inl (by simp [SW.den, SV.den, Cell.den])), func_run h (.inr ⟨⟨_, _, _, rfl⟩, rfl, rfl⟩)⟩
  · exact ⟨eqGuard_plain (by simp [SW.den, SV.den, Cell.den, fix, Value.oneCell']) (.inl (by simp [SW.den, SV.den, Cell.den, fix, Value.oneCell'])), func_run h (.inl ⟨rfl, rfl, rfl⟩)⟩
  · cases h
end
end Go.Proofs.YteemnnajfiimlaaDoor.Sx
