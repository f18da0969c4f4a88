/- '==' on rows of limbs and on numbers with a sign, as the machine reckons it. No program is named here. -/
import Derived.Test.YteemnnajfiimlaaDoorBase
import Derived.Test.YteemnnajfiimlaaDoorMag
namespace Go.Proofs.YteemnnajfiimlaaDoor
open Go.RowKit
variable {P : Program}

/-- Two rows, element by element. -/
def eqRow (d : Nat) (e : TypeId) (n : Nat) (xs ys : Array Value) : List Nat → Sem Bool
  | [] => pure true
  | i :: is => do
    let a ← part e xs (i * n)
    let b ← part e ys (i * n)
    let r ← Op.equalIn d e a b
    if (!r) = true then pure false else eqRow d e n xs ys is

theorem run_equalIn_arr (w : World) (d : Nat) (t e : TypeId) (len n : Nat) (xs ys : Array Value) (hu : P.underlying t = some (.array len e)) (hi : (P.info? e).map (·.size) = some n) :
    (Op.equalIn (d + 1) t (.agg xs) (.agg ys)).run P w = (eqRow d e n xs ys (List.range' 0 len)).run P w := by
  have hs : ∀ w, (sizeOf e).run P w = .ok n w := fun w => by
    cases hq : P.info? e with
    | none => simp [hq] at hi
    | some i => simp [hq] at hi; simp [sizeOf, typeInfo, hq, hi]
  simp only [Op.equalIn, Sem.run_bind, run_underlying hu, Result.andThen_ok, hs]
  rw [Std.Legacy.Range.forIn_eq_forIn_range']
  simp only [Std.Legacy.Range.size, Nat.sub_zero, Nat.add_sub_cancel, Nat.div_one]
  generalize List.range' 0 len = l
  induction l generalizing w with
  | nil => simp [eqRow]
  | cons i l ih =>
    simp only [List.forIn_cons, eqRow, Sem.run_bind]
    generalize (part e xs (i * n)).run P w = r1
    cases r1 with
    | halt => rfl
    | ok a w1 =>
      simp only [Result.andThen_ok]
      generalize (part e ys (i * n)).run P w1 = r2
      cases r2 with
      | halt => rfl
      | ok b w2 =>
        simp only [Result.andThen_ok]
        generalize (Op.equalIn d e a b).run P w2 = r3
        cases r3 with
        | halt => rfl
        | ok r w3 =>
          simp only [Result.andThen_ok]
          cases r with
          | false => simp
          | true => simpa using ih w3

theorem run_part (w : World) (e : TypeId) (d : TypeDesc) (hu : P.underlying e = some d) (hd : d.isRow = false) (xs : Array Value) (j : Nat) (v : Value) (h : xs[j]? = some v) : (part e xs j).run P w = .ok v w := by
  have hagg : (isAgg e).run P w = .ok false w := by
    unfold isAgg
    rw [Sem.run_bind, run_underlying hu w]
    cases d <;> simp_all
  simp [part, Sem.run_bind, hagg, h]

theorem run_part_row (w : World) (e : TypeId) (d : TypeDesc) (hu : P.underlying e = some d) (hd : d.isRow = true) (n : Nat) (hi : (P.info? e).map (·.size) = some n) (xs : Array Value) (j : Nat) : (part e xs j).run P w = .ok (.agg (xs.extract j (j + n))) w := by
  have hagg : (isAgg e).run P w = .ok true w := by
    unfold isAgg
    rw [Sem.run_bind, run_underlying hu w]
    cases d <;> simp_all
  have hs : (sizeOf e).run P w = .ok n w := by
    cases hq : P.info? e with
    | none => simp [hq] at hi
    | some i => simp [hq] at hi; simp [sizeOf, typeInfo, hq, hi]
  simp [part, Sem.run_bind, hagg, hs]

theorem run_eqRow_mgk (d : Nat) (e : TypeId) (kk : IntKind) (he : P.underlying e = some (.int kk)) (K n m : Nat) : ∀ (l : List Nat) (w : World), (∀ i ∈ l, i < K) →
    (eqRow (d + 1) e 1 (mgk K n) (mgk K m) l).run P w = .ok (decide (∀ i ∈ l, limb n i = limb m i)) w
  | [], w, _ => by simp [eqRow]
  | i :: l, w, h => by
    have hi : i < K := h i (by simp)
    have h1 : (part e (mgk K n) (i * 1)).run P w = .ok (lv (limb n i)) w := run_part w e _ he rfl _ _ _ (by rw [Nat.mul_one]; exact mgk_get hi)
    have h2 : (part e (mgk K m) (i * 1)).run P w = .ok (lv (limb m i)) w := run_part w e _ he rfl _ _ _ (by rw [Nat.mul_one]; exact mgk_get hi)
    have h3 : (Op.equalIn (d + 1) e (lv (limb n i)) (lv (limb m i))).run P w = .ok (((limb n i : Nat) : Int) == ((limb m i : Nat) : Int)) w := run_equalIn_int w d e .u32 kk _ _ he
    simp only [eqRow, Sem.run_bind, h1, h2, h3, Result.andThen_ok]
    by_cases hq : limb n i = limb m i
    · rw [hq]
      simp only [beq_self_eq_true, Bool.not_true, Bool.false_eq_true, if_false]
      rw [run_eqRow_mgk d e kk he K n m l w (fun j hj => h j (by simp [hj]))]
      congr 1
      simp [hq]
    · have : (((limb n i : Nat) : Int) == ((limb m i : Nat) : Int)) = false := by simp; omega
      rw [this]
      simp [hq]

theorem mgk_eq_iff {K n m : Nat} : mgk K n = mgk K m ↔ ∀ i ∈ List.range' 0 K, limb n i = limb m i := by
  constructor
  · intro h i hi
    have hi' : i < K := by simpa using hi
    have h1 := mgk_get (n := n) hi'
    rw [h, mgk_get hi'] at h1
    exact (lv_inj (Option.some.inj h1)).symm
  · intro h
    exact mgk_congr fun i hi => h i (by simpa using hi)

theorem run_equalIn_mgk (w : World) (d : Nat) (t e : TypeId) (kk : IntKind) (K n m : Nat) (hu : P.underlying t = some (.array K e)) (hi : (P.info? e).map (·.size) = some 1) (he : P.underlying e = some (.int kk)) (hn : n < pw K) (hm : m < pw K) :
    (Op.equalIn (d + 2) t (.agg (mgk K n)) (.agg (mgk K m))).run P w = .ok (decide (n = m)) w := by
  rw [run_equalIn_arr w (d + 1) t e K 1 _ _ hu hi, run_eqRow_mgk d e kk he K n m _ w (by simp)]
  congr 1
  rw [decide_eq_decide, ← mgk_eq_iff]
  exact ⟨mgk_inj hn hm, fun h => by rw [h]⟩

theorem run_equalIn_iv (w : World) (d : Nat) (t tb ta e : TypeId) (kk : IntKind) (f g : Field) (s1 s2 : Bool) (n m : Nat) (ht : P.underlying t = some (.struct #[f, g])) (hp : P.stoodInHeld t = false)
    (hf : f.name ≠ "_") (hg : g.name ≠ "_") (hft : f.type = tb) (hgt : g.type = ta) (hfo : f.offset = 0) (hgo : g.offset = 1) (hb : P.underlying tb = some .bool)
    (hu : P.underlying ta = some (.array 32 e)) (hia : (P.info? ta).map (·.size) = some 32) (hi : (P.info? e).map (·.size) = some 1) (he : P.underlying e = some (.int kk)) (hn : n < pw 32) (hm : m < pw 32) :
    (Op.equalIn (d + 3) t (.agg (iv s1 n)) (.agg (iv s2 m))).run P w = .ok (decide (s1 = s2 ∧ n = m)) w := by
  have hfs : P.fieldsOf t = #[f, g] := by simp [Program.fieldsOf, ht]
  have hx : ∀ (s : Bool) (n : Nat), (iv s n).extract 1 (1 + 32) = mgk 32 n := fun s n => by
    apply Array.ext_getElem?
    intro i
    rw [Array.getElem?_extract]
    simp only [iv_size]
    by_cases hi : i < 32
    · rw [if_pos (by omega), iv_mag]
    · rw [if_neg (by omega), Array.getElem?_eq_none (by rw [mgk_size]; omega)]
  rw [run_equalIn_struct w (d + 2) t _ _ (by rw [hfs]; exact ht) hp, hfs]
  simp only [Op.eqFields, ne_eq, hf, hg, not_false_eq_true, if_true, Sem.run_bind, hft, hgt, hfo, hgo]
  rw [run_part w tb _ hb rfl _ _ _ (iv_neg s1 n), Result.andThen_ok, run_part w tb _ hb rfl _ _ _ (iv_neg s2 m), Result.andThen_ok, run_equalIn_bool' w (d + 1) tb s1 s2 hb, Result.andThen_ok]
  by_cases h : s1 = s2
  · subst h
    simp only [beq_self_eq_true, Bool.not_true, Bool.false_eq_true, if_false, Sem.run_bind]
    rw [run_part_row w ta _ hu rfl 32 hia, Result.andThen_ok, run_part_row w ta _ hu rfl 32 hia, Result.andThen_ok, hx, hx, run_equalIn_mgk w d ta e kk 32 n m hu hi he hn hm, Result.andThen_ok]
    by_cases h2 : n = m <;> simp [h2]
  · have : (s1 == s2) = false := by simpa using h
    rw [this]
    simp [h]

section
variable {o : Oper} {a : Act}
theorem run_eql_mgk (w : World) (t t' e : TypeId) (x y : Operand) (ho : o.op = .binOp .eql t x y t') (K n m : Nat) (hx : a.eval x = .agg (mgk K n)) (hy : a.eval y = .agg (mgk K m)) (kk : IntKind)
    (hq : P.eqGuardType P.depth t = false) (hu : P.underlying t = some (.array K e)) (hi : (P.info? e).map (·.size) = some 1) (he : P.underlying e = some (.int kk)) (hn : n < pw K) (hm : m < pw K) :
    (execOp a.eval o).run P w = .ok (.value (.bool (decide (n = m)))) w := by
  unfold execOp
  simp only [ho, hx, hy, Sem.run_bind, run_eqGuard_agg w .eql t x y _ _ hq, Result.andThen_ok, run_eql_struct, run_equalIn_mgk w 9998 t e kk K n m hu hi he hn hm, Sem.run_pure]

theorem run_neq_mgk (w : World) (t t' e : TypeId) (x y : Operand) (ho : o.op = .binOp .neq t x y t') (K n m : Nat) (hx : a.eval x = .agg (mgk K n)) (hy : a.eval y = .agg (mgk K m)) (kk : IntKind)
    (hq : P.eqGuardType P.depth t = false) (hu : P.underlying t = some (.array K e)) (hi : (P.info? e).map (·.size) = some 1) (he : P.underlying e = some (.int kk)) (hn : n < pw K) (hm : m < pw K) :
    (execOp a.eval o).run P w = .ok (.value (.bool (!decide (n = m)))) w := by
  unfold execOp
  simp only [ho, hx, hy, Sem.run_bind, run_eqGuard_agg w .neq t x y _ _ hq, Result.andThen_ok, run_neq_struct, run_equalIn_mgk w 9998 t e kk K n m hu hi he hn hm, Sem.run_pure]

/-- What a program must say of the type of numbers with a sign for '==' on them. -/
structure IvType (P : Program) (t : TypeId) : Prop where
  guard : P.eqGuardType P.depth t = false
  eq : ∀ (w : World) (s1 s2 : Bool) (n m : Nat), n < pw 32 → m < pw 32 → (Op.equalIn 10000 t (.agg (iv s1 n)) (.agg (iv s2 m))).run P w = .ok (decide (s1 = s2 ∧ n = m)) w

theorem run_eql_iv (w : World) (t t' : TypeId) (ht : IvType P t) (x y : Operand) (ho : o.op = .binOp .eql t x y t') (s1 s2 : Bool) (n m : Nat) (hx : a.eval x = .agg (iv s1 n)) (hy : a.eval y = .agg (iv s2 m)) (hn : n < pw 32) (hm : m < pw 32) :
    (execOp a.eval o).run P w = .ok (.value (.bool (decide (s1 = s2 ∧ n = m)))) w := by
  unfold execOp
  simp only [ho, hx, hy, Sem.run_bind, run_eqGuard_agg w .eql t x y _ _ ht.guard, Result.andThen_ok, run_eql_struct, ht.eq w s1 s2 n m hn hm, Sem.run_pure]

theorem run_neq_iv (w : World) (t t' : TypeId) (ht : IvType P t) (x y : Operand) (ho : o.op = .binOp .neq t x y t') (s1 s2 : Bool) (n m : Nat) (hx : a.eval x = .agg (iv s1 n)) (hy : a.eval y = .agg (iv s2 m)) (hn : n < pw 32) (hm : m < pw 32) :
    (execOp a.eval o).run P w = .ok (.value (.bool (!decide (s1 = s2 ∧ n = m)))) w := by
  unfold execOp
  simp only [ho, hx, hy, Sem.run_bind, run_eqGuard_agg w .neq t x y _ _ ht.guard, Result.andThen_ok, run_neq_struct, ht.eq w s1 s2 n m hn hm, Sem.run_pure]
end

end Go.Proofs.YteemnnajfiimlaaDoor
