/- Symbolic execution: a region, in the order of the text, and in whatever order its edges allow. No program is named here. -/
import Derived.Test.YteemnnajfiimlaaDoorSxJ
namespace Go.Proofs.YteemnnajfiimlaaDoor.Sx
open Go.RowKit

/-! ### The order of the text -/
section
variable {P : Program} {ρ : Nat → Value} {inh : List Nat} {w0 : World} {cfg : Cfg} {asm : Asm} {callee : Callee} {ops : Array Oper}

theorem step_bound {st : St} {o : Oper} {r : Rec} {evs : List Ev} (h : stepOp P cfg asm callee ops st o = .ok r evs) : r.lo = st.nx ∧ ((r.whole = false ∧ r.hi = r.lo) ∨ boundS st = true) := by
  unfold stepOp at h
  obtain ⟨wnt, e1, e2, h1, h2, rfl⟩ := R.bind_ok h
  cases wnt with
  | false => simp only at h2; cases h2; exact ⟨rfl, .inl ⟨rfl, rfl⟩⟩
  | true =>
    simp only at h2
    split at h2
    · cases h2
    · split at h2
      · unfold stepInl at h2
        obtain ⟨ret, e3, e4, h3, h4, rfl⟩ := R.bind_ok h2
        split at h4
        · rename_i hb; cases h4
          simp only [Bool.and_eq_true] at hb
          exact ⟨rfl, .inr hb.1.1⟩
        · cases h4
      · unfold stepLoc at h2
        obtain ⟨res, e3, e4, h3, h4, rfl⟩ := R.bind_ok h2
        split at h4
        · cases h4; exact ⟨rfl, .inl ⟨rfl, rfl⟩⟩
        · split at h4
          · rename_i hb; cases h4; exact ⟨rfl, .inr hb⟩
          · cases h4
theorem step_dst {st : St} {o : Oper} {r : Rec} {evs : List Ev} (h : stepOp P cfg asm callee ops st o = .ok r evs) : r.dst = o.dst ∧ r.looks = o.looksAt ops := by
  unfold stepOp at h
  obtain ⟨wnt, e1, e2, h1, h2, rfl⟩ := R.bind_ok h
  cases wnt with
  | false => simp only at h2; cases h2; exact ⟨rfl, rfl⟩
  | true =>
    simp only at h2
    split at h2
    · cases h2
    · split at h2
      · unfold stepInl at h2
        obtain ⟨ret, e3, e4, h3, h4, rfl⟩ := R.bind_ok h2
        split at h4
        · cases h4; exact ⟨rfl, rfl⟩
        · cases h4
      · unfold stepLoc at h2
        obtain ⟨res, e3, e4, h3, h4, rfl⟩ := R.bind_ok h2
        split at h4
        · cases h4; exact ⟨rfl, rfl⟩
        · split at h4
          · cases h4; exact ⟨rfl, rfl⟩
          · cases h4
/-- In the state itself all names are old. -/
theorem step_old [Outer] {st : St} {o : Oper} {r : Rec} {evs : List Ev} (h : stepOp P cfg asm callee ops st o = .ok r evs) :
    (∀ t, ∀ i ∈ (look st.tmps t).ids, r.old i) ∧ (∀ i m, find i st.mem = some m → r.old i ∧ ∀ j ∈ m.ids, r.old j) := by
  obtain ⟨hlo, hb⟩ := step_bound h
  rcases hb with ⟨h1, h2⟩ | hb
  · have : ∀ i, r.old i := fun i => by
      unfold Rec.old
      rcases Nat.lt_or_ge i r.lo with h | h
      · exact .inl h
      · exact .inr ⟨h1, by omega⟩
    exact ⟨fun _ i _ => this i, fun i m _ => ⟨this i, fun j _ => this j⟩⟩
  · simp only [boundS, Bool.and_eq_true] at hb
    refine ⟨fun t i hi => .inl (by rw [hlo]; exact boundT_look hb.1 t i hi), fun i m hf => ?_⟩
    obtain ⟨h1, h2⟩ := boundM_find hb.2 i m hf
    exact ⟨.inl (by rw [hlo]; exact h1), fun j hj => .inl (by rw [hlo]; exact h2 j hj)⟩

theorem Rec.old_lt {r : Rec} {i : Nat} (h : i < r.lo) : r.old i := .inl h

theorem step_rel [Outer] (hN : ∀ (f : Nat) (fn : Func), P.funcs[f]? = some fn → (fn.name == "runtime.NumGoroutine") = false) (hC : CalleeOk P ρ callee) (hasm : Asm.den ρ asm) {β : Nat → Nat} {st : St} {o : Oper} {r : Rec} {evs : List Ev}
    (h : stepOp P cfg asm callee ops st o = .ok r evs) (hev : Holds P ρ evs) {a : Act} {w : World} (hR : Rel ρ β inh w0 st a w) {K : Act → World → Prop} {Q : Exit → Act → World → Prop}
    (hK : ∀ β' a' w', (∀ i, i < st.nx → β' i = β i) → Rel ρ β' inh w0 (st.after r) a' w' → K a' w') :
    if Region.wanted o (yielded ops a.tmps) then o.wp P a w K Q else K (a.put o.dst undef) w := by
  obtain ⟨ha, hd, hM⟩ := hR
  obtain ⟨ho1, ho2⟩ := step_old h
  obtain ⟨hdst, hlooks⟩ := step_dst h
  have hlo := (step_bound h).1
  have hs := stepOp_sound hN hC hasm h hev (a := a) (tm' := st.tmps) (mm' := fun i => find i st.mem) (fun _ _ => rfl) (fun _ _ => rfl) (fun _ => rfl) ho1 ho2 ha hM
  have hdef : ∀ (v : Value), (a.put o.dst v).defers = [] := fun v => by cases o.dst <;> exact hd
  rcases hs with ⟨hw, hs⟩ | ⟨hw, hv, hu⟩
  · rw [if_pos hw]
    refine hs K Q fun v w' β' hβ hv hm => hK β' _ w' (fun i hi => hβ i (.inl (by rw [hlo]; exact hi))) ⟨?_, hdef v, ?_⟩
    · simp only [St.after, hdst]
      exact (ha.names fun t i hi => hβ i (ho1 t i hi)).put o.dst r.val hv
    · simp only [St.after]
      rw [find_putMs]; exact hm
  · rw [if_neg (by rw [hw]; exact Bool.false_ne_true)]
    refine hK β _ w (fun _ _ => rfl) ⟨?_, hdef undef, ?_⟩
    · simp only [St.after, hdst]
      rw [hv]
      exact ha.put o.dst .undef rfl
    · simp only [St.after]
      rw [find_putMs, hu]; exact hM

theorem after_nx {st : St} {r : Rec} : (st.after r).nx = r.hi := rfl

/-- What runs see of the numbers of names: they grow. -/
def CalleeUp (callee : Callee) : Prop := ∀ f args mem nx nv ret evs, callee f args mem nx nv = .ok ret evs → nx ≤ ret.nx

theorem step_up (hU : CalleeUp callee) {st : St} {o : Oper} {r : Rec} {evs : List Ev} (h : stepOp P cfg asm callee ops st o = .ok r evs) : st.nx ≤ r.hi := by
  unfold stepOp at h
  obtain ⟨wnt, e1, e2, h1, h2, rfl⟩ := R.bind_ok h
  cases wnt with
  | false => simp only at h2; cases h2; exact Nat.le_refl _
  | true =>
    simp only at h2
    split at h2
    · cases h2
    · split at h2
      · unfold stepInl at h2
        obtain ⟨ret, e3, e4, h3, h4, rfl⟩ := R.bind_ok h2
        split at h4
        · cases h4; exact hU _ _ _ _ _ _ _ h3
        · cases h4
      · unfold stepLoc at h2
        obtain ⟨res, e3, e4, h3, h4, rfl⟩ := R.bind_ok h2
        split at h4
        · cases h4; exact Nat.le_refl _
        · split at h4
          · cases h4; exact Nat.le_add_right _ _
          · cases h4
theorem runOps_up [Outer] (hU : CalleeUp callee) : ∀ {os : List Oper} {st : St} {x : St × List Rec} {evs : List Ev}, runOps P cfg asm callee ops os st = .ok x evs → st.nx ≤ x.1.nx
  | [], st, x, evs, h => by cases h; exact Nat.le_refl _
  | o :: os, st, x, evs, h => by
    simp only [runOps] at h
    obtain ⟨r, e1, e2, h1, h2, rfl⟩ := R.bind_ok h
    obtain ⟨y, e3, e4, h3, h4, rfl⟩ := R.bind_ok h2
    cases h4
    have := runOps_up hU h3
    have h' := step_up hU h1
    simp only [after_nx] at this
    show st.nx ≤ y.1.nx
    omega

theorem runOps_list [Outer] (hN : ∀ (f : Nat) (fn : Func), P.funcs[f]? = some fn → (fn.name == "runtime.NumGoroutine") = false) (hC : CalleeOk P ρ callee) (hU : CalleeUp callee) (hasm : Asm.den ρ asm) {Q : Exit → Act → World → Prop} :
    ∀ {os : List Oper} {st : St} {x : St × List Rec} {evs : List Ev}, runOps P cfg asm callee ops os st = .ok x evs → Holds P ρ evs → ∀ {β : Nat → Nat} {a : Act} {w : World}, Rel ρ β inh w0 st a w →
    (∀ β' a' w', (∀ i, i < st.nx → β' i = β i) → Rel ρ β' inh w0 x.1 a' w' → Q .normal a' w') → wpList P ops Q os a w
  | [], st, x, evs, h, _, β, a, w, hR, hQ => by cases h; exact hQ β a w (fun _ _ => rfl) hR
  | o :: os, st, x, evs, h, hev, β, a, w, hR, hQ => by
    simp only [runOps] at h
    obtain ⟨r, e1, e2, h1, h2, rfl⟩ := R.bind_ok h
    obtain ⟨y, e3, e4, h3, h4, rfl⟩ := R.bind_ok h2
    cases h4
    refine wpList_step fun K hK => step_rel hN hC hasm h1 (fun e he => hev e (by simp [he])) hR fun β' a' w' hβ hR' => hK _ _ ?_
    refine runOps_list hN hC hU hasm h3 (fun e he => hev e (by simp [he])) hR' fun β'' a'' w'' hβ' hR'' => hQ β'' a'' w'' (fun i hi => ?_) hR''
    have := step_up hU h1
    rw [hβ' i (by rw [after_nx]; omega), hβ i hi]
end
end Go.Proofs.YteemnnajfiimlaaDoor.Sx
