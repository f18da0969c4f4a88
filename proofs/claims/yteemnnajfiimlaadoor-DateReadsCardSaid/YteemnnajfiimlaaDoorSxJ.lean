/- Symbolic execution: the operations of a region in the order of the text, and what each looks at and turns. No program is named here. -/
import Derived.Test.YteemnnajfiimlaaDoorSxI
namespace Go.Proofs.YteemnnajfiimlaaDoor.Sx
open Go.RowKit

/-! ### Slots -/
def putT (dst : Option Nat) (v : SW) (l : List SW) : List SW :=
  match dst with
  | some d => l.set d v
  | none => l
def denT (ρ : Nat → Value) (β : Nat → Nat) (l : List SW) : Array Value := (l.map (·.den ρ β)).toArray
theorem look_get : ∀ (l : List SW) (t : Nat), look l t = (l[t]?).getD .undef
  | [], _ => by simp [look]
  | _ :: _, 0 => by simp [look]
  | _ :: l, n + 1 => by simp [look, look_get l n]
theorem Trel.of_den [Outer] (ρ : Nat → Value) (β : Nat → Nat) (l : List SW) : Trel ρ β l (denT ρ β l) := by
  refine ⟨by simp [denT], fun t v h => .inr ?_⟩
  rw [look_get]
  simp only [denT, List.getElem?_toArray, List.getElem?_map] at h
  cases hl : l[t]? with
  | none => rw [hl] at h; cases h
  | some x => rw [hl] at h; simp at h; simp [← h]
theorem Trel.getD [Outer] {ρ : Nat → Value} {β : Nat → Nat} {l : List SW} {tmps : Array Value} (h : Trel ρ β l tmps) {t : Nat} (hd : look l t ≠ .dead) : tmps.getD t undef = (look l t).den ρ β := by
  cases hv : tmps[t]? with
  | none =>
    have : l[t]? = none := by
      have := h.1
      simp only [Array.getElem?_eq_none_iff] at hv
      simp only [List.getElem?_eq_none_iff]; omega
    rw [look_get, this]
    simp only [Array.getD_eq_getD_getElem?, hv]; rfl
  | some v =>
    rcases h.2 t v hv with h' | h'
    · exact absurd h' hd
    · simp only [Array.getD_eq_getD_getElem?, hv, Option.getD_some, h']
theorem Trel.put [Outer] {ρ : Nat → Value} {β : Nat → Nat} {l : List SW} {a : Act} (h : Trel ρ β l a.tmps) (dst : Option Nat) (v : SW) {x : Value} (hx : x = v.den ρ β) : Trel ρ β (putT dst v l) (a.put dst x).tmps := by
  cases dst with
  | none => exact h
  | some d =>
    refine ⟨by simp [Act.put, putT, h.1], fun t u hu => ?_⟩
    simp only [Act.put] at hu
    by_cases hdt : d = t
    · subst hdt
      have hlt : d < a.tmps.size := by
        have := (Array.getElem?_eq_some_iff.1 hu).1
        simpa using this
      have e : u = x := by
        rw [Array.getElem?_setIfInBounds_self_of_lt hlt] at hu
        exact (Option.some.inj hu).symm
      refine .inr ?_
      rw [e, hx, look_get]
      simp [putT, h.1 ▸ hlt]
    · rw [Array.getElem?_setIfInBounds_ne hdt] at hu
      have : look (putT (some d) v l) t = look l t := by simp only [putT, look_get, List.getElem?_set_ne hdt]
      rw [this]
      exact h.2 t u hu
theorem Trel.names {ρ : Nat → Value} {β β' : Nat → Nat} {l : List SW} {tmps : Array Value} (h : Trel ρ β l tmps) (hn : ∀ t, ∀ i ∈ (look l t).ids, β' i = β i) : Trel ρ β' l tmps :=
  ⟨h.1, fun t v hv => (h.2 t v hv).imp id fun e => by rw [e, SW.den_names (hn t)]⟩
theorem putT_length (dst : Option Nat) (v : SW) (l : List SW) : (putT dst v l).length = l.length := by cases dst <;> simp [putT]
theorem look_putT_ne [Outer] {dst : Option Nat} {v : SW} {l : List SW} {t : Nat} (h : dst ≠ some t) : look (putT dst v l) t = look l t := by
  cases dst with
  | none => rfl
  | some d =>
    have : d ≠ t := fun e => h (by rw [e])
    simp only [putT, look_get, List.getElem?_set_ne this]
theorem look_putT_self [Outer] {v : SW} {l : List SW} {t : Nat} (h : t < l.length) : look (putT (some t) v l) t = v := by
  simp [putT, look_get, h]

def opnd (tmps : List SW) : Operand → Option SW
  | .tmp t => match look tmps t with
    | .dead => none
    | x => some x
  | .const v => match SV.ofValue v with
    | some s => some (.one s)
    | none => none
  | .global _ => none
  | .func f => some (.one (.cell (.func f [])))
def opnds (tmps : List SW) : List Operand → Option (List SW)
  | [] => some []
  | x :: xs => match opnd tmps x with
    | none => none
    | some y => match opnds tmps xs with
      | none => none
      | some ys => some (y :: ys)
theorem opnd_tmp {tmps : List SW} {t : Nat} {y : SW} (h : opnd tmps (.tmp t) = some y) : y = look tmps t ∧ look tmps t ≠ .dead := by
  simp only [opnd] at h
  split at h
  · cases h
  · rename_i hd; cases h; exact ⟨rfl, fun e => hd e⟩
theorem opnd_den [Outer] {tmps tm' : List SW} {x : Operand} {y : SW} {ρ : Nat → Value} {β : Nat → Nat} {a : Act} (h : opnd tmps x = some y) (ha : Trel ρ β tm' a.tmps) (hl : ∀ t, x = .tmp t → look tm' t = look tmps t) : a.eval x = y.den ρ β := by
  cases x with
  | tmp t =>
    obtain ⟨rfl, hd⟩ := opnd_tmp h
    rw [← hl t rfl] at hd ⊢
    exact ha.getD hd
  | const v =>
    simp only [opnd] at h
    split at h
    · rename_i s hs
      cases h
      simp only [Act.eval, SW.den_one, SV.ofValue_den hs]
    · cases h
  | global g => cases h
  | func f => simp only [opnd, Option.some.injEq] at h; subst h; rfl
theorem opnds_den [Outer] {tmps tm' : List SW} {ρ : Nat → Value} {β : Nat → Nat} {a : Act} (ha : Trel ρ β tm' a.tmps) : ∀ {xs : List Operand} {ys : List SW}, opnds tmps xs = some ys → (∀ t, Operand.tmp t ∈ xs → look tm' t = look tmps t) →
    xs.map a.eval = ys.map (·.den ρ β)
  | [], ys, h, _ => by cases h; rfl
  | x :: xs, ys, h, hl => by
    simp only [opnds] at h
    split at h
    · cases h
    · rename_i y hy
      split at h
      · cases h
      · rename_i ys' hys
        cases h
        simp only [List.map_cons]
        rw [opnd_den hy ha fun t e => hl t (by rw [e]; exact .head _), opnds_den ha hys fun t ht => hl t (.tail _ ht)]
theorem opnds_ids [Outer] {tmps tm' : List SW} : ∀ {xs : List Operand} {ys : List SW}, opnds tmps xs = some ys → (∀ t, Operand.tmp t ∈ xs → look tm' t = look tmps t) → ∀ y ∈ ys, ∀ i ∈ y.ids, ∃ t, i ∈ (look tm' t).ids
  | [], ys, h, _ => by cases h; simp
  | x :: xs, ys, h, hl => by
    simp only [opnds] at h
    split at h
    · cases h
    · rename_i y hy
      split at h
      · cases h
      · rename_i ys' hys
        cases h
        intro z hz i hi
        rcases List.mem_cons.1 hz with rfl | hz
        · cases x with
          | tmp t =>
            obtain ⟨rfl, _⟩ := opnd_tmp hy
            exact ⟨t, by rw [hl t (.head _)]; exact hi⟩
          | const v =>
            simp only [opnd] at hy
            split at hy
            · rename_i s hs
              cases hy
              simp only [SW.ids, ofValue_ids hs] at hi
              cases hi
            · cases hy
          | global g => cases hy
          | func f => simp only [opnd, Option.some.injEq] at hy; subst hy; cases hi
        · exact opnds_ids hys (fun t ht => hl t (.tail _ ht)) z hz i hi

/-! ### All names are below a number -/
def boundT (n : Nat) : List SW → Bool
  | [] => true
  | v :: l => ltAll n v.ids && boundT n l
def boundM (n : Nat) : Mem → Bool
  | [] => true
  | (i, some m) :: l => Nat.blt i n && ltAll n m.ids && boundM n l
  | (_, none) :: l => boundM n l
theorem boundT_look {n : Nat} : ∀ {l : List SW}, boundT n l = true → ∀ t, ∀ i ∈ (look l t).ids, i < n
  | [], _, t, i, hi => by simp [look, SW.ids] at hi
  | v :: l, h, 0, i, hi => by
    simp only [boundT, Bool.and_eq_true] at h
    exact ltAll_iff h.1 i hi
  | v :: l, h, t + 1, i, hi => by
    simp only [boundT, Bool.and_eq_true] at h
    exact boundT_look h.2 t i hi
theorem boundM_find {n : Nat} : ∀ {mem : Mem}, boundM n mem = true → ∀ i m, find i mem = some m → i < n ∧ ∀ j ∈ m.ids, j < n
  | [], _, i, m, h => by cases h
  | (k, some m') :: rest, h, i, m, hf => by
    simp only [boundM, Bool.and_eq_true, Nat.blt_eq] at h
    simp only [find] at hf
    split at hf
    · rename_i hik
      cases hf
      rw [Nat.eq_of_beq_eq_true hik]
      exact ⟨h.1.1, ltAll_iff h.1.2⟩
    · exact boundM_find h.2 i m hf
  | (k, none) :: rest, h, i, m, hf => by
    simp only [boundM] at h
    simp only [find] at hf
    split at hf
    · cases hf
    · exact boundM_find h i m hf

/-! ### Keys of memory -/
def keyIn (i : Nat) : Mem → Bool
  | [] => false
  | (j, _) :: l => Nat.beq i j || keyIn i l
def keysNodup : Mem → Bool
  | [] => true
  | (i, _) :: l => !keyIn i l && keysNodup l
def keysIn : Mem → Mem → Bool
  | [], _ => true
  | (i, _) :: l, mem => keyIn i mem && keysIn l mem
theorem setFs_find : ∀ {mem : Mem} {g : Nat → Option MB}, keysNodup mem = true → ∀ i, setFs g mem i = if keyIn i mem then find i mem else g i
  | [], g, _, i => rfl
  | (j, m) :: l, g, h, i => by
    simp only [keysNodup, Bool.and_eq_true, Bool.not_eq_true'] at h
    simp only [setFs, setFs_find h.2 i, find, keyIn]
    by_cases hij : i = j
    · subst hij
      simp [h.1, setF]
    · have hb : Nat.beq i j = false := by rw [Bool.eq_false_iff]; intro h; exact hij (Nat.eq_of_beq_eq_true h)
      simp [hb, setF, hij]
theorem keysIn_find : ∀ {old new : Mem}, keysIn old new = true → ∀ i, keyIn i new = false → find i old = none
  | [], _, _, _, _ => rfl
  | (j, m) :: l, new, h, i, hn => by
    simp only [keysIn, Bool.and_eq_true] at h
    simp only [find]
    split
    · rename_i hij
      rw [← Nat.eq_of_beq_eq_true hij, hn] at h
      exact absurd h.1 (by simp)
    · exact keysIn_find h.2 i hn
theorem keyIn_none : ∀ {mem : Mem} {i : Nat}, keyIn i mem = false → find i mem = none
  | [], _, _ => rfl
  | (j, m) :: l, i, h => by
    simp only [keyIn, Bool.or_eq_false_iff] at h
    simp only [find, h.1, Bool.false_eq_true, if_false, keyIn_none h.2]
/-- A memory that knows all that the older one knows, laid over it, is itself. -/
theorem setFs_over [Outer] {old new : Mem} (h1 : keysNodup new = true) (h2 : keysIn old new = true) : setFs (fun i => find i old) new = fun i => find i new := by
  funext i
  rw [setFs_find h1]
  split
  · rfl
  · rename_i h
    have h : keyIn i new = false := by simpa using h
    rw [keysIn_find h2 i h, keyIn_none h]

/-! ### One operation of a region -/
structure Rec where
  dst : Option Nat
  looks : List Nat
  val : SW
  upd : Mem
  fp : List Nat
  whole : Bool
  lo : Nat
  hi : Nat
  nv : Nat
structure Ret where
  val : SW
  mem : Mem
  nx : Nat
  nv : Nat
abbrev Callee := FuncId → List SW → Mem → Nat → Nat → R Ret

def wantedS (asm : Asm) (ops : Array Oper) (tmps : List SW) (o : Oper) : R Bool :=
  match o.guard with
  | none => .ok true []
  | some (j, want) => match (ops.toList[j]?).bind (·.dst) with
    | none => .ok false []
    | some t => match look tmps t with
      | .one (.cell (.bool b)) => match decideB asm b with
        | some x => .ok (x == want) []
        | none => .split (atomB b) []
      | .undef => .ok false []
      | _ => .bad "guard"
def inlineOf (cfg : Cfg) (op : Op) (args : List SW) : Option (FuncId × List SW) :=
  match op, args with
  | .call ⟨.value _, _, _⟩, .one (.cell (.func f caps)) :: rest => match memN f cfg.inl with
    | true => some (f, rest ++ (capsV caps).map .one)
    | false => none
  | .call ⟨.value _, _, _⟩, .one (.cell (.meth f bs)) :: rest => match memN f cfg.inl with
    | true => some (f, .one (.agg (bs.map BP.toP)) :: rest)
    | false => none
  | _, _ => none
def boundS (st : St) : Bool := boundT st.nx st.tmps && boundM st.nx st.mem
def stepLoc (P : Program) (cfg : Cfg) (asm : Asm) (ops : Array Oper) (st : St) (o : Oper) (args : List SW) : R Rec :=
  (opLoc P cfg asm st.nx st.nv o.op args ((acc cfg o.op args).map fun i => find i st.mem)).bind fun r =>
    match r.news with
    | [] => .ok ⟨o.dst, o.looksAt ops, r.val, r.upd, acc cfg o.op args, false, st.nx, st.nx, r.nv⟩ []
    | n :: ns => match boundS st with
      | true => .ok ⟨o.dst, o.looksAt ops, r.val, r.upd, acc cfg o.op args, false, st.nx, st.nx + (n :: ns).length, r.nv⟩ []
      | false => .bad "names"
def stepInl (callee : Callee) (ops : Array Oper) (st : St) (o : Oper) (f : FuncId) (as : List SW) : R Rec :=
  (callee f as st.mem st.nx st.nv).bind fun r =>
    match boundS st && keysNodup r.mem && keysIn st.mem r.mem with
    | true => .ok ⟨o.dst, o.looksAt ops, r.val, r.mem, [], true, st.nx, r.nx, r.nv⟩ []
    | false => .bad "names of a call"
def stepOp (P : Program) (cfg : Cfg) (asm : Asm) (callee : Callee) (ops : Array Oper) (st : St) (o : Oper) : R Rec :=
  (wantedS asm ops st.tmps o).bind fun wnt =>
    match wnt with
    | false => .ok ⟨o.dst, o.looksAt ops, .undef, [], [], false, st.nx, st.nx, st.nv⟩ []
    | true => match opnds st.tmps o.op.operands.toList with
      | none => .bad "operand"
      | some args => match inlineOf cfg o.op args with
        | some (f, as) => stepInl callee ops st o f as
        | none => stepLoc P cfg asm ops st o args
def St.after (st : St) (r : Rec) : St := ⟨putT r.dst r.val st.tmps, putMs r.upd st.mem, r.hi, r.nv⟩
def runOps (P : Program) (cfg : Cfg) (asm : Asm) (callee : Callee) (ops : Array Oper) : List Oper → St → R (St × List Rec)
  | [], st => .ok (st, []) []
  | o :: os, st => (stepOp P cfg asm callee ops st o).bind fun r =>
    (runOps P cfg asm callee ops os (st.after r)).bind fun x => .ok (x.1, r :: x.2) []

/-- What a name keeps through an operation. -/
def Rec.old (r : Rec) (i : Nat) : Prop := i < r.lo ∨ (r.whole = false ∧ r.hi ≤ i)

/-- Functions that are entered: what their run says is so. -/
def CalleeOk [Outer] (P : Program) (ρ : Nat → Value) (callee : Callee) : Prop :=
  ∀ f args mem nx nv ret evs, callee f args mem nx nv = .ok ret evs → Holds P ρ evs → ∀ β inh w0 w, Mrel ρ β inh w0 (fun i => find i mem) w →
    ∃ fn, P.funcs[f]? = some fn ∧ fn.body.isSome = true ∧ Calls P f (denT ρ β args) w fun e w' => ∃ β', (∀ i, i < nx → β' i = β i) ∧ e = .returned (ret.val.den ρ β') ∧ Mrel ρ β' inh w0 (fun i => find i ret.mem) w'

section
variable {P : Program} {ρ : Nat → Value} {β : Nat → Nat} {inh : List Nat} {w0 w : World} {cfg : Cfg} {asm : Asm} {callee : Callee} {ops : Array Oper} {st : St} {o : Oper} {r : Rec} {evs : List Ev}

theorem wantedS_eq [Outer] {tm' : List SW} {a : Act} {b : Bool} (hasm : Asm.den ρ asm) (h : wantedS asm ops st.tmps o = .ok b evs) (ha : Trel ρ β tm' a.tmps) (hl : ∀ t ∈ o.looksAt ops, look tm' t = look st.tmps t) :
    Region.wanted o (yielded ops a.tmps) = b := by
  unfold wantedS at h
  unfold Region.wanted
  split at h
  · rename_i hg; cases h; rw [hg]
  · rename_i j want hg
    rw [hg]
    simp only
    have hy : yielded ops a.tmps j = match ((ops[j]?).bind (·.dst)).bind (a.tmps[·]?) with | some (.bool b) => some b | _ => none := rfl
    rw [Array.getElem?_toList] at h
    cases hd : (ops[j]?).bind (·.dst) with
    | none =>
      rw [hd] at h hy
      simp only [Option.bind_none] at hy
      cases h
      rw [hy]; rfl
    | some t =>
      rw [hd] at h hy
      simp only [Option.bind_some] at h hy
      have hlt : look tm' t = look st.tmps t := hl t (by
        refine List.mem_append_right _ ?_
        simp only [hg, hd]; simp)
      split at h
      · rename_i bt hbt
        rw [hbt] at hlt
        have hs : a.tmps[t]? = some (.bool (bt.den ρ)) := by
          cases hc : a.tmps[t]? with
          | none =>
            exfalso
            have h1 : tm'[t]? = none := by
              have := ha.1
              simp only [Array.getElem?_eq_none_iff] at hc
              simp only [List.getElem?_eq_none_iff]; omega
            rw [look_get, h1] at hlt
            cases hlt
          | some z =>
            rcases ha.2 t z hc with h' | h'
            · rw [h'] at hlt; cases hlt
            · rw [h', hlt]; rfl
        split at h
        · rename_i x hx
          cases h
          rw [hy, hs]
          simp only [decideB_den hasm hx]
          cases x <;> cases want <;> rfl
        · cases h
      · rename_i hu
        cases h
        rw [hu] at hlt
        have : yielded ops a.tmps j = none := by
          rw [hy]
          cases hc : a.tmps[t]? with
          | none => rfl
          | some z =>
            rcases ha.2 t z hc with h' | h'
            · rw [h'] at hlt; cases hlt
            · rw [h', hlt]; rfl
        rw [this]; rfl
      · cases h

theorem looks_operand {t : Nat} (h : Operand.tmp t ∈ o.op.operands.toList) : t ∈ o.looksAt ops := by
  refine List.mem_append_left _ (List.mem_filterMap.2 ⟨_, h, rfl⟩)

/-- What the operation is to give, behind whatever other memory that agrees where it looks. -/
theorem stepOp_sound [Outer] (hN : ∀ (f : Nat) (fn : Func), P.funcs[f]? = some fn → (fn.name == "runtime.NumGoroutine") = false) (hC : CalleeOk P ρ callee) (hasm : Asm.den ρ asm)
    (h : stepOp P cfg asm callee ops st o = .ok r evs) (hev : Holds P ρ evs) {tm' : List SW} {mm' : Nat → Option MB} {a : Act} (hlook : ∀ t ∈ o.looksAt ops, look tm' t = look st.tmps t)
    (hmem : ∀ b ∈ r.fp, mm' b = find b st.mem) (hwhole : r.whole = true → mm' = fun i => find i st.mem)
    (hft : ∀ t, ∀ i ∈ (look tm' t).ids, r.old i) (hfm : ∀ i m, mm' i = some m → r.old i ∧ ∀ j ∈ m.ids, r.old j)
    (ha : Trel ρ β tm' a.tmps) (hM : Mrel ρ β inh w0 mm' w) :
    (Region.wanted o (yielded ops a.tmps) = true ∧ ∀ (next : Act → World → Prop) (Q : Exit → Act → World → Prop), (∀ v w' β', (∀ i, r.old i → β' i = β i) → v = r.val.den ρ β' → Mrel ρ β' inh w0 (setFs mm' r.upd) w' → next (a.put o.dst v) w') → o.wp P a w next Q)
    ∨ (Region.wanted o (yielded ops a.tmps) = false ∧ r.val = .undef ∧ r.upd = []) := by
  unfold stepOp at h
  obtain ⟨wnt, e1, e2, h1, h2, rfl⟩ := R.bind_ok h
  have hw := wantedS_eq (β := β) hasm h1 ha hlook
  rw [hw]
  cases wnt with
  | false =>
    simp only at h2
    cases h2
    exact .inr ⟨rfl, rfl, rfl⟩
  | true =>
    refine .inl ⟨rfl, ?_⟩
    simp only at h2
    split at h2
    · cases h2
    · rename_i args hargs
      have hops : ∀ t, Operand.tmp t ∈ o.op.operands.toList → look tm' t = look st.tmps t := fun t ht => hlook t (looks_operand ht)
      have hden := opnds_den ha hargs hops
      split at h2
      · rename_i f as hinl
        unfold stepInl at h2
        obtain ⟨ret, e3, e4, h3, h4, rfl⟩ := R.bind_ok h2
        split at h4
        · rename_i hb
          cases h4
          simp only [Bool.and_eq_true] at hb
          have hmm := hwhole rfl
          subst hmm
          obtain ⟨fn, hfn, hbody, hcalls⟩ := hC f as st.mem st.nx st.nv ret e3 h3 (fun e he => hev e (by simp [he])) β inh w0 w hM
          unfold inlineOf at hinl
          split at hinl
          · rename_i fo cargs argTypes f' caps rest hop
            split at hinl
            · cases hinl
              rw [hop] at hden
              have ex : a.eval fo = Value.func (.func f) #[] (caps.map fun c => Value.pointer (some ⟨β c.1, c.2, none⟩)).toArray ∧ cargs.toList.map a.eval = rest.map (·.den ρ β) := by
                simpa [Op.operands, Call.operands, SW.den, SV.den, Cell.den] using hden
              have hca : cargs.map a.eval = (rest.map (·.den ρ β)).toArray := by
                apply Array.toList_inj.1
                rw [Array.toList_map, ex.2]
              have hall : denT ρ β (rest ++ (capsV caps).map .one) = (rest.map (·.den ρ β)).toArray ++ (caps.map fun c => Value.pointer (some ⟨β c.1, c.2, none⟩)).toArray := by
                have e : (List.map SW.one (capsV caps)).map (·.den ρ β) = caps.map fun c => Value.pointer (some ⟨β c.1, c.2, none⟩) := by
                  rw [List.map_map]; exact capsV_den caps
                simp only [denT, List.map_append, e]
                simp
              intro next Q hK
              unfold Oper.wp execOp
              simp only [hop, resolve, Deferred.ofValue, ex.1, hca, Sem.run_bind, Sem.run_pure, Result.andThen_ok, invoke, Array.empty_append, names_pure P hN hfn hbody, Oper.upon_enter]
              rw [← hall]
              refine hcalls.mono fun e w' ⟨β', hβ, he, hm⟩ => ?_
              subst he
              refine hK _ _ β' (fun i hi => hβ i ?_) rfl ?_
              · rcases hi with hi | hi
                · exact hi
                · exact absurd hi.1 (by simp)
              · rw [setFs_over hb.1.2 hb.2]; exact hm
            · cases hinl
          · rename_i fo cargs argTypes f' bs rest hop
            split at hinl
            · cases hinl
              rw [hop] at hden
              have ex : a.eval fo = Value.func (.func f) #[.agg (densB ρ bs).toArray] #[] ∧ cargs.toList.map a.eval = rest.map (·.den ρ β) := by
                simpa [Op.operands, Call.operands, SW.den, SV.den, Cell.den] using hden
              have hca : cargs.map a.eval = (rest.map (·.den ρ β)).toArray := by
                apply Array.toList_inj.1
                rw [Array.toList_map, ex.2]
              have hall : denT ρ β (SW.one (.agg (bs.map BP.toP)) :: rest) = #[.agg (densB ρ bs).toArray] ++ (rest.map (·.den ρ β)).toArray ++ #[] := by
                simp [denT, SW.den, SV.den, bps_den]
              intro next Q hK
              unfold Oper.wp execOp
              simp only [hop, resolve, Deferred.ofValue, ex.1, hca, Sem.run_bind, Sem.run_pure, Result.andThen_ok, invoke, names_pure P hN hfn hbody, Oper.upon_enter]
              rw [← hall]
              refine hcalls.mono fun e w' ⟨β', hβ, he, hm⟩ => ?_
              subst he
              refine hK _ _ β' (fun i hi => hβ i ?_) rfl ?_
              · rcases hi with hi | hi
                · exact hi
                · exact absurd hi.1 (by simp)
              · rw [setFs_over hb.1.2 hb.2]; exact hm
            · cases hinl
          · cases hinl
        · cases h4
      · unfold stepLoc at h2
        obtain ⟨res, e3, e4, h3, h4, rfl⟩ := R.bind_ok h2
        have hev3 : Holds P ρ e3 := fun e he => hev e (by simp [he])
        have key : r.fp = acc cfg o.op args ∧ r.val = res.val ∧ r.upd = res.upd ∧ r.whole = false ∧ (∀ i, r.old i → i ∉ res.news) := by
          split at h4
          · rename_i hn
            cases h4
            refine ⟨rfl, rfl, rfl, rfl, fun i _ => by rw [hn]; simp⟩
          · rename_i n ns hn
            split at h4
            · cases h4
              refine ⟨rfl, rfl, rfl, rfl, fun i hi hm => ?_⟩
              have := opLoc_news h3 i hm
              rw [hn] at this
              rcases hi with hi | hi
              · exact absurd hi (Nat.not_lt.2 this.1)
              · exact absurd hi.2 (Nat.not_le.2 this.2)
            · cases h4
        obtain ⟨k1, k2, k3, k4, k5⟩ := key
        have hfetch : (acc cfg o.op args).map (fun i => find i st.mem) = (acc cfg o.op args).map mm' := List.map_congr_left fun b hb => (hmem b (by rw [k1]; exact hb)).symm
        rw [hfetch] at h3
        have hy := opLoc_sound (P := P) (β := β) (w := w) (inh := inh) (w0 := w0) hN hasm hev3 hM (fun i m hm => ⟨k5 i (hfm i m hm).1, fun j hj => k5 j ((hfm i m hm).2 j hj)⟩) (fun x hx i hi hxi => by
            obtain ⟨t, ht⟩ := opnds_ids hargs hops x hx _ hxi
            exact k5 i (hft t i ht) hi) hden h3
        intro next Q hK
        refine hy next Q fun v w' β' hβ hv hm => hK v w' β' (fun i hi => hβ i (k5 i hi)) (by rw [k2]; exact hv) (by rw [k3]; exact hm)
end
end Go.Proofs.YteemnnajfiimlaaDoor.Sx
