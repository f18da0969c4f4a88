/- Symbolic execution: one operation is run as its terms say. No program is named here. -/
import Derived.Test.YteemnnajfiimlaaDoorSxH
import Derived.Laws.Small
import Derived.Laws.Cover1
import Derived.Laws.Slices
import Derived.Laws.DeepStrings4
namespace Go.Proofs.YteemnnajfiimlaaDoor.Sx
open Go.RowKit

section
variable {P : Program} {ρ : Nat → Value} {β : Nat → Nat} {inh : List Nat} {w0 w : World} {mm : Nat → Option MB} {cfg : Cfg} {asm : Asm} {own nv : Nat} {res : OpRes} {evs : List Ev}

/-- What an operation is to give. -/
def Yield [Outer] (P : Program) (ρ : Nat → Value) (β : Nat → Nat) (inh : List Nat) (w0 : World) (mm : Nat → Option MB) (res : OpRes) (o : Oper) (a : Act) (w : World) : Prop :=
  ∀ (next : Act → World → Prop) (Q : Exit → Act → World → Prop), (∀ v w' β', (∀ i, i ∉ res.news → β' i = β i) → v = res.val.den ρ β' → Mrel ρ β' inh w0 (setFs mm res.upd) w' → next (a.put o.dst v) w') → o.wp P a w next Q

theorem yield_value [Outer] {o : Oper} {a : Act} (hM : Mrel ρ β inh w0 mm w) (hrun : (execOp a.eval o).run P w = .ok (.value (res.val.den ρ β)) w) (hu : res.upd = []) : Yield P ρ β inh w0 mm res o a w := by
  intro next Q h
  unfold Oper.wp
  rw [hrun, Oper.upon_value]
  exact h _ _ β (fun _ _ => rfl) rfl (by rw [hu]; exact hM)

theorem hSliceLit_news {t : TypeId} {len : Nat} {parts : List (Nat × SW)} (h : hSliceLit P own t len parts nv = .ok res evs) : res.news = [own] := by
  unfold hSliceLit at h
  split at h
  · split at h
    · split at h
      · split at h
        · split at h
          · cases h; rfl
          · cases h
        · cases h
      · unfold hSliceLitN at h
        (repeat' split at h) <;> first | (cases h; rfl) | cases h
    · cases h
  · cases h

theorem opLoc_news [Outer] {op : Op} {args : List SW} {mbs : List (Option MB)} (h : opLoc P cfg asm own nv op args mbs = .ok res evs) : ∀ i ∈ res.news, own ≤ i ∧ i < own + res.news.length := by
  have no : res.news = [] → ∀ i ∈ res.news, own ≤ i ∧ i < own + res.news.length := fun e i hi => by rw [e] at hi; cases hi
  cases op <;> simp only [opLoc, reduceCtorEq] at h
  case alloc t => unfold hAlloc at h; (repeat' split at h) <;> cases h; simp
  case box t x => unfold hBox at h; (repeat' split at h) <;> cases h; simp
  case buildSlice t len parts =>
    split at h
    · rw [hSliceLit_news h]; simp
    · cases h
  case build t parts => unfold hBuild okV at h; (repeat' split at h) <;> cases h <;> exact no rfl
  case load t x =>
    unfold loadR hLoadE at h
    (repeat' split at h) <;> first | (cases h; exact no rfl) | cases h | skip
    all_goals (unfold hLoad okV okC at h; (repeat' split at h) <;> first | (cases h; exact no rfl) | cases h)
  case store t x y =>
    unfold storeR hStoreE at h
    (repeat' split at h) <;> first | (cases h; exact no rfl) | cases h | skip
    all_goals (unfold hStore at h; (repeat' split at h) <;> first | (cases h; exact no rfl) | cases h)
  case binOp op t x y u =>
    unfold hBin hInt hStr hBoolEq hAgg hFunc okC at h
    (repeat' split at h) <;> first | (cases h; exact no rfl) | cases h
  case unOp op t x => unfold hUn okC at h; (repeat' split at h) <;> cases h <;> exact no rfl
  case convert s d x =>
    unfold hConvR hText hBytes hConv okC at h
    (repeat' split at h) <;> first | (cases h; exact no rfl) | (cases h; intro i hi; simp only [List.mem_cons, List.not_mem_nil, or_false] at hi; simp only [List.length_cons, List.length_nil]; omega) | cases h
  case makeFunc fn first captured => unfold hMakeFunc okC at h; (repeat' split at h) <;> cases h <;> exact no rfl
  case fieldAddr t x f => unfold hFieldAddr okC at h; (repeat' split at h) <;> cases h <;> exact no rfl
  case field t x f => unfold hField okV at h; (repeat' split at h) <;> cases h <;> exact no rfl
  case indexAddr t x y => unfold hIndexAddr okC at h; (repeat' split at h) <;> cases h <;> exact no rfl
  case index t x y => unfold hIndex okV at h; (repeat' split at h) <;> cases h <;> exact no rfl
  case extract x i => unfold hExtract okV at h; (repeat' split at h) <;> cases h <;> exact no rfl
  case slice t x lo hi mx => unfold hSub at h; (repeat' split at h) <;> first | (cases h; exact no rfl) | cases h
  case nilCheck x => unfold hNil okC at h; (repeat' split at h) <;> cases h <;> exact no rfl
  case pick c a b => unfold hPick okV at h; (repeat' split at h) <;> cases h <;> exact no rfl
  case move x => unfold okV at h; (repeat' split at h) <;> cases h <;> exact no rfl
  case assign x => unfold okV at h; (repeat' split at h) <;> cases h <;> exact no rfl
  case call c =>
    unfold opCall hLen hCall hMin hAppend okC at h
    (repeat' split at h) <;> first | (cases h; exact no rfl) | (cases h; intro i hi; simp only [List.mem_cons, List.not_mem_nil, or_false] at hi; simp only [List.length_cons, List.length_nil]; omega) | (cases h; intro i hi; rw [List.mem_range'_1] at hi; simp only [List.length_range']; exact hi) | cases h

theorem hSub_run [Outer] {t : TypeId} {x : SW} {lo hi : Option SW} {nv : Nat} {res : OpRes} {evs : List Ev} (h : hSub P t x lo hi nv = .ok res evs) (hev : Holds P ρ evs) :
    (Instr.sliceAt t (x.den ρ β) (lo.map (·.den ρ β)) (hi.map (·.den ρ β)) none).run P w = .ok (res.val.den ρ β) w ∧ res.upd = [] := by
  have pos : ∀ {a b : Tm}, (mkNo (mkLt a b)).den ρ = true → b.i ρ ≤ a.i ρ := fun {a b} h => by
    rw [mkNo_den, mkLt_den] at h
    simpa using h
  unfold hSub at h
  split at h
  · rename_i s hu
    split at h
    · rename_i k a k' b
      cases h
      have h1 := pos (hev _ (.head _))
      have h2 := pos (hev _ (.tail _ (.head _)))
      have h3 := pos (hev _ (.tail _ (.tail _ (.head _))))
      rw [mkLen_den] at h3
      have h1 : 0 ≤ a.i ρ := h1
      refine ⟨?_, rfl⟩
      rw [run_sliceAt_string _ _ _ _ _ _ hu]
      show (Instr.slice t (.string (s.s ρ)) (some (.int k (a.i ρ))) (some (.int k' (b.i ρ))) none).run P w = _
      rw [run_slice_string_if w t _ k k' _ _ hu, if_pos ⟨by omega, h3⟩, if_pos ⟨h1, h2⟩]
      rfl
    · rename_i k a
      cases h
      have h1 := pos (hev _ (.head _))
      have h3 := pos (hev _ (.tail _ (.head _)))
      rw [mkLen_den] at h3
      have h1 : 0 ≤ a.i ρ := h1
      refine ⟨?_, rfl⟩
      rw [run_sliceAt_string _ _ _ _ _ _ hu]
      show (Instr.slice t (.string (s.s ρ)) (some (.int k (a.i ρ))) none none).run P w = .ok (.string ((s.s ρ).extract (a.i ρ).toNat ((mkLen s).i ρ).toNat)) w
      rw [run_slice_string_l w t _ hu k _ h1 h3, mkLen_den, Int.toNat_natCast]
    · rename_i k b
      cases h
      have h1 := pos (hev _ (.head _))
      have h3 := pos (hev _ (.tail _ (.head _)))
      rw [mkLen_den] at h3
      have h1 : 0 ≤ b.i ρ := h1
      refine ⟨?_, rfl⟩
      rw [run_sliceAt_string _ _ _ _ _ _ hu]
      show (Instr.slice t (.string (s.s ρ)) none (some (.int k (b.i ρ))) none).run P w = _
      rw [run_slice_string_h w t _ hu k _ h1 h3]
      rfl
    · cases h
  · cases h
theorem hMin_run {xs : List SW} {nv : Nat} {res : OpRes} {evs : List Ev} (h : hMin .lss xs nv = .ok res evs) (ts : Array TypeId) (ty : TypeId) : (Builtin.min_ ts ty (xs.map (·.den ρ β)).toArray).run P w = .ok (res.val.den ρ β) w ∧ res.upd = [] := by
  unfold hMin at h
  split at h
  · simp only [okC] at h
    cases h
    refine ⟨?_, rfl⟩
    exact run_min_int2 w ts ty _ _ _ _
  · simp only [okC] at h
    cases h
    refine ⟨?_, rfl⟩
    exact run_min_int3 w ts ty _ _ _ _ _ _
  · cases h
theorem hMax_run {xs : List SW} {nv : Nat} {res : OpRes} {evs : List Ev} (h : hMin .gtr xs nv = .ok res evs) (ts : Array TypeId) (ty : TypeId) : (Builtin.max_ ts ty (xs.map (·.den ρ β)).toArray).run P w = .ok (res.val.den ρ β) w ∧ res.upd = [] := by
  unfold hMin at h
  split at h
  · simp only [okC] at h
    cases h
    refine ⟨?_, rfl⟩
    exact run_max_int2 w ts ty _ _ _ _
  · simp only [okC] at h
    cases h
    refine ⟨?_, rfl⟩
    exact run_max_int3 w ts ty _ _ _ _ _ _
  · cases h
theorem opLoc_sound [Outer] (hN : ∀ (f : Nat) (fn : Func), P.funcs[f]? = some fn → (fn.name == "runtime.NumGoroutine") = false) {o : Oper} {a : Act} {args : List SW} (hasm : Asm.den ρ asm) (hev : Holds P ρ evs) (hM : Mrel ρ β inh w0 mm w) (hF : FreshM mm res.news) (hA : ∀ x ∈ args, ∀ i ∈ res.news, i ∉ x.ids)
    (hargs : o.op.operands.toList.map a.eval = args.map (·.den ρ β)) (h : opLoc P cfg asm own nv o.op args ((acc cfg o.op args).map mm) = .ok res evs) : Yield P ρ β inh w0 mm res o a w := by
  obtain ⟨dst, op, ty, pos, after, guard⟩ := o
  have one : ∀ {x : Operand} {y : SW}, [a.eval x] = [y].map (·.den ρ β) → a.eval x = y.den ρ β := fun h => by simpa using h
  have two : ∀ {x x' : Operand} {y y' : SW}, [a.eval x, a.eval x'] = [y, y'].map (·.den ρ β) → a.eval x = y.den ρ β ∧ a.eval x' = y'.den ρ β := fun h => by simpa using h
  cases op <;> simp only [opLoc, reduceCtorEq] at h <;> simp only [Op.operands] at hargs
  case move x =>
    split at h
    · simp only [okV] at h; cases h
      exact yield_value hM (by unfold execOp; simp only [Sem.run_pure, one (by simpa using hargs)]) rfl
    · cases h
  case assign x =>
    split at h
    · simp only [okV] at h; cases h
      exact yield_value hM (by unfold execOp; simp only [Sem.run_pure, one (by simpa using hargs)]) rfl
    · cases h
  case pick c x y =>
    split at h
    · rename_i c' x' y'
      obtain ⟨t, h1, h2, h3, h4⟩ := hPick_run (β := β) hasm h
      have e : a.eval c = c'.den ρ β ∧ a.eval x = x'.den ρ β ∧ a.eval y = y'.den ρ β := by simpa using hargs
      refine yield_value hM ?_ h3
      unfold execOp
      simp only [e.1, e.2.1, e.2.2, h1, asBool, Sem.run_bind, Sem.run_pure, Result.andThen_ok, h2]
    · cases h
  case alloc t =>
    unfold hAlloc at h
    split at h
    · cases h
    · rename_i i hi
      split at h
      · cases h
      · rename_i z hz
        split at h
        · cases h
        · rename_i v hv
          cases h
          obtain ⟨w', β', e1, e2, e3⟩ := new_run (P := P) (t := t) (v := v) hM hF (by rw [ofValue_ids hv]; simp) z (by rw [SV.ofValue_den hv])
          intro next Q hK
          unfold Oper.wp execOp
          have hzv : (zeroValue t).run P w = .ok z w := by simp [zeroValue, typeInfo, hi, hz]
          simp only [Instr.alloc, Sem.run_bind, hzv, Result.andThen_ok, e2, Sem.run_pure, Oper.upon_value]
          exact hK _ _ β' (fun i hi => e1 i hi) rfl e3
  case box t x =>
    split at h
    · rename_i y
      unfold hBox at h
      split at h
      · rename_i v
        cases h
        obtain ⟨w', β', e1, e2, e3⟩ := new_run (P := P) (t := t) (v := v) hM hF (by simpa [SW.ids] using hA) (v.den ρ β) rfl
        intro next Q hK
        unfold Oper.wp execOp
        have ex : a.eval x = v.den ρ β := by simpa [SW.den_one] using hargs
        simp only [Instr.box, ex, Sem.run_bind, e2, Result.andThen_ok, Sem.run_pure, Oper.upon_value]
        exact hK _ _ β' (fun i hi => e1 i hi) rfl e3
      · cases h
    · cases h
  case build t parts =>
    split at h
    · rename_i l hl
      obtain ⟨cs, e1, e2, e3, e4⟩ := hBuild_built h ρ β
      have hp : parts.toList.map (fun x => a.eval x.2) = args.map (·.den ρ β) := by simpa [Function.comp_def] using hargs
      refine yield_value hM ?_ e3
      rw [e2]
      unfold execOp
      have hb : (Instr.build t (parts.map fun (i, x) => (i, a.eval x))).run P w = .ok (.agg cs) w := run_build w t _ cs (by rw [← e1, ← zipParts_den hl hp]; simp)
      simp only [Sem.run_bind, hb, Result.andThen_ok, Sem.run_pure]
    · cases h
  case buildSlice t len parts =>
    split at h
    · rename_i l hl
      have hp : parts.toList.map (fun x => a.eval x.2) = args.map (·.den ρ β) := by simpa [Function.comp_def] using hargs
      have hnews := hSliceLit_news h
      rw [hnews] at hF hA
      obtain ⟨w', β', e1, e2, e3, e4⟩ := hSliceLit_run (P := P) hM hF (fun x hx => hA _ (zipParts_mem hl x hx) own (.head _)) h (parts.map fun (i, x) => (i, a.eval x)) (by rw [← zipParts_den hl hp]; simp)
      intro next Q hK
      unfold Oper.wp execOp
      simp only [Sem.run_bind, e2, Result.andThen_ok, Sem.run_pure, Oper.upon_value]
      exact hK _ _ β' (fun i hi => e1 i (by rw [← hnews]; exact hi)) rfl e3
    · cases h
  case load t x =>
    split at h
    · rename_i b base e idx fo mb hmb
      have ex : a.eval x = (SW.one (.cell (.eptr b base e idx fo))).den ρ β := by simpa using hargs
      have hmb : mb = mm b := by
        simp only [acc, ptrId, List.map_cons, List.map_nil, List.cons.injEq, and_true] at hmb
        exact hmb.symm
      subst hmb
      obtain ⟨e1, e2, e3⟩ := hLoadE_run (P := P) hM (fun b' base' e' idx' fo' e => by cases e; rfl) h hev
      refine yield_value hM ?_ e2
      unfold execOp
      simp only [ex, Sem.run_bind, e1, Result.andThen_ok, Sem.run_pure]
    · rename_i y mb hne hmb
      have ex : a.eval x = y.den ρ β := by simpa using hargs
      have hb : ∃ b, mb = mm b ∧ ∀ b' off, y = .one (.cell (.ptr b' off)) → b' = b := by
        simp only [acc] at hmb
        unfold ptrId at hmb
        split at hmb
        · rename_i b off
          simp only [List.map_cons, List.map_nil, List.cons.injEq, and_true] at hmb
          exact ⟨b, hmb.symm, fun b' off' e => by cases e; rfl⟩
        · rename_i b base e idx fo
          exact absurd rfl (hne b base e idx fo)
        · cases hmb
      obtain ⟨b, rfl, hb⟩ := hb
      unfold loadR at h
      split at h
      · split at h
        · rename_i z hz
          obtain ⟨hden, b0, off, base, idx, rfl, rfl⟩ := asE_den hz
          cases hb b0 off rfl
          obtain ⟨e1, e2, e3⟩ := hLoadE_run (P := P) hM (fun b' base' e' idx' fo' e => by cases e; rfl) h hev
          refine yield_value hM ?_ e2
          unfold execOp
          simp only [ex, hden ρ β, Sem.run_bind, e1, Result.andThen_ok, Sem.run_pure]
        · cases h
      · obtain ⟨e1, e2, e3⟩ := hLoad_run (P := P) hM hb h
        refine yield_value hM ?_ e2
        unfold execOp
        simp only [ex, Sem.run_bind, e1, Result.andThen_ok, Sem.run_pure]
    · cases h
  case store t x y =>
    split at h
    · rename_i b base e idx fo v mb hmb
      have ex : a.eval x = (SW.one (.cell (.eptr b base e idx fo))).den ρ β ∧ a.eval y = v.den ρ β := by simpa using hargs
      have hmb : mb = mm b := by
        simp only [acc, ptrId, List.map_cons, List.map_nil, List.cons.injEq, and_true] at hmb
        exact hmb.symm
      subst hmb
      obtain ⟨w', e1, e2, e3, e4⟩ := hStoreE_run (P := P) hM (fun b' base' e' idx' fo' e => by cases e; rfl) h hev
      intro next Q hK
      unfold Oper.wp execOp
      simp only [ex.1, ex.2, Sem.run_bind, e1, Result.andThen_ok, Sem.run_pure, Oper.upon_skip]
      exact hK _ _ β (fun _ _ => rfl) (by rw [e2]; rfl) e4
    · rename_i p v mb hne hmb
      have ex : a.eval x = p.den ρ β ∧ a.eval y = v.den ρ β := by simpa using hargs
      have hb : ∃ b, mb = mm b ∧ ∀ b' off, p = .one (.cell (.ptr b' off)) → b' = b := by
        simp only [acc] at hmb
        unfold ptrId at hmb
        split at hmb
        · rename_i b off
          simp only [List.map_cons, List.map_nil, List.cons.injEq, and_true] at hmb
          exact ⟨b, hmb.symm, fun b' off' e => by cases e; rfl⟩
        · rename_i b base e idx fo
          exact absurd rfl (hne b base e idx fo)
        · cases hmb
      obtain ⟨b, rfl, hb⟩ := hb
      unfold storeR at h
      split at h
      · split at h
        · rename_i z hz
          obtain ⟨hden, b0, off, base, idx, rfl, rfl⟩ := asE_den hz
          cases hb b0 off rfl
          obtain ⟨w', e1, e2, e3, e4⟩ := hStoreE_run (P := P) hM (fun b' base' e' idx' fo' e => by cases e; rfl) h hev
          intro next Q hK
          unfold Oper.wp execOp
          simp only [ex.1, hden ρ β, ex.2, Sem.run_bind, e1, Result.andThen_ok, Sem.run_pure, Oper.upon_skip]
          exact hK _ _ β (fun _ _ => rfl) (by rw [e2]; rfl) e4
        · cases h
      · obtain ⟨w', e1, e2, e3, e4⟩ := hStore_run (P := P) hM hb h
        intro next Q hK
        unfold Oper.wp execOp
        simp only [ex.1, ex.2, Sem.run_bind, e1, Result.andThen_ok, Sem.run_pure, Oper.upon_skip]
        exact hK _ _ β (fun _ _ => rfl) (by rw [e2]; rfl) e4
    · cases h
  case nilCheck x =>
    split at h
    · rename_i y
      have ex : a.eval x = y.den ρ β := by simpa using hargs
      unfold hNil at h
      split at h
      · simp only [okC] at h; cases h
        exact yield_value hM (by unfold execOp; simp only [ex, SW.den, SV.den, Cell.den, Sem.run_pure]) rfl
      · simp only [okC] at h; cases h
        exact yield_value hM (by unfold execOp; simp only [ex, SW.den, SV.den, Cell.den, Sem.run_pure]) rfl
      · simp only [okC] at h; cases h
        exact yield_value hM (by unfold execOp; simp only [ex, SW.den, SV.den, Cell.den, Sem.run_pure]) rfl
      · cases h
    · cases h
  case binOp op t x y u =>
    split at h
    · rename_i p q
      have ex : a.eval x = p.den ρ β ∧ a.eval y = q.den ρ β := by simpa using hargs
      obtain ⟨e1, e2, e3, e4⟩ := hBin_run (P := P) (β := β) (w := w) (ox := x) (oy := y) hasm h hev
      refine yield_value hM ?_ e3
      unfold execOp
      simp only [ex.1, ex.2, Sem.run_bind, e1, Result.andThen_ok, e2, Sem.run_pure]
    · cases h
  case unOp op t x =>
    split at h
    · rename_i y
      have ex : a.eval x = y.den ρ β := by simpa using hargs
      obtain ⟨e1, e2, e3⟩ := hUn_run (P := P) (β := β) (w := w) h hev
      refine yield_value hM ?_ e2
      unfold execOp
      simp only [ex, Sem.run_bind, e1, Result.andThen_ok, Sem.run_pure]
    · cases h
  case convert s d x =>
    split at h
    · rename_i y
      have ex : a.eval x = y.den ρ β := by simpa using hargs
      unfold hConvR at h
      split at h
      · rename_i e hs hd
        obtain ⟨e1, e2, e3⟩ := hText_run (P := P) hs hd hM h hev
        refine yield_value hM ?_ e2
        unfold execOp
        simp only [ex, Sem.run_bind, e1, Result.andThen_ok, Sem.run_pure]
      · rename_i e hs hd
        obtain ⟨v, w', β', e1, e2, e3, e4⟩ := hBytes_run (P := P) hs hd hM hF h
        intro next Q hK
        unfold Oper.wp execOp
        simp only [ex, Sem.run_bind, e2, Result.andThen_ok, Sem.run_pure, Oper.upon_value]
        exact hK _ _ β' e1 e3 e4
      · obtain ⟨e1, e2, e3⟩ := hConv_run (P := P) (β := β) (w := w) h hev
        refine yield_value hM ?_ e2
        unfold execOp
        simp only [ex, Sem.run_bind, e1, Result.andThen_ok, Sem.run_pure]
    · cases h
  case makeFunc fn first captured =>
    unfold hMakeFunc at h
    split at h
    · rename_i f ps h0
      split at h
      · rename_i bs hb
        simp only [okC] at h; cases h
        obtain ⟨x, rfl⟩ : ∃ x, first = #[x] := by
          rcases first with ⟨_ | ⟨x, _ | ⟨y, l⟩⟩⟩
          · simp at h0
          · exact ⟨x, rfl⟩
          · simp at h0
        have hc : a.eval x = (SW.one (.agg ps)).den ρ β ∧ captured = #[] := by
          simpa using hargs
        obtain ⟨hx, rfl⟩ := hc
        refine yield_value hM ?_ rfl
        unfold execOp
        have h00 : (#[x] : Array Operand).map a.eval = #[.agg (densB ρ bs).toArray] := by
          simp [hx, SW.den, SV.den, bpsOf_den ρ β hb]
        have h01 : (#[] : Array Operand).map a.eval = #[] := by simp
        simp only [Instr.makeFunc, h00, h01, Sem.run_bind, Sem.run_pure, Result.andThen_ok]
        rfl
      · cases h
    · rename_i h0
      split at h
      · rename_i l hl
        simp only [okC] at h; cases h
        have h0 : first = #[] := by simpa using h0
        subst h0
        have hc : captured.toList.map a.eval = l.map fun c => Value.pointer (some ⟨β c.1, c.2, none⟩) := by rw [← ptrsOf_den hl]; simpa using hargs
        refine yield_value hM ?_ rfl
        unfold execOp
        have : captured.map a.eval = (l.map fun c => Value.pointer (some ⟨β c.1, c.2, none⟩)).toArray := by
          apply Array.toList_inj.1
          rw [Array.toList_map, hc]
        have h00 : (#[] : Array Operand).map a.eval = #[] := by simp
        simp only [Instr.makeFunc, h00, this, Sem.run_bind, Sem.run_pure, Result.andThen_ok]
        rfl
      · cases h
    · cases h
  case fieldAddr t x f =>
    split at h
    · rename_i y
      have ex : a.eval x = y.den ρ β := by simpa using hargs
      obtain ⟨e1, e2, e3⟩ := hFieldAddr_run (P := P) (ρ := ρ) (β := β) (w := w) h
      refine yield_value hM ?_ e2
      unfold execOp
      simp only [ex, Sem.run_bind, e1, Result.andThen_ok, Sem.run_pure]
    · cases h
  case field t x f =>
    split at h
    · rename_i y
      have ex : a.eval x = y.den ρ β := by simpa using hargs
      obtain ⟨e1, e2, e3⟩ := hField_run (P := P) (ρ := ρ) (β := β) (w := w) h
      refine yield_value hM ?_ e2
      unfold execOp
      simp only [ex, Sem.run_bind, e1, Result.andThen_ok, Sem.run_pure]
    · cases h
  case indexAddr t x y =>
    split at h
    · rename_i p q
      have ex : a.eval x = p.den ρ β ∧ a.eval y = q.den ρ β := by simpa using hargs
      obtain ⟨e1, e2, e3⟩ := hIndexAddr_run (P := P) (ρ := ρ) (β := β) (w := w) h hev
      refine yield_value hM ?_ e2
      unfold execOp
      simp only [ex.1, ex.2, Sem.run_bind, e1, Result.andThen_ok, Sem.run_pure]
    · cases h
  case index t x y =>
    split at h
    · rename_i p q
      have ex : a.eval x = p.den ρ β ∧ a.eval y = q.den ρ β := by simpa using hargs
      obtain ⟨e1, e2, e3⟩ := hIndex_run (P := P) (ρ := ρ) (β := β) (w := w) h hev
      refine yield_value hM ?_ e2
      unfold execOp
      simp only [ex.1, ex.2, Sem.run_bind, e1, Result.andThen_ok, Sem.run_pure]
    · cases h
  case extract x i =>
    split at h
    · rename_i y
      have ex : a.eval x = y.den ρ β := by simpa using hargs
      obtain ⟨e1, e2, e3⟩ := hExtract_run (P := P) (ρ := ρ) (β := β) (w := w) h
      refine yield_value hM ?_ e2
      unfold execOp
      simp only [ex, Sem.run_bind, e1, Result.andThen_ok, Sem.run_pure]
    · cases h
  case slice t x lo hi mx =>
    split at h
    · rename_i l u p q r
      have ex : a.eval x = p.den ρ β ∧ a.eval l = q.den ρ β ∧ a.eval u = r.den ρ β := by simpa using hargs
      obtain ⟨e1, e2⟩ := hSub_run (P := P) (ρ := ρ) (β := β) (w := w) h hev
      refine yield_value hM ?_ e2
      unfold execOp
      simp only [Option.map_some] at e1
      simp only [ex.1, ex.2.1, ex.2.2, Option.map_some, Option.map_none, Sem.run_bind, e1, Result.andThen_ok, Sem.run_pure]
    · rename_i l p q
      have ex : a.eval x = p.den ρ β ∧ a.eval l = q.den ρ β := by simpa using hargs
      obtain ⟨e1, e2⟩ := hSub_run (P := P) (ρ := ρ) (β := β) (w := w) h hev
      refine yield_value hM ?_ e2
      unfold execOp
      simp only [Option.map_some, Option.map_none] at e1
      simp only [ex.1, ex.2, Option.map_some, Option.map_none, Sem.run_bind, e1, Result.andThen_ok, Sem.run_pure]
    · rename_i u p r
      have ex : a.eval x = p.den ρ β ∧ a.eval u = r.den ρ β := by simpa using hargs
      obtain ⟨e1, e2⟩ := hSub_run (P := P) (ρ := ρ) (β := β) (w := w) h hev
      refine yield_value hM ?_ e2
      unfold execOp
      simp only [Option.map_some, Option.map_none] at e1
      simp only [ex.1, ex.2, Option.map_some, Option.map_none, Sem.run_bind, e1, Result.andThen_ok, Sem.run_pure]
    · cases h
  case call c =>
    obtain ⟨callee, cargs, argTypes⟩ := c
    unfold opCall at h
    split at h
    · rename_i x hc
      have hc : callee = _ := hc
      subst hc
      split at h
      · rename_i t ts ht
        have ht : argTypes.toList = t :: ts := ht
        have ex : cargs.toList.map a.eval = [x].map (·.den ρ β) := by simpa [Call.operands] using hargs
        have hca : cargs.map a.eval = #[x.den ρ β] := by
          apply Array.toList_inj.1; simpa using ex
        have h0 : argTypes[0]? = some t := by
          rw [← Array.getElem?_toList, ht]; rfl
        obtain ⟨e1, e2, e3⟩ := hLen_run (P := P) (ρ := ρ) (β := β) (w := w) h hev ty argTypes h0
        refine yield_value hM ?_ e2
        unfold execOp
        simp only [resolve, hca, Sem.run_bind, Sem.run_pure, Result.andThen_ok, invoke, builtin, e1]
      · cases h
    · rename_i ys _ _ hc
      have hc : callee = _ := hc
      subst hc
      have hca : cargs.map a.eval = (ys.map (·.den ρ β)).toArray := by
        apply Array.toList_inj.1
        rw [Array.toList_map]
        simpa [Call.operands] using hargs
      obtain ⟨e1, e2⟩ := hMin_run (P := P) (ρ := ρ) (β := β) (w := w) h argTypes ty
      refine yield_value hM ?_ e2
      unfold execOp
      simp only [resolve, hca, Sem.run_bind, Sem.run_pure, Result.andThen_ok, invoke, builtin, e1]
    · rename_i ys _ _ hc
      have hc : callee = _ := hc
      subst hc
      have hca : cargs.map a.eval = (ys.map (·.den ρ β)).toArray := by
        apply Array.toList_inj.1
        rw [Array.toList_map]
        simpa [Call.operands] using hargs
      obtain ⟨e1, e2⟩ := hMax_run (P := P) (ρ := ρ) (β := β) (w := w) h argTypes ty
      refine yield_value hM ?_ e2
      unfold execOp
      simp only [resolve, hca, Sem.run_bind, Sem.run_pure, Result.andThen_ok, invoke, builtin, e1]
    · rename_i s x hc
      have hc : callee = _ := hc
      subst hc
      split at h
      · rename_i t t' ht
        have ht : argTypes.toList = [t, t'] := ht
        split at h
        · rename_i htt
          have htt := Nat.eq_of_beq_eq_true htt
          subst htt
          have hat : argTypes = #[t, t] := by apply Array.toList_inj.1; rw [ht]
          have hca : cargs.map a.eval = #[s.den ρ β, x.den ρ β] := by
            apply Array.toList_inj.1
            rw [Array.toList_map]
            simpa [Call.operands] using hargs
          obtain ⟨v, w', β', e1, e2, e3, e4⟩ := hAppend_run (P := P) (ρ := ρ) (β := β) (ty := ty) (w := w) hM hF h hev
          intro next Q hK
          unfold Oper.wp execOp
          simp only [resolve, hca, hat, Sem.run_bind, Sem.run_pure, Result.andThen_ok, invoke, builtin, e2, Oper.upon_value]
          exact hK _ _ β' e1 e3 e4
        · cases h
      · cases h
    · rename_i fo f caps rest hc
      have hc : callee = _ := hc
      subst hc
      have ex : a.eval fo = Value.func (.func f) #[] (caps.map fun c => Value.pointer (some ⟨β c.1, c.2, none⟩)).toArray ∧ cargs.toList.map a.eval = rest.map (·.den ρ β) := by
        simpa [Call.operands, SW.den, SV.den, Cell.den] using hargs
      have hca : cargs.map a.eval = (rest.map (·.den ρ β)).toArray := by
        apply Array.toList_inj.1
        rw [Array.toList_map, ex.2]
      have hnd : (acc cfg (.call ⟨.value fo, cargs, argTypes⟩) (.one (.cell (.func f caps)) :: rest)).Nodup := by
        unfold acc
        dsimp only
        split
        · exact dedup_nodup _
        · exact .nil
      obtain ⟨fn, hfn, hb, hcalls⟩ := hCall_run (P := P) (ρ := ρ) (β := β) (w := w) hnd h hev hM hF
      intro next Q hK
      unfold Oper.wp execOp
      simp only [resolve, Deferred.ofValue, ex.1, hca, Sem.run_bind, Sem.run_pure, Result.andThen_ok, invoke, Array.empty_append, names_pure P hN hfn hb, Oper.upon_enter]
      exact hcalls.mono fun e w' ⟨β', hβ, he, hm⟩ => by subst he; exact hK _ _ β' hβ rfl hm
    · cases h
end
end Go.Proofs.YteemnnajfiimlaaDoor.Sx
