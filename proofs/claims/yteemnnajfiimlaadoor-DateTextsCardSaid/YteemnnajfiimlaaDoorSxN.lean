/- Symbolic execution: a function's text. No program is named here. -/
import Derived.Test.YteemnnajfiimlaaDoorSxM
namespace Go.Proofs.YteemnnajfiimlaaDoor.Sx
open Go.RowKit

/-! ### The state behind a loop -/
def shW (sh : Sh) (nv : Nat) : SW :=
  match shP sh nv with
  | .one c => .one (.cell c)
  | p => .one (.agg [p])
/-- The block of a list that the loop makes anew. -/
def dropList (x : SW) (mem : Mem) : Mem :=
  match x with
  | .one (.cell (.sl b _ _)) => putM b none mem
  | .one (.cell (.slice b _ _ _)) => putM b none mem
  | _ => mem
def havocT : List (Nat × Sh) → St → St
  | [], st => st
  | (t, sh) :: rest, st => match sh with
    | .list et e => havocT rest ⟨st.tmps.set t (.one (.cell (.sl st.nx (st.nx + 1) (.v st.nv)))), putM st.nx (some ⟨et, [.all (st.nv + 1)], some (st.nx + 1, e)⟩) (dropList (look st.tmps t) st.mem), st.nx + 2, st.nv + 2⟩
    | sh => havocT rest ⟨st.tmps.set t (shW sh st.nv), st.mem, st.nx, st.nv + 1⟩
def deadT : List Nat → List SW → List SW
  | [], tm => tm
  | t :: rest, tm => deadT rest (tm.set t .dead)
def havocM : List (Nat × List Sh) → Mem → Nat → Option (Mem × Nat)
  | [], mem, nv => some (mem, nv)
  | (i, sh) :: rest, mem, nv => match find i mem with
    | none => none
    | some m => havocM rest (putM i (some ⟨m.ty, shPs sh nv, m.cap⟩) mem) (nv + sh.length)
def dropM : List Nat → Mem → Mem
  | [], mem => mem
  | i :: rest, mem => dropM rest (putM i none mem)
def havoc (sp : LoopSpec) (st : St) : Option St :=
  match havocT sp.slots ⟨deadT sp.dead st.tmps, dropM sp.drop st.mem, st.nx, st.nv⟩ with
  | st1 => match havocM sp.blocks st1.mem st1.nv with
    | none => none
    | some (mem, nv) => some ⟨st1.tmps, mem, st1.nx, nv⟩
def lookLoop (f k : Nat) : List ((Nat × Nat) × LoopSpec) → Option LoopSpec
  | [] => none
  | ((g, j), sp) :: rest => if Nat.beq f g && Nat.beq k j then some sp else lookLoop f k rest
def countLoops : Code → Nat
  | .seq a b => countLoops a + countLoops b
  | .cond _ a b => countLoops a + countLoops b
  | .block _ c => countLoops c
  | .loop c => countLoops c + 1
  | _ => 0
theorem countLoops_eq : ∀ (c : Code), countLoops c = (loopsOf c).length := by
  intro c
  induction c with
  | seq a b iha ihb => simp only [countLoops, loopsOf, List.length_append, iha, ihb]
  | cond c a b iha ihb => simp only [countLoops, loopsOf, List.length_append, iha, ihb]
  | block id c ih => simp only [countLoops, loopsOf, ih]
  | loop c ih => simp only [countLoops, loopsOf, List.length_cons, ih]
  | _ => rfl
def execLoop (asm : Asm) (f k : Nat) (st : St) (sp : LoopSpec) : R (SExit × St) :=
  match havoc sp st with
  | none => .bad "loop: blocks"
  | some st' => match sp.alt with
    | none => .ok (sp.exit, st') [.loop f k st st' sp.exit none (st'.nv - st.nv)]
    | some y => (R.ok () [.loop f k st ⟨st'.tmps, st'.mem, st'.nx, st'.nv + 1⟩ sp.exit (some (st'.nv, y)) (st'.nv + 1 - st.nv)]).bind fun _ =>
      match decideB asm (.v st'.nv) with
      | some true => .ok (y, ⟨st'.tmps, st'.mem, st'.nx, st'.nv + 1⟩) []
      | some false => .ok (sp.exit, ⟨st'.tmps, st'.mem, st'.nx, st'.nv + 1⟩) []
      | none => .split (.v st'.nv) []

def loopN : Nat → (St → R (SExit × St)) → St → R (SExit × St)
  | 0, _, _ => .bad "loop"
  | n + 1, f, st => (f st).bind fun x => match x.1 with
    | .normal => loopN n f x.2
    | .exit id => .ok (.exit id, x.2) []
    | .ret => .ok (.ret, x.2) []
def execC (P : Program) (cfg : Cfg) (asm : Asm) (callee : Callee) (rounds : Nat) (f : Nat) : Nat → Code → St → R (SExit × St)
  | _, .skip, st => .ok (.normal, st) []
  | _, .region _ ops draw, st => (runOps P cfg asm callee ops ops.toList st).bind fun x => match draw with
    | false => .ok (.normal, x.1) []
    | true => match checkRegion ops st x.2 with
      | true => .ok (.normal, x.1) []
      | false => .bad "region: order"
  | k, .seq a b, st => (execC P cfg asm callee rounds f k a st).bind fun x => match x.1 with
    | .normal => execC P cfg asm callee rounds f (k + countLoops a) b x.2
    | .exit id => .ok (.exit id, x.2) []
    | .ret => .ok (.ret, x.2) []
  | k, .cond c t e, st => match opnd st.tmps c with
    | some (.one (.cell (.bool b))) => match decideB asm b with
      | some true => execC P cfg asm callee rounds f k t st
      | some false => execC P cfg asm callee rounds f (k + countLoops t) e st
      | none => .split (atomB b) []
    | _ => .bad "condition"
  | k, .block id c, st => (execC P cfg asm callee rounds f k c st).bind fun x => match x.1 with
    | .normal => .ok (.normal, x.2) []
    | .exit id' => match Nat.beq id' id with
      | true => .ok (.normal, x.2) []
      | false => .ok (.exit id', x.2) []
    | .ret => .ok (.ret, x.2) []
  | k, .loop c, st => match lookLoop f k cfg.loops with
    | some sp => execLoop asm f k st sp
    | none => loopN rounds (execC P cfg asm callee rounds f (k + 1) c) st
  | _, .exit id, st => .ok (.exit id, st) []
  | _, .ret, st => .ok (.ret, st) []
  | _, _, _ => .bad "code"

/-! ### Loops, round by round -/
def Unr (P : Program) (c : Code) (Q : Exit → Act → World → Prop) : Nat → Act → World → Prop
  | 0, _, _ => False
  | n + 1, a, w => c.wp P (Exit.then (Unr P c Q n) Q) a w
theorem least {p : Nat → Prop} (h : ∃ n, p n) : ∃ n, p n ∧ ∀ m, p m → n ≤ m := by
  obtain ⟨n, hn⟩ := h
  induction n using Nat.strongRecOn with
  | _ n ih =>
    by_cases hm : ∃ m, m < n ∧ p m
    · obtain ⟨m, hlt, hp⟩ := hm; exact ih m hlt hp
    · exact ⟨n, hn, fun m hp => Nat.le_of_not_lt fun hlt => hm ⟨m, hlt, hp⟩⟩
theorem loop_of_unr [Outer] {P : Program} {c : Code} {Q : Exit → Act → World → Prop} {n : Nat} {a : Act} {w : World} (h : Unr P c Q n a w) : (Code.loop c).wp P Q a w := by
  classical
  let μ : Act → World → Nat := fun a w => if h : ∃ n, Unr P c Q n a w then Classical.choose (least h) else 0
  refine wp_loop (fun a w => ∃ n, Unr P c Q n a w) μ ⟨n, h⟩ fun a w hI => ?_
  have hs := (Classical.choose_spec (least hI)).1
  have hμ : μ a w = Classical.choose (least hI) := by simp only [μ, dif_pos hI]
  cases hm : Classical.choose (least hI) with
  | zero => rw [hm] at hs; exact hs.elim
  | succ m =>
    rw [hm] at hs
    refine wp_mono hs fun e a' w' hq => ?_
    cases e with
    | normal =>
      simp only [Exit.then] at hq ⊢
      refine ⟨⟨m, hq⟩, ?_⟩
      have hI' : ∃ n, Unr P c Q n a' w' := ⟨m, hq⟩
      have : μ a' w' ≤ m := by
        simp only [μ, dif_pos hI']
        exact (Classical.choose_spec (least hI')).2 m hq
      rw [hμ, hm]; omega
    | exit id => exact hq
    | goto l => exact hq
    | ret => exact hq
    | panic ch => exact hq
    | outgrown => exact hq

section
variable {P : Program} {ρ : Nat → Value} {inh : List Nat} {w0 : World} {cfg : Cfg} {asm : Asm} {callee : Callee} {rounds fn : Nat}

theorem loopN_up {f : St → R (SExit × St)} (hf : ∀ st x evs, f st = .ok x evs → st.nx ≤ x.2.nx) : ∀ {n : Nat} {st : St} {x : SExit × St} {evs : List Ev}, loopN n f st = .ok x evs → st.nx ≤ x.2.nx
  | 0, st, x, evs, h => by cases h
  | n + 1, st, x, evs, h => by
    simp only [loopN] at h
    obtain ⟨y, e1, e2, h1, h2, rfl⟩ := R.bind_ok h
    have hy := hf st y e1 h1
    split at h2
    · exact Nat.le_trans hy (loopN_up hf h2)
    · cases h2; exact hy
    · cases h2; exact hy
theorem havocT_nx : ∀ {l : List (Nat × Sh)} {st : St}, st.nx ≤ (havocT l st).nx
  | [], st => Nat.le_refl _
  | (t, sh) :: rest, st => by
    cases sh <;> simp only [havocT]
    case list et e => exact Nat.le_trans (Nat.le_add_right _ _) (havocT_nx (l := rest) (st := ⟨st.tmps.set t (.one (.cell (.sl st.nx (st.nx + 1) (.v st.nv)))), putM st.nx (some ⟨et, [.all (st.nv + 1)], some (st.nx + 1, e)⟩) (dropList (look st.tmps t) st.mem), st.nx + 2, st.nv + 2⟩))
    all_goals exact havocT_nx (l := rest) (st := ⟨_, st.mem, st.nx, st.nv + 1⟩)
theorem havoc_nx {sp : LoopSpec} {st st' : St} (h : havoc sp st = some st') : st.nx ≤ st'.nx := by
  unfold havoc at h
  dsimp only at h
  split at h
  · cases h
  · cases h
    exact havocT_nx (l := sp.slots) (st := ⟨deadT sp.dead st.tmps, dropM sp.drop st.mem, st.nx, st.nv⟩)
theorem execLoop_eq [Outer] {f k : Nat} {st : St} {sp : LoopSpec} {x : SExit × St} {evs : List Ev} (hasm : Asm.den ρ asm) (h : execLoop asm f k st sp = .ok x evs) : st.nx ≤ x.2.nx ∧ ∃ alt n, Ev.loop f k st x.2 sp.exit alt n ∈ evs ∧ x.1 = altX ρ sp.exit alt := by
  unfold execLoop at h
  split at h
  · cases h
  · rename_i st' hh
    have hx := havoc_nx hh
    split at h
    · cases h; exact ⟨hx, none, _, .head _, rfl⟩
    · rename_i y hy
      obtain ⟨u, e1, e2, h1, h2, rfl⟩ := R.bind_ok h
      cases h1
      split at h2
      · rename_i hd
        cases h2
        have := decideB_den hasm hd
        refine ⟨hx, some (st'.nv, y), _, .head _, ?_⟩
        simp only [BTm.den] at this
        simp [altX, this]
      · rename_i hd
        cases h2
        have := decideB_den hasm hd
        refine ⟨hx, some (st'.nv, y), _, .head _, ?_⟩
        simp only [BTm.den] at this
        simp [altX, this]
      · cases h2
theorem execLoop_up [Outer] {f k : Nat} {st : St} {sp : LoopSpec} {x : SExit × St} {evs : List Ev} (h : execLoop asm f k st sp = .ok x evs) : st.nx ≤ x.2.nx := by
  unfold execLoop at h
  split at h
  · cases h
  · rename_i st' hh
    have hx := havoc_nx hh
    split at h
    · cases h; exact hx
    · obtain ⟨u, e1, e2, h1, h2, rfl⟩ := R.bind_ok h
      split at h2
      · cases h2; exact hx
      · cases h2; exact hx
      · cases h2
theorem execC_up [Outer] (hU : CalleeUp callee) : ∀ {c : Code} {k : Nat} {st : St} {x : SExit × St} {evs : List Ev}, execC P cfg asm callee rounds fn k c st = .ok x evs → st.nx ≤ x.2.nx := by
  intro c
  induction c with
  | skip => intro k st x evs h; simp only [execC] at h; cases h; exact Nat.le_refl _
  | region id ops draw =>
    intro k st x evs h
    simp only [execC] at h
    obtain ⟨y, e1, e2, h1, h2, rfl⟩ := R.bind_ok h
    have := runOps_up hU h1
    split at h2
    · cases h2; exact this
    · split at h2
      · cases h2; exact this
      · cases h2
  | seq a b iha ihb =>
    intro k st x evs h
    simp only [execC] at h
    obtain ⟨y, e1, e2, h1, h2, rfl⟩ := R.bind_ok h
    have := iha h1
    split at h2
    · exact Nat.le_trans this (ihb h2)
    · cases h2; exact this
    · cases h2; exact this
  | cond c t e iht ihe =>
    intro k st x evs h
    simp only [execC] at h
    split at h
    · split at h
      · exact iht h
      · exact ihe h
      · cases h
    · cases h
  | block id c ih =>
    intro k st x evs h
    simp only [execC] at h
    obtain ⟨y, e1, e2, h1, h2, rfl⟩ := R.bind_ok h
    have := ih h1
    split at h2
    · cases h2; exact this
    · split at h2 <;> (cases h2; exact this)
    · cases h2; exact this
  | loop c ih =>
    intro k st x evs h
    simp only [execC] at h
    split at h
    · exact execLoop_up h
    · exact loopN_up (fun st x evs h => ih h) h
  | exit id => intro k st x evs h; simp only [execC] at h; cases h; exact Nat.le_refl _
  | ret => intro k st x evs h; simp only [execC] at h; cases h; exact Nat.le_refl _
  | rangeFunc _ _ _ _ => intro k st x evs h; simp only [execC] at h; cases h
  | scope _ => intro k st x evs h; simp only [execC] at h; cases h
  | label _ => intro k st x evs h; simp only [execC] at h; cases h
  | goto _ => intro k st x evs h; simp only [execC] at h; cases h
  | refuse _ => intro k st x evs h; simp only [execC] at h; cases h

theorem loopN_sound [Outer] {c : Code} {f : St → R (SExit × St)} (hup : ∀ st x evs, f st = .ok x evs → st.nx ≤ x.2.nx) (hf : ∀ st x evs, f st = .ok x evs → Holds P ρ evs → Sound P ρ inh w0 c st x) : ∀ {n : Nat} {st : St} {x : SExit × St} {evs : List Ev},
    loopN n f st = .ok x evs → Holds P ρ evs → ∀ β a w, Rel ρ β inh w0 st a w → ∀ Q : Exit → Act → World → Prop, (∀ β' a' w', (∀ i, i < st.nx → β' i = β i) → Rel ρ β' inh w0 x.2 a' w' → Q x.1.den a' w') → Unr P c Q n a w
  | 0, st, x, evs, h, _ => by cases h
  | n + 1, st, x, evs, h, hev => by
    intro β a w hR Q hQ
    simp only [loopN] at h
    obtain ⟨y, e1, e2, h1, h2, rfl⟩ := R.bind_ok h
    have hy := hup st y e1 h1
    have hs := hf st y e1 h1 fun e he => hev e (by simp [he])
    refine hs β a w hR _ fun β' a' w' hβ hR' => ?_
    split at h2
    · rename_i hn
      rw [hn]
      exact loopN_sound hup hf h2 (fun e he => hev e (by simp [he])) β' a' w' hR' Q fun β'' a'' w'' hβ' hR'' => hQ β'' a'' w'' (fun i hi => by rw [hβ' i (by omega), hβ i hi]) hR''
    · rename_i id hn
      cases h2
      rw [hn]
      exact hQ β' a' w' hβ hR'
    · rename_i hn
      cases h2
      rw [hn]
      exact hQ β' a' w' hβ hR'

theorem execC_sound [Outer] (hN : ∀ (f : Nat) (fn : Func), P.funcs[f]? = some fn → (fn.name == "runtime.NumGoroutine") = false) (hC : CalleeOk P ρ callee) (hU : CalleeUp callee) (hasm : Asm.den ρ asm) (hD : P.follows .mixedOrders = true) :
    ∀ {c : Code} {k : Nat} {st : St} {x : SExit × St} {evs : List Ev}, (∀ j c', (loopsOf c)[j]? = some c' → loopAt P fn (k + j) = some c') → execC P cfg asm callee rounds fn k c st = .ok x evs → Holds P ρ evs → Sound P ρ inh w0 c st x := by
  intro c
  induction c with
  | skip => intro k st x evs hL h _ β a w hR Q hQ; simp only [execC] at h; cases h; exact wp_skip (hQ β a w (fun _ _ => rfl) hR)
  | region id ops draw =>
    intro k st x evs hL h hev β a w hR Q hQ
    simp only [execC] at h
    obtain ⟨y, e1, e2, h1, h2, rfl⟩ := R.bind_ok h
    have hev1 : Holds P ρ e1 := fun e he => hev e (by simp [he])
    split at h2
    · cases h2
      exact wp_region_list (runOps_list hN hC hU hasm h1 hev1 hR hQ)
    · split at h2
      · rename_i hchk
        cases h2
        exact region_any hN hC hU hasm hD h1 hev1 hchk hR hQ
      · cases h2
  | seq x y ihx ihy =>
    intro k st z evs hL h hev β a w hR Q hQ
    simp only [execC] at h
    obtain ⟨u, e1, e2, h1, h2, rfl⟩ := R.bind_ok h
    have hup := execC_up hU h1
    refine wp_seq (ihx (fun j c' hj => hL j c' (by simp only [loopsOf]; rw [List.getElem?_append_left (List.getElem?_eq_some_iff.1 hj).1]; exact hj)) h1 (fun e he => hev e (by simp [he])) β a w hR _ fun β' a' w' hβ hR' => ?_)
    split at h2
    · rename_i hn
      rw [hn]
      exact ihy (fun j c' hj => by rw [countLoops_eq, Nat.add_assoc]; exact hL _ c' (by simp only [loopsOf]; rw [List.getElem?_append_right (by omega), Nat.add_sub_cancel_left]; exact hj)) h2 (fun e he => hev e (by simp [he])) β' a' w' hR' Q fun β'' a'' w'' hβ' hR'' => hQ β'' a'' w'' (fun i hi => by rw [hβ' i (by omega), hβ i hi]) hR''
    · rename_i id hn
      cases h2
      rw [hn]
      exact hQ β' a' w' hβ hR'
    · rename_i hn
      cases h2
      rw [hn]
      exact hQ β' a' w' hβ hR'
  | cond c t e iht ihe =>
    intro k st z evs hL h hev β a w hR Q hQ
    simp only [execC] at h
    split at h
    · rename_i b hb
      have he : a.eval c = .bool (b.den ρ) := opnd_den hb hR.1 (fun _ _ => rfl)
      split at h
      · rename_i hd
        rw [decideB_den hasm hd] at he
        exact wp_cond_true he (iht (fun j c' hj => hL j c' (by simp only [loopsOf]; rw [List.getElem?_append_left (List.getElem?_eq_some_iff.1 hj).1]; exact hj)) h hev β a w hR Q hQ)
      · rename_i hd
        rw [decideB_den hasm hd] at he
        exact wp_cond_false he (ihe (fun j c' hj => by rw [countLoops_eq, Nat.add_assoc]; exact hL _ c' (by simp only [loopsOf]; rw [List.getElem?_append_right (by omega), Nat.add_sub_cancel_left]; exact hj)) h hev β a w hR Q hQ)
      · cases h
    · cases h
  | block id c ih =>
    intro k st z evs hL h hev β a w hR Q hQ
    simp only [execC] at h
    obtain ⟨u, e1, e2, h1, h2, rfl⟩ := R.bind_ok h
    refine wp_block (ih (fun j c' hj => hL j c' (by simpa only [loopsOf] using hj)) h1 (fun e he => hev e (by simp [he])) β a w hR _ fun β' a' w' hβ hR' => ?_)
    split at h2
    · rename_i hn
      cases h2
      rw [hn]
      exact hQ β' a' w' hβ hR'
    · rename_i id' hn
      rw [hn]
      simp only [SExit.den, Exit.inBlock]
      split at h2
      · rename_i hid
        cases h2
        rw [if_pos (Nat.eq_of_beq_eq_true hid)]
        exact hQ β' a' w' hβ hR'
      · rename_i hid
        cases h2
        rw [if_neg (fun e => by rw [e, Nat.beq_refl] at hid; cases hid)]
        exact hQ β' a' w' hβ hR'
    · rename_i hn
      cases h2
      rw [hn]
      exact hQ β' a' w' hβ hR'
  | loop c ih =>
    intro k st z evs hL h hev β a w hR Q hQ
    simp only [execC] at h
    split at h
    · rename_i sp hsp
      obtain ⟨hnx, alt, n, hmem, hx⟩ := execLoop_eq hasm h
      have := hev _ hmem
      simp only [Ev.holds] at this
      have := this c (by have := hL 0 c (by simp [loopsOf]); simpa using this) inh w0 β a w hR Q
      refine this fun β' a' w' hβ hR' => ?_
      have := hQ β' a' w' hβ hR'
      rw [hx] at this
      exact this
    · exact loop_of_unr (loopN_sound (fun st x evs h => execC_up hU h) (fun st x evs h hev => ih (fun j c' hj => by rw [Nat.add_assoc, Nat.add_comm 1 j]; exact hL (j + 1) c' (by simpa only [loopsOf, List.getElem?_cons_succ] using hj)) h hev) h hev β a w hR Q hQ)
  | exit id => intro k st x evs hL h _ β a w hR Q hQ; simp only [execC] at h; cases h; exact wp_exit (hQ β a w (fun _ _ => rfl) hR)
  | ret => intro k st x evs hL h _ β a w hR Q hQ; simp only [execC] at h; cases h; exact wp_ret (hQ β a w (fun _ _ => rfl) hR)
  | rangeFunc _ _ _ _ => intro k st x evs hL h; simp only [execC] at h; cases h
  | scope _ => intro k st x evs hL h; simp only [execC] at h; cases h
  | label _ => intro k st x evs hL h; simp only [execC] at h; cases h
  | goto _ => intro k st x evs hL h; simp only [execC] at h; cases h
  | refuse _ => intro k st x evs hL h; simp only [execC] at h; cases h
end

/-! ### Results -/
def resOne (P : Program) (st : St) : ResultVar → Option SV
  | .tmp t => match look st.tmps t with
    | .one v => some v
    | _ => none
  | .cell p ty => match look st.tmps p with
    | .one (.cell (.ptr b off)) => match hLoad P ty (.one (.cell (.ptr b off))) (find b st.mem) 0 with
      | .ok r _ => match r.val with
        | .one v => some v
        | _ => none
      | _ => none
    | _ => none
def resAll (P : Program) (st : St) : List ResultVar → Option (List SV)
  | [] => some []
  | x :: xs => match resOne P st x with
    | none => none
    | some v => match resAll P st xs with
      | none => none
      | some vs => some (v :: vs)
def resS (P : Program) (st : St) (xs : List ResultVar) : Option SW :=
  match resAll P st xs with
  | none => none
  | some [v] => some (.one v)
  | some vs => some (.tuple vs)

def execF (P : Program) (cfg : Cfg) (asm : Asm) (rounds : Nat) : Nat → Callee
  | 0 => fun _ _ _ _ _ => .bad "depth"
  | n + 1 => fun f args mem nx nv =>
    match P.funcs[f]? with
    | none => .bad "function"
    | some fn => match fn.body with
      | none => .bad "body"
      | some c => (execC P cfg asm (execF P cfg asm rounds n) rounds f 0 c ⟨args ++ List.replicate (fn.ntmps - args.length) .undef, mem, nx, nv⟩).bind fun x => match x.1 with
        | .exit _ => .bad "exit"
        | _ => match resS P x.2 fn.results.toList with
          | some v => .ok ⟨v, x.2.mem, x.2.nx, x.2.nv⟩ []
          | none => .bad "results"

section
variable {P : Program} {ρ : Nat → Value} {β : Nat → Nat} {inh : List Nat} {w0 w : World} {cfg : Cfg} {asm : Asm} {rounds : Nat}

def resSem (tmps : Array Value) (x : ResultVar) : Sem Value :=
  match x with
  | .tmp t => pure (tmps.getD t undef)
  | .cell p t => do loadVar t (← asAddr (tmps.getD p undef))
theorem results_eq (fn : Func) (tmps : Array Value) : results fn tmps = (do let vs ← fn.results.mapM (resSem tmps); pure (if h : vs.size = 1 then vs[0] else .tuple vs)) := rfl
theorem resAll_run [Outer] {st : St} {a : Act} (hR : Rel ρ β inh w0 st a w) : ∀ {xs : List ResultVar} {vs : List SV}, resAll P st xs = some vs →
    (xs.mapM (resSem a.tmps)).run P w = Result.ok (vs.map (·.den ρ β)) w
  | [], vs, h => by cases h; simp
  | x :: xs, vs, h => by
    simp only [resAll] at h
    split at h
    · cases h
    · rename_i v hv
      split at h
      · cases h
      · rename_i vs' hvs
        cases h
        have ih := resAll_run hR hvs
        have hx : (resSem a.tmps x).run P w = .ok (v.den ρ β) w := by
          unfold resSem
          cases x with
          | tmp t =>
            simp only [resOne] at hv
            split at hv
            · rename_i v' hl
              cases hv
              have := hR.1.getD (t := t) (by rw [hl]; simp)
              simp only [Sem.run_pure, this, hl, SW.den_one]
            · cases hv
          | cell p ty =>
            simp only [resOne] at hv
            split at hv
            · rename_i b off hl
              split at hv
              · rename_i r e hr
                split at hv
                · rename_i v' hval
                  cases hv
                  obtain ⟨e1, _, _⟩ := hLoad_run (P := P) (nv := 0) hR.2.2 (b := b) (x := .one (.cell (.ptr b off))) (fun b' off' e => by cases e; rfl) hr
                  rw [hval, SW.den_one] at e1
                  have hg := hR.1.getD (t := p) (by rw [hl]; simp)
                  simp only [hg, hl]
                  simpa [SW.den, SV.den, Cell.den, Instr.loadAt, Instr.sureAddr, asAddr] using e1
                · cases hv
              · cases hv
            · cases hv
        simp only [List.mapM_cons, Sem.run_bind, hx, Result.andThen_ok, ih, Sem.run_pure, List.map_cons]

theorem resS_run [Outer] {st : St} {a : Act} (hR : Rel ρ β inh w0 st a w) {fn : Func} {v : SW} (h : resS P st fn.results.toList = some v) : (results fn a.tmps).run P w = .ok (v.den ρ β) w := by
  unfold resS at h
  rw [results_eq]
  cases hr : resAll P st fn.results.toList with
  | none => rw [hr] at h; cases h
  | some vs =>
    rw [hr] at h
    have hm := resAll_run (P := P) hR hr
    have e : (fn.results.mapM (resSem a.tmps)).run P w = Result.ok (vs.map (·.den ρ β)).toArray w := by
      rw [Array.mapM_eq_mapM_toList, Sem.run_map, hm]
      rfl
    simp only [Sem.run_bind, e, Result.andThen_ok, Sem.run_pure]
    match vs, h with
    | [], h => cases h; rfl
    | [x], h => cases h; rfl
    | x :: y :: rest, h => cases h; rfl

theorem execF_up [Outer] : ∀ (n : Nat), CalleeUp (execF P cfg asm rounds n)
  | 0 => by intro f args mem nx nv ret evs h; cases h
  | n + 1 => by
    intro f args mem nx nv ret evs h
    simp only [execF] at h
    split at h
    · cases h
    · split at h
      · cases h
      · obtain ⟨x, e1, e2, h1, h2, rfl⟩ := R.bind_ok h
        have := execC_up (execF_up n) h1
        split at h2
        · cases h2
        · split at h2
          · cases h2; exact this
          · cases h2

theorem execF_ok [Outer] (hN : ∀ (f : Nat) (fn : Func), P.funcs[f]? = some fn → (fn.name == "runtime.NumGoroutine") = false) (hasm : Asm.den ρ asm) (hD : P.follows .mixedOrders = true) : ∀ (n : Nat), CalleeOk P ρ (execF P cfg asm rounds n)
  | 0 => by intro f args mem nx nv ret evs h; cases h
  | n + 1 => by
    intro f args mem nx nv ret evs h hev β inh w0 w hM
    simp only [execF] at h
    split at h
    · cases h
    · rename_i fn hfn
      split at h
      · cases h
      · rename_i c hc
        refine ⟨fn, hfn, by rw [hc]; rfl, ?_⟩
        obtain ⟨x, e1, e2, h1, h2, rfl⟩ := R.bind_ok h
        have hs := execC_sound (inh := inh) (w0 := w0) hN (execF_ok hN hasm hD n) (execF_up n) hasm hD (fun j c' hj => by simp only [loopAt, hfn, hc, Nat.zero_add]; exact hj) h1 fun e he => hev e (by simp [he])
        refine calls_of_wp hfn hc ?_
        refine hs β _ w ⟨?_, rfl, hM⟩ _ fun β' a' w' hβ hR' => ?_
        · have : denT ρ β args ++ Array.replicate (fn.ntmps - (denT ρ β args).size) undef = denT ρ β (args ++ List.replicate (fn.ntmps - args.length) .undef) := by
            simp only [denT]
            rw [List.map_append, List.map_replicate]
            simp [SW.den]
          rw [this]
          exact Trel.of_den _ _ _
        · split at h2
          · cases h2
          · rename_i hne
            split at h2
            · rename_i v hv
              cases h2
              have hr := resS_run (P := P) hR' hv
              have hk : hR'.2.1 = hR'.2.1 := rfl
              cases hx : x.1 with
              | exit id => exact absurd hx (hne id)
              | normal => exact ⟨hR'.2.1, _, hr, β', hβ, rfl, hR'.2.2⟩
              | ret => exact ⟨hR'.2.1, _, hr, β', hβ, rfl, hR'.2.2⟩
            · cases h2
end
end Go.Proofs.YteemnnajfiimlaaDoor.Sx
