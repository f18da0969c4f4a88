/- One way through a function, given its tests: what they are is shown last. -/
import Derived.Test.YteemnnajfiimlaaDoorUb
namespace Go.Proofs.YteemnnajfiimlaaDoor.Sx
open Go.RowKit

theorem flat_sound [Outer] {α : Type} {P : Program} {run : Asm → R α} {Q : List Value → α → Prop} {asm : Asm} {out : α} {evs : List Ev} {ρ : List Value} (hrun : run asm = .ok out evs) (hn : (nexts evs ρ.length).isSome = true)
    (h : evDen P (fun ρ' => (∀ x ∈ asm, x.1.den (env ρ') = x.2) ∧ Q ρ' out) evs ρ) : ∃ vs asm' ret evs, run asm' = .ok ret evs ∧ Asm.den (env (ρ ++ vs)) asm' ∧ Holds P (env (ρ ++ vs)) evs ∧ Q (ρ ++ vs) ret := by
  obtain ⟨m, hm⟩ := Option.isSome_iff_exists.1 hn
  obtain ⟨vs, _, ⟨ha, hq⟩, hh⟩ := evDen_sound hm h
  exact ⟨vs, asm, out, evs, hrun, ha, hh, hq⟩
/-- A function, from any memory by names. -/
theorem calls_flat [Outer] {P : Program} (hP : Plain P) {cfg : Cfg} {f : FuncId} {args : List SW} {mem : Mem} {nx : Nat} {asm : Asm} {out : Out} {evs : List Ev} (ρ : List Value) (hT : runOf P cfg f args mem nx ρ.length asm = .ok out evs) (hn : (nexts evs ρ.length).isSome = true) (hu : argsUnder args mem ρ.length = true) (β : Nat → Nat) (inh : List Nat) (w : World)
    (hM : Mrel (env ρ) β inh w (fun i => find i mem) w) (Q : List Value → Out → Prop) (h : evDen P (fun ρ' => (∀ x ∈ asm, x.1.den (env ρ') = x.2) ∧ Q ρ' out) evs ρ) :
    Calls P f (denT (env ρ) β args) w fun e w' => ∃ vs ret β', Q (ρ ++ vs) ret ∧ (∀ i, i < nx → β' i = β i) ∧ e = .returned (ret.val.den (env (ρ ++ vs)) β') ∧ Mrel (env (ρ ++ vs)) β' inh w (fun i => find i ret.mem) w' := by
  obtain ⟨vs, asm', ret, evs, hrun, hasm, hev, hv⟩ := flat_sound hT hn h
  obtain ⟨r, e1, e2, h1, h2, rfl⟩ := R.bind_ok hrun
  cases h2
  simp only [argsUnder, Bool.and_eq_true] at hu
  have hM' : Mrel (env (ρ ++ vs)) β inh w (fun i => find i mem) w := hM.under fun i m hi => MB.fits_under (env_append ρ vs) (find_under hu.2 hi)
  obtain ⟨fn, _, _, hc⟩ := execF_ok hP.names hasm hP.order _ f args mem nx ρ.length r e1 h1 (fun e he => hev e (by simp [he])) β inh w w hM'
  have ha : denT (env (ρ ++ vs)) β args = denT (env ρ) β args := by
    simp only [denT]
    congr 1
    refine List.map_congr_left fun x hx => SW.den_under (env_append ρ vs) (List.all_eq_true.1 hu.1 x hx)
  rw [ha] at hc
  refine hc.mono fun e w' ⟨β', hβ, he, hm⟩ => ⟨vs, trim nx r, β', hv, hβ, he, ?_⟩
  simp only [trim]
  split
  · exact hm.less fun i m hi => by
      rcases Nat.lt_or_ge i nx with hlt | hge
      · rw [← hi, find_keepM hlt]
      · rw [find_keepM_ge hge] at hi; cases hi
  · exact hm
/-- A function of plain values, that may read outer blocks. -/
theorem reads_flat [Outer] {P : Program} (hP : Plain P) {cfg : Cfg} {f : FuncId} {args : List SW} {asm : Asm} {out : Out} {evs : List Ev} (ρ : List Value) (hT : runOf P cfg f args [] 0 ρ.length asm = .ok out evs) (hn : (nexts evs ρ.length).isSome = true) (hu : argsUnder args [] ρ.length = true) (v : Value)
    (h : evDen P (fun ρ' => (∀ x ∈ asm, x.1.den (env ρ') = x.2) ∧ ∀ β, out.val.den (env ρ') β = v) evs ρ) (w : World) (hr : ∀ x ∈ Outer.r, w.heap[x.1]? = some x.2) : Calls P f (denT (env ρ) (fun _ => 0) args) w fun e w' => e = .returned v ∧ Below w.heap.size w w' := by
  have hM : Mrel (env ρ) (fun _ => 0) [] w (fun i => find i []) w := ⟨rfl, rfl, rfl, Nat.le_refl _, fun _ _ _ => rfl, fun i m hm => (by cases hm), fun i m hm => (by cases hm), fun i j m m' hm => (by cases hm), fun x hx => ⟨hr x hx, by simp⟩⟩
  refine (calls_flat hP ρ hT hn hu (fun _ => 0) [] w hM (fun ρ' out => ∀ β, out.val.den (env ρ') β = v) h).mono fun e w' ⟨vs, ret, β', hv, _, he, hm⟩ => ⟨by rw [he]; exact congrArg Ending.returned (hv β'), hm.os, hm.tape, hm.output, hm.size, fun k hk => hm.old k hk (by simp)⟩

/-- A function of plain values. -/
theorem pure_flat {P : Program} (hP : Plain P) {cfg : Cfg} {f : FuncId} {args : List SW} {asm : Asm} {out : Out} {evs : List Ev} (ρ : List Value) (hT : runOf P cfg f args [] 0 ρ.length asm = .ok out evs) (hn : (nexts evs ρ.length).isSome = true) (hu : argsUnder args [] ρ.length = true) (v : Value)
    (h : evDen P (fun ρ' => (∀ x ∈ asm, x.1.den (env ρ') = x.2) ∧ ∀ β, out.val.den (env ρ') β = v) evs ρ) : Pure P f (denT (env ρ) (fun _ => 0) args) v :=
  fun w => reads_flat hP ρ hT hn hu v h w fun x hx => by cases hx
/-- The ways through a function, ahead of any world. -/
theorem ways_flat [Outer] {P : Program} (hP : Plain P) {cfg : Cfg} {f : FuncId} {args : List SW} {mem : Mem} {nx : Nat} {asm : Asm} {out : Out} {evs : List Ev} (ρ : List Value) (hT : runOf P cfg f args mem nx ρ.length asm = .ok out evs) (hn : (nexts evs ρ.length).isSome = true) (hu : argsUnder args mem ρ.length = true) (Q : List Value → Out → Prop) (h : evDen P (fun ρ' => (∀ x ∈ asm, x.1.den (env ρ') = x.2) ∧ Q ρ' out) evs ρ) :
    ∃ vs ret, Q (ρ ++ vs) ret ∧ ∀ (β : Nat → Nat) (inh : List Nat) (w : World), Mrel (env ρ) β inh w (fun i => find i mem) w →
      Calls P f (denT (env ρ) β args) w fun e w' => ∃ β', (∀ i, i < nx → β' i = β i) ∧ e = .returned (ret.val.den (env (ρ ++ vs)) β') ∧ Mrel (env (ρ ++ vs)) β' inh w (fun i => find i ret.mem) w' := by
  obtain ⟨vs, asm', ret, evs, hrun, hasm, hev, hv⟩ := flat_sound hT hn h
  obtain ⟨r, e1, e2, h1, h2, rfl⟩ := R.bind_ok hrun
  cases h2
  simp only [argsUnder, Bool.and_eq_true] at hu
  refine ⟨vs, _, hv, fun β inh w hM => ?_⟩
  have hM' : Mrel (env (ρ ++ vs)) β inh w (fun i => find i mem) w := hM.under fun i m hi => MB.fits_under (env_append ρ vs) (find_under hu.2 hi)
  obtain ⟨fn, _, _, hc⟩ := execF_ok hP.names hasm hP.order _ f args mem nx ρ.length r e1 h1 (fun e he => hev e (by simp [he])) β inh w w hM'
  have ha : denT (env (ρ ++ vs)) β args = denT (env ρ) β args := by
    simp only [denT]
    congr 1
    refine List.map_congr_left fun x hx => SW.den_under (env_append ρ vs) (List.all_eq_true.1 hu.1 x hx)
  rw [ha] at hc
  refine hc.mono fun e w' ⟨β', hβ, he, hm⟩ => ⟨β', hβ, he, ?_⟩
  simp only [trim]
  split
  · exact hm.less fun i m hi => by
      rcases Nat.lt_or_ge i nx with hlt | hge
      · rw [← hi, find_keepM hlt]
      · rw [find_keepM_ge hge] at hi; cases hi
  · exact hm
end Go.Proofs.YteemnnajfiimlaaDoor.Sx
namespace Go.Proofs.YteemnnajfiimlaaDoor
open Go.RowKit Go.Proofs.YteemnnajfiimlaaDoor.Sx

/-- What a function over the tape gives, ahead of any world: 'rest': its other arguments' variables. -/
theorem given_flat [Outer] {cfg : Cfg} {f : FuncId} {args : List SW} {asm : Asm} {out : Out} {evs : List Ev} {Lv : Value} {k : Nat} {rest : List Value} (hL : fix Lv = Lv) (hT : runOf Tryd.prog cfg f args tapeM 1 (Lv :: .int .i64 ((k : Nat) : Int) :: rest).length asm = .ok out evs) (hn : (nexts evs (Lv :: .int .i64 ((k : Nat) : Int) :: rest).length).isSome = true) (hu : argsUnder args tapeM (Lv :: .int .i64 ((k : Nat) : Int) :: rest).length = true)
    (p : Value → Nat → Prop) (h : evDen Tryd.prog (fun ρ' => (∀ x ∈ asm, x.1.den (env ρ') = x.2) ∧ ∃ v k', p v k' ∧ (∀ β, out.val.den (env ρ') β = v) ∧ ∃ ps, find 0 out.mem = some ⟨35, ps, none⟩ ∧ ∀ β, densP (env ρ') β ps = [Lv, .int .i64 ((k' : Nat) : Int)]) evs (Lv :: .int .i64 ((k : Nat) : Int) :: rest)) :
    ∃ v k', p v k' ∧ ∀ b, Given Tryd.prog f (denT (env (Lv :: .int .i64 ((k : Nat) : Int) :: rest)) (fun _ => b) args) b Outer.r Lv k k' v := by
  obtain ⟨vs, ret, ⟨v, k', hp, hv, ps, hf, hd⟩, hc⟩ := ways_flat plain _ hT hn hu (fun ρ' ret => ∃ v k', p v k' ∧ (∀ β, ret.val.den (env ρ') β = v) ∧ ∃ ps, find 0 ret.mem = some ⟨35, ps, none⟩ ∧ ∀ β, densP (env ρ') β ps = [Lv, .int .i64 ((k' : Nat) : Int)]) h
  refine ⟨v, k', hp, fun b w hb hr => ?_⟩
  have hM : Mrel (env (Lv :: .int .i64 ((k : Nat) : Int) :: rest)) (fun _ => b) [b] w (fun i => find i tapeM) w := by
    have hfind : ∀ i m, find i tapeM = some m → i = 0 ∧ m = ⟨35, [.one (.v 0), .one (.int .i64 (.v 1))], none⟩ := fun i m h => by
      simp only [tapeM, find] at h
      split at h
      · rename_i h0
        cases h; exact ⟨natBeq h0, rfl⟩
      · cases h
    refine ⟨rfl, rfl, rfl, Nat.le_refl _, fun _ _ _ => rfl, fun i m hm => ?_, fun i m hm _ => .inr (by simp), fun i j m m' hm hm' _ _ _ => ?_, fun x hx => ⟨(hr x hx).1, by simpa using (hr x hx).2⟩⟩
    · obtain ⟨rfl, rfl⟩ := hfind i m hm
      exact ⟨_, fun _ => hb, fits_mk (by simp [densP, Piece.den, Cell.den, env, Tm.i, Tm.den, vInt, hL])⟩
    · rw [(hfind i m hm).1, (hfind j m' hm').1]
  refine (hc (fun _ => b) [b] w hM).mono fun e w' ⟨β', hβ, he, hm⟩ => ⟨by rw [he]; exact congrArg Ending.returned (hv β'), [(b, .cells (Tk Lv k') 35)], ?_, .head _⟩
  obtain ⟨o, ho, hfo⟩ := hm.cells 0 _ hf
  have ho := ho rfl
  rw [fits_cells hfo, hd, hβ 0 (by omega)] at ho
  have hlt : b < w.heap.size := (Array.getElem?_eq_some_iff.1 hb).1
  refine ⟨hm.os, hm.tape, hm.output, hm.size, fun k hk hn => hm.old k hk (by simpa using fun e => hn (congrArg some e.symm)), fun x hx => ?_, fun x hx => ?_, by simp⟩
  · obtain ⟨h1, h2⟩ := hr x hx
    refine ⟨(Array.getElem?_eq_some_iff.1 h1).1, fun e => h2 (Option.some.inj e).symm, ?_⟩
    rw [hm.old _ (Array.getElem?_eq_some_iff.1 h1).1 (by simpa using h2)]; exact h1
  · cases List.mem_singleton.1 hx
    exact ⟨.inr rfl, ho⟩
end Go.Proofs.YteemnnajfiimlaaDoor
