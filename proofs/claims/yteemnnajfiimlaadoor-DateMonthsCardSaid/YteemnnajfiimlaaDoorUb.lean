/- The tape in a run by names: what a call of it leaves, and what a function over it gives. -/
import Derived.Test.YteemnnajfiimlaaDoorSxP
import Derived.Test.YteemnnajfiimlaaDoorUa
namespace Go.Proofs.YteemnnajfiimlaaDoor.Sx
open Go.RowKit

/-- The ways through a function, ahead of any world. -/
theorem ways_of [Outer] {P : Program} (hP : Plain P) {cfg : Cfg} {f : FuncId} {args : List SW} {mem : Mem} {nx : Nat} {T : Tree Out} (ρ : List Value) (hT : treeOf P cfg f args mem nx ρ.length = T) (hu : argsUnder args mem ρ.length = true) (Q : List Value → Out → Prop) (h : T.den P Q ρ) :
    ∃ vs ret, Q (ρ ++ vs) ret ∧ ∀ (β : Nat → Nat) (inh : List Nat) (w : World), Mrel (env ρ) β inh w (fun i => find i mem) w →
      Calls P f (denT (env ρ) β args) w fun e w' => ∃ β', (∀ i, i < nx → β' i = β i) ∧ e = .returned (ret.val.den (env (ρ ++ vs)) β') ∧ Mrel (env (ρ ++ vs)) β' inh w (fun i => find i ret.mem) w' := by
  subst hT
  obtain ⟨vs, asm', ret, evs, hrun, hasm, hev, hv⟩ := build_sound (asm := []) (known := []) (fun x hx => by cases hx) (fun x hx => by cases hx) (fun e he => by cases he) h
  obtain ⟨r, e1, e2, h1, h2, rfl⟩ := R.bind_ok hrun
  cases h2
  simp only [argsUnder, Bool.and_eq_true] at hu
  refine ⟨vs, _, hv, fun β inh w hM => ?_⟩
  have hM' : Mrel (env (ρ ++ vs)) β inh w (fun i => find i mem) w := hM.under fun i m hi => MB.fits_under (env_append ρ vs) (find_under hu.2 hi)
  obtain ⟨fn, _, _, hc⟩ := execF_ok hP.names hasm hP.order _ f args mem nx ρ.length r e1 h1 (fun e he => hev e (by simp [he])) β inh w w hM'
  have ha : denT (env (ρ ++ vs)) β args = denT (env ρ) β args := by
    simp only [denT]
    congr 1
    refine List.map_congr_left fun x hx => SW.den_under (env_append ρ vs) (List.all_eq_true.1 hu.1 x hx)
  rw [ha] at hc
  refine hc.mono fun e w' ⟨β', hβ, he, hm⟩ => ⟨β', hβ, he, ?_⟩
  simp only [trim]
  split
  · exact hm.less fun i m hi => by
      rcases Nat.lt_or_ge i nx with hlt | hge
      · rw [← hi, find_keepM hlt]
      · rw [find_keepM_ge hge] at hi; cases hi
  · exact hm
theorem fits_cells {ρ : Nat → Value} {β : Nat → Nat} {T : TypeId} {ps : List Piece} {o : Obj} (h : MB.fits ρ β ⟨T, ps, none⟩ o) : o = .cells (densP ρ β ps).toArray T := by
  obtain ⟨rest, fz, h1, h2⟩ := h
  have h2 : rest = [] ∧ fz = (0, 0) := h2
  obtain ⟨rfl, rfl⟩ := h2
  rw [h1, List.append_nil]
theorem fits_mk {ρ : Nat → Value} {β : Nat → Nat} {T : TypeId} {ps : List Piece} {cs : List Value} (h : densP ρ β ps = cs) : MB.fits ρ β ⟨T, ps, none⟩ (.cells cs.toArray T) := ⟨[], (0, 0), by rw [h, List.append_nil], rfl, rfl⟩
end Go.Proofs.YteemnnajfiimlaaDoor.Sx
namespace Go.Proofs.YteemnnajfiimlaaDoor
open Go.RowKit Go.Proofs.YteemnnajfiimlaaDoor.Sx

/-- A call that takes numbers off the tape, as an event. -/
theorem Given.turns [Outer] {f : FuncId} {xs : List SV} {i nx : Nat} {ps qs : List Piece} {res : SW} {ρ ρ' : Nat → Value} (args : Nat → Array Value) {v : Value} {k k' : Nat} {Lv : Value} (hg : ∀ b, Given Tryd.prog f (args b) b Outer.r Lv k k' v)
    (hp : ∀ β, densP ρ' β ps = [Lv, .int .i64 ((k : Nat) : Int)]) (hq : ∀ β, densP ρ' β qs = [Lv, .int .i64 ((k' : Nat) : Int)]) (ha : ∀ β, denV ρ β xs = args (β i)) (hr : ∀ β, res.den ρ' β = v) (β : Nat → Nat) :
    Turns Tryd.prog ρ' β nx f (denV ρ β xs) [(i, ⟨35, ps, none⟩)] [(i, ⟨35, qs, none⟩)] [] res := fun w hro hpre => by
  obtain ⟨o, ho, hf⟩ := hpre _ (.head _)
  have ho := ho rfl
  rw [fits_cells hf, hp] at ho
  rw [ha]
  refine (hg (β i) w ho fun x hx => ⟨(hro x hx).1, fun e => (hro x hx).2 _ (.head _) rfl e.symm⟩).mono fun e w' ⟨he, l, hS, hm⟩ => ⟨β, fun _ _ => rfl, by rw [hr]; exact he, ?_, fun x hx => ?_, ⟨fun x hx => absurd hx (by simp), fun x hx => absurd hx (by simp)⟩⟩
  · exact ⟨hS.os, hS.tape, hS.output, hS.size, fun k hk hn => hS.block k hk fun e => hn (by simp [liveIds, MB.live, Option.some.inj e])⟩
  · cases List.mem_singleton.1 hx
    exact ⟨_, fun _ => (hS.own _ hm).2, fits_mk (hq β)⟩
/-- The same for a call that reads a list besides. -/
theorem Given.turns2 [Outer] {f : FuncId} {xs : List SV} {i j nx : Nat} {ps qs zps : List Piece} {T : TypeId} {res : SW} {ρ ρ' : Nat → Value} (args : Nat → Nat → Array Value) {v : Value} {k k' : Nat} {Lv : Value} (zs : List Value) (hij : i ≠ j)
    (hg : ∀ b g, Given Tryd.prog f (args b g) b ((g, .cells zs.toArray T) :: Outer.r) Lv k k' v)
    (hp : ∀ β, densP ρ' β ps = [Lv, .int .i64 ((k : Nat) : Int)]) (hq : ∀ β, densP ρ' β qs = [Lv, .int .i64 ((k' : Nat) : Int)]) (hz : ∀ β, densP ρ' β zps = zs) (ha : ∀ β, denV ρ β xs = args (β i) (β j)) (hr : ∀ β, res.den ρ' β = v) (β : Nat → Nat)
    (hinj : ∀ x ∈ [((i, ⟨35, ps, none⟩) : Nat × MB), (j, ⟨T, zps, none⟩)], ∀ y ∈ [((i, ⟨35, ps, none⟩) : Nat × MB), (j, ⟨T, zps, none⟩)], x.2.live β = true → y.2.live β = true → β x.1 = β y.1 → x.1 = y.1) :
    Turns Tryd.prog ρ' β nx f (denV ρ β xs) [(i, ⟨35, ps, none⟩), (j, ⟨T, zps, none⟩)] [(i, ⟨35, qs, none⟩), (j, ⟨T, zps, none⟩)] [] res := fun w hro hpre => by
  obtain ⟨o, ho, hf⟩ := hpre _ (.head _)
  obtain ⟨o2, ho2, hf2⟩ := hpre _ (.tail _ (.head _))
  have ho := ho rfl
  have ho2 := ho2 rfl
  rw [fits_cells hf, hp] at ho
  rw [fits_cells hf2, hz] at ho2
  rw [ha]
  have hne : β j ≠ β i := fun e => hij (hinj (i, ⟨35, ps, none⟩) (by simp) (j, ⟨T, zps, none⟩) (by simp) rfl rfl e.symm)
  refine (hg (β i) (β j) w ho fun x hx => ?_).mono fun e w' ⟨he, l, hS, hm⟩ => ⟨β, fun _ _ => rfl, by rw [hr]; exact he, ?_, fun x hx => ?_, ⟨fun x hx => absurd hx (by simp), fun x hx => absurd hx (by simp)⟩⟩
  · rcases List.mem_cons.1 hx with rfl | hx
    · exact ⟨ho2, hne⟩
    · exact ⟨(hro x hx).1, fun e => (hro x hx).2 _ (.head _) rfl e.symm⟩
  · exact ⟨hS.os, hS.tape, hS.output, hS.size, fun k hk hn => hS.block k hk fun e => hn (by simp [liveIds, MB.live, Option.some.inj e])⟩
  · rcases List.mem_cons.1 hx with rfl | hx
    · exact ⟨_, fun _ => (hS.own _ hm).2, fits_mk (hq β)⟩
    · cases List.mem_singleton.1 hx
      exact ⟨_, fun _ => (hS.ro _ (.head _)).2.2, fits_mk (hz β)⟩

/-- The memory of a function over the caller's tape. -/
def tapeM : Mem := [(0, some ⟨35, [.one (.v 0), .one (.int .i64 (.v 1))], none⟩)]
/-- What a function over the tape gives, ahead of any world: 'rest': its other arguments' variables. -/
theorem given_of [Outer] {cfg : Cfg} {f : FuncId} {args : List SW} {T : Tree Out} {Lv : Value} {k : Nat} {rest : List Value} (hL : fix Lv = Lv) (hT : treeOf Tryd.prog cfg f args tapeM 1 (Lv :: .int .i64 ((k : Nat) : Int) :: rest).length = T) (hu : argsUnder args tapeM (Lv :: .int .i64 ((k : Nat) : Int) :: rest).length = true)
    (p : Value → Nat → Prop) (h : T.den Tryd.prog (fun ρ' ret => ∃ v k', p v k' ∧ (∀ β, ret.val.den (env ρ') β = v) ∧ ∃ ps, find 0 ret.mem = some ⟨35, ps, none⟩ ∧ ∀ β, densP (env ρ') β ps = [Lv, .int .i64 ((k' : Nat) : Int)]) (Lv :: .int .i64 ((k : Nat) : Int) :: rest)) :
    ∃ v k', p v k' ∧ ∀ b, Given Tryd.prog f (denT (env (Lv :: .int .i64 ((k : Nat) : Int) :: rest)) (fun _ => b) args) b Outer.r Lv k k' v := by
  obtain ⟨vs, ret, ⟨v, k', hp, hv, ps, hf, hd⟩, hc⟩ := ways_of plain _ hT hu _ h
  refine ⟨v, k', hp, fun b w hb hr => ?_⟩
  have hM : Mrel (env (Lv :: .int .i64 ((k : Nat) : Int) :: rest)) (fun _ => b) [b] w (fun i => find i tapeM) w := by
    have hfind : ∀ i m, find i tapeM = some m → i = 0 ∧ m = ⟨35, [.one (.v 0), .one (.int .i64 (.v 1))], none⟩ := fun i m h => by
      simp only [tapeM, find] at h
      split at h
      · rename_i h0
        cases h; exact ⟨natBeq h0, rfl⟩
      · cases h
    refine ⟨rfl, rfl, rfl, Nat.le_refl _, fun _ _ _ => rfl, fun i m hm => ?_, fun i m hm _ => .inr (by simp), fun i j m m' hm hm' _ _ _ => ?_, fun x hx => ⟨(hr x hx).1, by simpa using (hr x hx).2⟩⟩
    · obtain ⟨rfl, rfl⟩ := hfind i m hm
      exact ⟨_, fun _ => hb, fits_mk (by simp [densP, Piece.den, Cell.den, env, Tm.i, Tm.den, vInt, hL])⟩
    · rw [(hfind i m hm).1, (hfind j m' hm').1]
  refine (hc (fun _ => b) [b] w hM).mono fun e w' ⟨β', hβ, he, hm⟩ => ⟨by rw [he]; exact congrArg Ending.returned (hv β'), [(b, .cells (Tk Lv k') 35)], ?_, .head _⟩
  obtain ⟨o, ho, hfo⟩ := hm.cells 0 _ hf
  have ho := ho rfl
  rw [fits_cells hfo, hd, hβ 0 (by omega)] at ho
  have hlt : b < w.heap.size := (Array.getElem?_eq_some_iff.1 hb).1
  refine ⟨hm.os, hm.tape, hm.output, hm.size, fun k hk hn => hm.old k hk (by simpa using fun e => hn (congrArg some e.symm)), fun x hx => ?_, fun x hx => ?_, by simp⟩
  · obtain ⟨h1, h2⟩ := hr x hx
    refine ⟨(Array.getElem?_eq_some_iff.1 h1).1, fun e => h2 (Option.some.inj e).symm, ?_⟩
    rw [hm.old _ (Array.getElem?_eq_some_iff.1 h1).1 (by simpa using h2)]; exact h1
  · cases List.mem_singleton.1 hx
    exact ⟨.inr rfl, ho⟩
end Go.Proofs.YteemnnajfiimlaaDoor
