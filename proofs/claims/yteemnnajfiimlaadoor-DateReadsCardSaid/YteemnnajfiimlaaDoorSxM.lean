/- Symbolic execution: a region in whatever order its edges allow ends as in the order of the text. No program is named here. -/
import Derived.Test.YteemnnajfiimlaaDoorSxL
namespace Go.Proofs.YteemnnajfiimlaaDoor.Sx
open Go.RowKit

def interN : List Nat → List Nat → Bool
  | [], _ => false
  | i :: l, m => memN i m || interN l m
def keysOf : Mem → List Nat
  | [] => []
  | (i, _) :: l => i :: keysOf l
def idsM : Mem → List Nat
  | [] => []
  | (i, some m) :: l => i :: (m.ids ++ idsM l)
  | (_, none) :: l => idsM l
def dstIn (d : Option Nat) (l : List Nat) : Bool :=
  match d with
  | some t => memN t l
  | none => false
def depR (r s : Rec) : Bool :=
  dstIn r.dst s.looks || dstIn s.dst r.looks || dstIn r.dst s.dst.toList || interN (keysOf r.upd) s.fp || interN (keysOf s.upd) r.fp || interN (keysOf r.upd) (keysOf s.upd) || r.whole || s.whole
def inSpan (lo hi : Nat) : List Nat → Bool
  | [] => false
  | i :: l => (Nat.ble lo i && Nat.blt i hi) || inSpan lo hi l
/-- s speaks of a block that r has made. -/
def mentions (r s : Rec) : Bool := inSpan r.lo r.hi (s.val.ids ++ idsM s.upd)
def pairOk (i : Nat) (r s : Rec) (m : Nat) : Bool := (Nat.testBit m i || !(depR r s || mentions r s)) && !mentions s r
def checkPairs (recs : List Rec) (masks : List Nat) (n : Nat) : Bool :=
  (List.range n).all fun j => (List.range j).all fun i =>
    match recs[i]?, recs[j]?, masks[j]? with
    | some r, some s, some m => pairOk i r s m
    | _, _, _ => false
def checkRegion (ops : Array Oper) (st : St) (recs : List Rec) : Bool :=
  boundS st && forward ops.toList 0 && checkPairs recs (masksOf ops.toList []) ops.toList.length

theorem keysOf_eq : ∀ (m : Mem), keysOf m = m.map (·.1)
  | [] => rfl
  | (_, _) :: l => by simp [keysOf, keysOf_eq l]
theorem interN_iff {a b : List Nat} : interN a b = true ↔ ∃ i, i ∈ a ∧ i ∈ b := by
  induction a with
  | nil => simp [interN]
  | cons x l ih => simp [interN, memN_iff, ih]
theorem dstIn_iff {d : Option Nat} {l : List Nat} : dstIn d l = true ↔ ∃ t, d = some t ∧ t ∈ l := by
  cases d <;> simp [dstIn, memN_iff]
theorem inSpan_iff {lo hi : Nat} {l : List Nat} : inSpan lo hi l = true ↔ ∃ i ∈ l, lo ≤ i ∧ i < hi := by
  induction l with
  | nil => simp [inSpan]
  | cons x l ih => simp [inSpan, Nat.blt_eq, Nat.ble_eq, ih]
theorem idsM_mem {i : Nat} {m : MB} : ∀ {l : Mem}, (i, some m) ∈ l → i ∈ idsM l ∧ ∀ j ∈ m.ids, j ∈ idsM l
  | (k, some m') :: l, h => by
    rcases List.mem_cons.1 h with h | h
    · cases h
      exact ⟨by simp [idsM], fun j hj => by simp [idsM, hj]⟩
    · obtain ⟨h1, h2⟩ := idsM_mem h
      exact ⟨by simp [idsM, h1], fun j hj => by simp [idsM, h2 j hj]⟩
  | (k, none) :: l, h => by
    rcases List.mem_cons.1 h with h | h
    · cases h
    · obtain ⟨h1, h2⟩ := idsM_mem h
      exact ⟨by simp [idsM, h1], fun j hj => by simp [idsM, h2 j hj]⟩
  | [], h => by cases h

theorem foldT_shift {p : Nat → Bool} : ∀ {k : Nat} {rs : List Rec} {tm : List SW}, foldT p (k + 1) rs tm = foldT (fun i => p (i + 1)) k rs tm
  | _, [], _ => rfl
  | k, r :: rs, tm => by simp only [foldT]; exact foldT_shift
theorem foldM_shift {p : Nat → Bool} : ∀ {k : Nat} {rs : List Rec} {mm : Nat → Option MB}, foldM p (k + 1) rs mm = foldM (fun i => p (i + 1)) k rs mm
  | _, [], _ => rfl
  | k, r :: rs, tm => by simp only [foldM]; exact foldM_shift
theorem foldT_ids [Outer] {p : Nat → Bool} {t i : Nat} : ∀ {k : Nat} {rs : List Rec} {tm : List SW}, i ∈ (look (foldT p k rs tm) t).ids → i ∈ (look tm t).ids ∨ ∃ j r, rs[j]? = some r ∧ p (k + j) = true ∧ i ∈ r.val.ids
  | k, [], tm, h => .inl h
  | k, r :: rs, tm, h => by
    simp only [foldT] at h
    rcases foldT_ids h with h | ⟨j, r', h1, h2, h3⟩
    · split at h
      · rename_i hp
        by_cases hd : r.dst = some t
        · rcases Nat.lt_or_ge t tm.length with ht | ht
          · rw [hd, look_putT_self ht] at h
            exact .inr ⟨0, r, by simp, by simpa using hp, h⟩
          · have : look (putT (some t) r.val tm) t = .undef := by simp [putT, look_get, ht]
            rw [hd, this] at h
            cases h
        · rw [look_putT_ne hd] at h; exact .inl h
      · exact .inl h
    · exact .inr ⟨j + 1, r', by simpa using h1, by rwa [show k + 1 + j = k + (j + 1) by omega] at h2, h3⟩
theorem setFs_mem {i : Nat} {m : MB} : ∀ {upd : Mem} {g : Nat → Option MB}, setFs g upd i = some m → g i = some m ∨ (i, some m) ∈ upd
  | [], g, h => .inl h
  | (j, m') :: upd, g, h => by
    simp only [setFs] at h
    rcases setFs_mem h with h | h
    · unfold setF at h
      split at h
      · rename_i hij; cases h; subst hij; exact .inr (.head _)
      · exact .inl h
    · exact .inr (.tail _ h)
theorem foldM_ids [Outer] {p : Nat → Bool} {i : Nat} {m : MB} : ∀ {k : Nat} {rs : List Rec} {mm : Nat → Option MB}, foldM p k rs mm i = some m → mm i = some m ∨ ∃ j r, rs[j]? = some r ∧ p (k + j) = true ∧ (i, some m) ∈ r.upd
  | k, [], mm, h => .inl h
  | k, r :: rs, mm, h => by
    simp only [foldM] at h
    rcases foldM_ids h with h | ⟨j, r', h1, h2, h3⟩
    · split at h
      · rename_i hp
        rcases setFs_mem h with h | h
        · exact .inl h
        · exact .inr ⟨0, r, by simp, by simpa using hp, h⟩
      · exact .inl h
    · exact .inr ⟨j + 1, r', by simpa using h1, by rwa [show k + 1 + j = k + (j + 1) by omega] at h2, h3⟩
theorem ext_look {l l' : List SW} (hl : l.length = l'.length) (h : ∀ t, look l t = look l' t) : l = l' := by
  refine List.ext_getElem hl fun t h1 h2 => ?_
  have := h t
  rw [look_get, look_get] at this
  simpa [h1, h2] using this

section
variable {P : Program} {ρ : Nat → Value} {inh : List Nat} {w0 : World} {cfg : Cfg} {asm : Asm} {callee : Callee} {ops : Array Oper}

theorem runOps_at [Outer] (hU : CalleeUp callee) : ∀ {os : List Oper} {st : St} {x : St × List Rec} {evs : List Ev}, runOps P cfg asm callee ops os st = .ok x evs → ∀ k o, os[k]? = some o →
    ∃ r stk e, x.2[k]? = some r ∧ stepOp P cfg asm callee ops stk o = .ok r e ∧ (∀ y ∈ e, y ∈ evs) ∧ stk.tmps = foldT (fun i => decide (i < k)) 0 x.2 st.tmps ∧
      (fun i => find i stk.mem) = foldM (fun i => decide (i < k)) 0 x.2 (fun i => find i st.mem) ∧ st.nx ≤ stk.nx
  | [], st, x, evs, h, k, o, ho => by simp at ho
  | o' :: os, st, x, evs, h, k, o, ho => by
    simp only [runOps] at h
    obtain ⟨r, e1, e2, h1, h2, rfl⟩ := R.bind_ok h
    obtain ⟨y, e3, e4, h3, h4, rfl⟩ := R.bind_ok h2
    cases h4
    cases k with
    | zero =>
      simp at ho
      subst ho
      refine ⟨r, st, e1, by simp, h1, fun y hy => by simp [hy], ?_, ?_, Nat.le_refl _⟩
      · exact (foldT_none fun i _ => by simp).symm
      · exact (foldM_none fun i _ => by simp).symm
    | succ k =>
      obtain ⟨r', stk, e, k1, k2, k3, k4, k5, k6⟩ := runOps_at hU h3 k o (by simpa using ho)
      refine ⟨r', stk, e, by simpa using k1, k2, fun z hz => by simp [k3 z hz], ?_, ?_, ?_⟩
      · rw [k4]
        simp only [foldT, Nat.zero_lt_succ, decide_true, if_true, St.after]
        rw [foldT_shift]
        simp
      · rw [k5]
        simp only [foldM, Nat.zero_lt_succ, decide_true, if_true, St.after, find_putMs]
        rw [foldM_shift]
        simp
      · have := step_up hU h1
        simp only [after_nx] at k6
        omega
theorem runOps_end [Outer] : ∀ {os : List Oper} {st : St} {x : St × List Rec} {evs : List Ev}, runOps P cfg asm callee ops os st = .ok x evs →
    x.2.length = os.length ∧ x.1.tmps = foldT (fun _ => true) 0 x.2 st.tmps ∧ (fun i => find i x.1.mem) = foldM (fun _ => true) 0 x.2 (fun i => find i st.mem)
  | [], st, x, evs, h => by cases h; exact ⟨rfl, rfl, rfl⟩
  | o' :: os, st, x, evs, h => by
    simp only [runOps] at h
    obtain ⟨r, e1, e2, h1, h2, rfl⟩ := R.bind_ok h
    obtain ⟨y, e3, e4, h3, h4, rfl⟩ := R.bind_ok h2
    cases h4
    obtain ⟨k1, k2, k3⟩ := runOps_end h3
    refine ⟨by simp [k1], ?_, ?_⟩
    · show y.1.tmps = _
      rw [k2]; simp only [foldT, if_true, St.after]; rw [foldT_shift]
    · show (fun i => find i y.1.mem) = _
      rw [k3]; simp only [foldM, if_true, St.after, find_putMs]; rw [foldM_shift]

/-- Behind the operations that have come up. -/
def Inv [Outer] (ρ : Nat → Value) (inh : List Nat) (w0 : World) (β0 : Nat → Nat) (st : St) (recs : List Rec) (listed : Array Bool) (a : Act) (w : World) : Prop :=
  ∃ β, (∀ i, i < st.nx → β i = β0 i) ∧ Trel ρ β (foldT (fun i => listed.getD i false) 0 recs st.tmps) a.tmps ∧ a.defers = [] ∧ Mrel ρ β inh w0 (foldM (fun i => listed.getD i false) 0 recs fun i => find i st.mem) w

theorem inv_step [Outer] (hN : ∀ (f : Nat) (fn : Func), P.funcs[f]? = some fn → (fn.name == "runtime.NumGoroutine") = false) (hC : CalleeOk P ρ callee) (hU : CalleeUp callee) (hasm : Asm.den ρ asm) {st : St} {x : St × List Rec} {evs : List Ev}
    (h : runOps P cfg asm callee ops ops.toList st = .ok x evs) (hev : Holds P ρ evs) (hchk : checkRegion ops st x.2 = true) {β0 : Nat → Nat} {listed : Array Bool} (hcl : Closed ops listed) {k : Nat} (hk : k ∈ Region.ready .any ops listed) {Q : Exit → Act → World → Prop} {a : Act} {w : World}
    (hI : Inv ρ inh w0 β0 st x.2 listed a w) : wpOp P ops Q k (Inv ρ inh w0 β0 st x.2 (listed.setIfInBounds k true)) a w := by
  obtain ⟨hun, o, ho, hpre⟩ := mem_ready.1 hk
  have hLk : listed.getD k false = false := getD_both hun
  have hklt : k < listed.size := by
    rw [hcl.1]; exact (Array.getElem?_eq_some_iff.1 ho).1
  obtain ⟨r, stk, e, hr, hstep, hsub, htm, hmm, hnx⟩ := runOps_at hU h k o (by simpa using ho)
  have hevk : Holds P ρ e := fun y hy => hev y (hsub y hy)
  simp only [checkRegion, Bool.and_eq_true] at hchk
  obtain ⟨⟨hb0, hfwd⟩, hpairs⟩ := hchk
  simp only [boundS, Bool.and_eq_true] at hb0
  have hlen := (runOps_end h).1
  have hmaskok : MaskOk ops (masksOf ops.toList []) := masksOf_ok ops ops.toList [] (by simp) (by intro k m hm; simp at hm)
  have hpair : ∀ i j ri rj, i < j → x.2[i]? = some ri → x.2[j]? = some rj → ∃ m, (masksOf ops.toList [])[j]? = some m ∧ pairOk i ri rj m = true := fun i j ri rj hij hi hj => by
    have hjl : j < ops.toList.length := by rw [← hlen]; exact (List.getElem?_eq_some_iff.1 hj).1
    have := List.all_eq_true.1 (List.all_eq_true.1 hpairs j (by simpa using hjl)) i (by simpa using hij)
    rw [hi, hj] at this
    split at this
    · rename_i ri' rj' m e1 e2 em
      cases e1; cases e2
      exact ⟨m, em, this⟩
    · cases this
  -- what is before, what is behind
  have hanc : ∀ j m, (masksOf ops.toList [])[k]? = some m → m.testBit j = true → listed.getD j false = true := fun j m hm hj =>
    hmaskok k m hm listed hcl (fun ok hok e he hb => by
      have : ok = o := Option.some.inj (hok.symm.trans ho)
      subst this; exact hpre e he hb) j hj
  have hdesc : ∀ j m, (masksOf ops.toList [])[j]? = some m → m.testBit k = true → listed.getD j false = false := fun j m hm hj => by
    cases hl : listed.getD j false with
    | false => rfl
    | true =>
      have := hmaskok j m hm listed hcl (fun ok hok e he hb => hcl.2 j ok hok hl e he hb) k hj
      rw [hLk] at this; cases this
  have hdep : ∀ i ri, i ≠ k → x.2[i]? = some ri → (depR ri r = true ∨ depR r ri = true) → listed.getD i false = decide (i < k) := fun i ri hne hi hd => by
    have hsym : depR ri r = true ∧ depR r ri = true := by
      have e : depR ri r = depR r ri := by
        have hi2 : ∀ a b : List Nat, interN a b = interN b a := fun a b => by rw [Bool.eq_iff_iff, interN_iff, interN_iff]; exact ⟨fun ⟨i, h⟩ => ⟨i, h.2, h.1⟩, fun ⟨i, h⟩ => ⟨i, h.2, h.1⟩⟩
        have hi3 : dstIn ri.dst r.dst.toList = dstIn r.dst ri.dst.toList := by
          rw [Bool.eq_iff_iff, dstIn_iff, dstIn_iff]
          cases ri.dst <;> cases r.dst <;> simp [eq_comm]
        unfold depR
        rw [hi3, hi2 (keysOf ri.upd) (keysOf r.upd)]
        cases dstIn ri.dst r.looks <;> cases dstIn r.dst ri.looks <;> cases dstIn r.dst ri.dst.toList <;> cases interN (keysOf ri.upd) r.fp <;> cases interN (keysOf r.upd) ri.fp <;> cases interN (keysOf r.upd) (keysOf ri.upd) <;> cases ri.whole <;> cases r.whole <;> rfl
      rcases hd with hd | hd
      · exact ⟨hd, by rw [← e]; exact hd⟩
      · exact ⟨by rw [e]; exact hd, hd⟩
    rcases Nat.lt_or_gt_of_ne hne with hlt | hgt
    · obtain ⟨m, hm, hp⟩ := hpair i k ri r hlt hi hr
      simp only [pairOk, Bool.and_eq_true, Bool.or_eq_true, Bool.not_eq_true'] at hp
      rcases hp.1 with hp | hp
      · rw [hanc i m hm hp]; simp [hlt]
      · rw [hsym.1] at hp; simp at hp
    · obtain ⟨m, hm, hp⟩ := hpair k i r ri hgt hr hi
      simp only [pairOk, Bool.and_eq_true, Bool.or_eq_true, Bool.not_eq_true'] at hp
      rcases hp.1 with hp | hp
      · rw [hdesc i m hm hp]; simp; omega
      · rw [hsym.2] at hp; simp at hp
  have hment : ∀ i ri, x.2[i]? = some ri → listed.getD i false = true → mentions r ri = false := fun i ri hi hl => by
    have hne : i ≠ k := fun e => by subst e; rw [hLk] at hl; cases hl
    rcases Nat.lt_or_gt_of_ne hne with hlt | hgt
    · obtain ⟨m, hm, hp⟩ := hpair i k ri r hlt hi hr
      simp only [pairOk, Bool.and_eq_true, Bool.not_eq_true'] at hp
      exact hp.2
    · obtain ⟨m, hm, hp⟩ := hpair k i r ri hgt hr hi
      simp only [pairOk, Bool.and_eq_true, Bool.or_eq_true, Bool.not_eq_true'] at hp
      rcases hp.1 with hp | hp
      · rw [hdesc i m hm hp] at hl; cases hl
      · simp at hp; exact hp.2
  obtain ⟨hdst, hlooks⟩ := step_dst hstep
  have hlo := (step_bound hstep).1
  obtain ⟨β, hβ, ha, hd, hM⟩ := hI
  -- where the operation looks, all is as in the order of the text
  have hlook : ∀ t ∈ o.looksAt ops, look (foldT (fun i => listed.getD i false) 0 x.2 st.tmps) t = look stk.tmps t := fun t ht => by
    rw [htm]
    refine foldT_look (fun i ri hi hdi => ?_) rfl rfl
    simp only [Nat.zero_add]
    by_cases hik : i = k
    · subst hik; rw [hLk]; simp
    · refine hdep i ri hik hi (.inl ?_)
      unfold depR
      have : dstIn ri.dst r.looks = true := dstIn_iff.2 ⟨t, hdi, by rw [hlooks]; exact ht⟩
      simp [this]
  have hmem : ∀ b ∈ r.fp, foldM (fun i => listed.getD i false) 0 x.2 (fun i => find i st.mem) b = find b stk.mem := fun b hb => by
    have this : find b stk.mem = _ := congrFun hmm b
    rw [this]
    refine foldM_congr (fun i ri hi hdi => ?_) rfl
    simp only [Nat.zero_add]
    by_cases hik : i = k
    · subst hik; rw [hLk]; simp
    · refine hdep i ri hik hi (.inl ?_)
      unfold depR
      have : interN (keysOf ri.upd) r.fp = true := interN_iff.2 ⟨b, by rw [keysOf_eq]; exact hdi, hb⟩
      simp [this]
  have hwl : r.whole = true → ∀ i ri, x.2[i]? = some ri → listed.getD i false = decide (i < k) := fun hw i ri hi => by
    by_cases hik : i = k
    · subst hik; rw [hLk]; simp
    · refine hdep i ri hik hi (.inl ?_)
      unfold depR
      simp [hw]
  have hwhole : r.whole = true → foldM (fun i => listed.getD i false) 0 x.2 (fun i => find i st.mem) = fun i => find i stk.mem := fun hw => by
    rw [hmm]
    funext b
    exact foldM_congr (fun i ri hi _ => by simp only [Nat.zero_add]; exact hwl hw i ri hi) rfl
  have hwholeT : r.whole = true → ∀ t, look (foldT (fun i => listed.getD i false) 0 x.2 st.tmps) t = look stk.tmps t := fun hw t => by
    rw [htm]
    exact foldT_look (fun i ri hi _ => by simp only [Nat.zero_add]; exact hwl hw i ri hi) rfl rfl
  obtain ⟨hold1, hold2⟩ := step_old hstep
  have hnew : r.whole = false → ∀ i, ¬ (r.lo ≤ i ∧ i < r.hi) → r.old i := fun hw i hi => by
    unfold Rec.old
    rcases Nat.lt_or_ge i r.lo with h | h
    · exact .inl h
    · exact .inr ⟨hw, Nat.le_of_not_lt fun hh => hi ⟨h, hh⟩⟩
  have hft : ∀ t, ∀ i ∈ (look (foldT (fun i => listed.getD i false) 0 x.2 st.tmps) t).ids, r.old i := fun t i hi => by
    cases hw : r.whole with
    | true => rw [hwholeT hw t] at hi; exact hold1 t i hi
    | false =>
      rcases foldT_ids hi with hi | ⟨j, rj, h1, h2, h3⟩
      · exact .inl (by rw [hlo]; exact Nat.lt_of_lt_of_le (boundT_look hb0.1 t i hi) hnx)
      · have hm := hment j rj h1 (by simpa using h2)
        refine hnew hw i fun hs => ?_
        have : mentions r rj = true := inSpan_iff.2 ⟨i, by simp [h3], hs⟩
        rw [hm] at this; cases this
  have hfm : ∀ i m, foldM (fun i => listed.getD i false) 0 x.2 (fun i => find i st.mem) i = some m → r.old i ∧ ∀ j ∈ m.ids, r.old j := fun i m hi => by
    cases hw : r.whole with
    | true => rw [hwhole hw] at hi; exact hold2 i m hi
    | false =>
      rcases foldM_ids hi with hi | ⟨j, rj, h1, h2, h3⟩
      · obtain ⟨g1, g2⟩ := boundM_find hb0.2 i m hi
        exact ⟨.inl (by rw [hlo]; exact Nat.lt_of_lt_of_le g1 hnx), fun j hj => .inl (by rw [hlo]; exact Nat.lt_of_lt_of_le (g2 j hj) hnx)⟩
      · have hm := hment j rj h1 (by simpa using h2)
        obtain ⟨g1, g2⟩ := idsM_mem h3
        refine ⟨hnew hw i fun hs => ?_, fun b hb => hnew hw b fun hs => ?_⟩
        · have : mentions r rj = true := inSpan_iff.2 ⟨i, by simp [g1], hs⟩
          rw [hm] at this; cases this
        · have : mentions r rj = true := inSpan_iff.2 ⟨b, by simp [g2 b hb], hs⟩
          rw [hm] at this; cases this
  have hs := stepOp_sound hN hC hasm hstep hevk hlook hmem hwhole hft hfm ha hM
  -- the effects with it
  have hset : ∀ i, (listed.setIfInBounds k true).getD i false = if i = k then true else listed.getD i false := fun i => by
    by_cases hik : i = k
    · subst hik; simp [hklt]
    · rw [getD_set_ne false (fun e => hik e.symm), if_neg hik]
  have hT : putT r.dst r.val (foldT (fun i => listed.getD i false) 0 x.2 st.tmps) = foldT (fun i => (listed.setIfInBounds k true).getD i false) 0 x.2 st.tmps := by
    refine ext_look (by rw [putT_length, foldT_length, foldT_length]) fun t => ?_
    by_cases hdt : r.dst = some t
    · rcases Nat.lt_or_ge t st.tmps.length with ht | ht
      · rw [hdt, look_putT_self (by rw [foldT_length]; exact ht)]
        refine (foldT_last hr hdt (by simp [hset]) (fun i ri hi hri hdi => ?_) ht).symm
        simp only [Nat.zero_add]
        rw [hset, if_neg (by omega)]
        have := hdep i ri (by omega) hri (.inl (by
          unfold depR
          have : dstIn ri.dst r.dst.toList = true := dstIn_iff.2 ⟨t, hdi, by rw [hdt]; simp⟩
          simp [this]))
        rw [this]; simp; omega
      · have e1 : ∀ l : List SW, l.length = st.tmps.length → look l t = .undef := fun l hl => by simp [look_get, hl, ht]
        rw [e1 _ (by rw [putT_length, foldT_length]), e1 _ (by rw [foldT_length])]
    · rw [look_putT_ne hdt]
      refine foldT_look (fun i ri hi hdi => ?_) rfl rfl
      simp only [Nat.zero_add]
      have : i ≠ k := fun e => by subst e; rw [hr] at hi; cases hi; exact hdt hdi
      rw [hset, if_neg this]
  have hMM : setFs (foldM (fun i => listed.getD i false) 0 x.2 fun i => find i st.mem) r.upd = foldM (fun i => (listed.setIfInBounds k true).getD i false) 0 x.2 fun i => find i st.mem := by
    funext b
    by_cases hb : b ∈ r.upd.map (·.1)
    · refine (foldM_last hr hb (by simp [hset]) (fun i ri hi hri hdi => ?_) _).symm
      simp only [Nat.zero_add]
      rw [hset, if_neg (by omega)]
      have := hdep i ri (by omega) hri (.inl (by
        unfold depR
        have : interN (keysOf ri.upd) (keysOf r.upd) = true := interN_iff.2 ⟨b, by rw [keysOf_eq]; exact hdi, by rw [keysOf_eq]; exact hb⟩
        simp [this]))
      rw [this]; simp; omega
    · rw [setFs_out hb]
      refine foldM_congr (fun i ri hi hdi => ?_) rfl
      simp only [Nat.zero_add]
      have : i ≠ k := fun e => by subst e; rw [hr] at hi; cases hi; exact hb hdi
      rw [hset, if_neg this]
  have hdef : ∀ (v : Value), (a.put o.dst v).defers = [] := fun v => by cases o.dst <;> exact hd
  unfold wpOp
  simp only [ho]
  rcases hs with ⟨hw, hs⟩ | ⟨hw, hv, hu⟩
  · rw [if_pos hw]
    refine .inl (hs _ Q fun v w' β' hβ' hv hm => ⟨β', fun i hi => ?_, ?_, hdef v, by rw [← hMM]; exact hm⟩)
    · rw [hβ' i (.inl (by rw [hlo]; omega)), hβ i hi]
    · rw [← hT, hdst]
      exact (ha.names fun t i hi => hβ' i (hft t i hi)).put o.dst r.val hv
  · rw [if_neg (by rw [hw]; exact Bool.false_ne_true)]
    refine ⟨β, hβ, ?_, hdef undef, by rw [← hMM, hu]; exact hM⟩
    rw [← hT, hdst]
    rw [hv]
    exact ha.put o.dst .undef rfl

theorem countP_set {n : Nat} {listed : Array Bool} {i : Nat} (hi : i < n) (hs : listed.size = n) (hu : listed.getD i false = false) :
    ((List.range n).countP fun t => (listed.setIfInBounds i true).getD t false) = ((List.range n).countP fun t => listed.getD t false) + 1 := by
  have key : ∀ (l : List Nat), l.Nodup → i ∈ l → (l.countP fun t => (listed.setIfInBounds i true).getD t false) = (l.countP fun t => listed.getD t false) + 1 := by
    intro l
    induction l with
    | nil => intro _ h; cases h
    | cons t l ih =>
      intro hn hm
      have hn' := List.nodup_cons.1 hn
      rw [List.countP_cons, List.countP_cons]
      by_cases he : t = i
      · subst he
        have h1 : (listed.setIfInBounds t true).getD t false = true := by simp [hs, hi]
        have h3 : (l.countP fun s => (listed.setIfInBounds t true).getD s false) = l.countP fun s => listed.getD s false :=
          List.countP_congr fun s hs => by rw [getD_set_ne false (fun e => hn'.1 (by rw [e]; exact hs))]
        rw [h1, hu, h3]; simp
      · have hm : i ∈ l := by
          rcases List.mem_cons.1 hm with h | h
          · exact absurd h.symm he
          · exact h
        rw [ih hn'.2 hm, getD_set_ne false (fun e => he e.symm)]
        omega
  exact key _ List.nodup_range (by simpa using hi)

theorem all_listed {listed : Array Bool} (hcl : Closed ops listed) (hf : forward ops.toList 0 = true) (hr : Region.ready .any ops listed = []) : ∀ i, i < ops.size → listed.getD i false = true := by
  have hfw : ∀ (os : List Oper) (k : Nat), forward os k = true → ∀ j o, os[j]? = some o → ∀ e ∈ o.after, Region.binds .any e = true → e.on < k + j := by
    intro os
    induction os with
    | nil => intro k _ j o ho; simp at ho
    | cons x xs ih =>
      intro k h j o ho e he hb
      simp only [forward, Bool.and_eq_true] at h
      cases j with
      | zero =>
        simp at ho; subst ho
        have := List.all_eq_true.1 h.1 e (by simpa using he)
        simpa [hb, Nat.blt_eq] using this
      | succ j => have := ih (k + 1) h.2 j o (by simpa using ho) e he hb; omega
  intro i
  induction i using Nat.strongRecOn with
  | _ i ih =>
    intro hi
    cases hl : listed.getD i false with
    | true => rfl
    | false =>
      exfalso
      have : i ∈ Region.ready .any ops listed := by
        refine mem_ready.2 ⟨?_, ops[i], by simp [hi], fun e he hb => ih e.on ?_ ?_⟩
        · have hsz : i < listed.size := by rw [hcl.1]; exact hi
          simp [hsz] at hl ⊢; exact hl
        · have := hfw ops.toList 0 hf i ops[i] (by simp [hi]) e he hb; omega
        · have := hfw ops.toList 0 hf i ops[i] (by simp [hi]) e he hb; omega
      rw [hr] at this; cases this

theorem region_any [Outer] (hN : ∀ (f : Nat) (fn : Func), P.funcs[f]? = some fn → (fn.name == "runtime.NumGoroutine") = false) (hC : CalleeOk P ρ callee) (hU : CalleeUp callee) (hasm : Asm.den ρ asm) (hD : P.follows .mixedOrders = true) {st : St} {x : St × List Rec} {evs : List Ev}
    (h : runOps P cfg asm callee ops ops.toList st = .ok x evs) (hev : Holds P ρ evs) (hchk : checkRegion ops st x.2 = true) {β : Nat → Nat} {a : Act} {w : World} (hR : Rel ρ β inh w0 st a w) {Q : Exit → Act → World → Prop} {id : Nat}
    (hQ : ∀ β' a' w', (∀ i, i < st.nx → β' i = β i) → Rel ρ β' inh w0 x.1 a' w' → Q .normal a' w') : (Code.region id ops true).wp P Q a w := by
  have hfwd : forward ops.toList 0 = true := by
    simp only [checkRegion, Bool.and_eq_true] at hchk
    exact hchk.1.2
  obtain ⟨hlen, hend1, hend2⟩ := runOps_end h
  have hdone : ∀ listed a' w', (∀ i, i < ops.size → listed.getD i false = true) → Inv ρ inh w0 β st x.2 listed a' w' → Q .normal a' w' := fun listed a' w' hall ⟨β', hβ, ha, hd, hM⟩ => by
    have hl : ∀ i ri, x.2[i]? = some ri → listed.getD i false = true := fun i ri hi => hall i (by have := (List.getElem?_eq_some_iff.1 hi).1; rw [hlen] at this; simpa using this)
    refine hQ β' a' w' hβ ⟨?_, hd, ?_⟩
    · rw [hend1]
      have : foldT (fun _ => true) 0 x.2 st.tmps = foldT (fun i => listed.getD i false) 0 x.2 st.tmps := ext_look (by rw [foldT_length, foldT_length]) fun t => foldT_look (fun i ri hi _ => by simp only [Nat.zero_add]; exact (hl i ri hi).symm) rfl rfl
      rw [this]; exact ha
    · rw [hend2]
      have : foldM (fun _ => true) 0 x.2 (fun i => find i st.mem) = foldM (fun i => listed.getD i false) 0 x.2 (fun i => find i st.mem) := by
        funext b
        exact foldM_congr (fun i ri hi _ => by simp only [Nat.zero_add]; exact (hl i ri hi).symm) rfl
      rw [this]; exact hM
  have main : ∀ (f : Nat) (listed : Array Bool) (a : Act) (w : World), Closed ops listed → ((List.range ops.size).countP fun t => listed.getD t false) + f = ops.size → Inv ρ inh w0 β st x.2 listed a w → wpAny P .any ops Q f listed a w := by
    intro f
    induction f with
    | zero =>
      intro listed a w hcl hc hI
      have hall : ∀ i, i < ops.size → listed.getD i false = true := fun i hi => by
        have : ((List.range ops.size).countP fun t => listed.getD t false) = (List.range ops.size).length := by rw [List.length_range]; omega
        exact List.countP_eq_length.1 this i (by simpa using hi)
      refine ⟨?_, hdone listed a w hall hI⟩
      cases hr : Region.ready .any ops listed with
      | nil => rfl
      | cons i l =>
        have hi : i ∈ Region.ready .any ops listed := by rw [hr]; exact .head _
        obtain ⟨hun, o, ho, _⟩ := mem_ready.1 hi
        have := hall i (Array.getElem?_eq_some_iff.1 ho).1
        rw [getD_both hun] at this; cases this
    | succ f ih =>
      intro listed a w hcl hc hI
      refine ⟨fun hr => hdone listed a w (all_listed hcl hfwd hr) hI, fun i hi => ?_⟩
      obtain ⟨hun, o, ho, _⟩ := mem_ready.1 hi
      have hilt := (Array.getElem?_eq_some_iff.1 ho).1
      refine wpOp_mono (fun a' w' hI' => ih _ a' w' (hcl.set hi) ?_ hI') (inv_step hN hC hU hasm h hev hchk hcl hi hI)
      have := countP_set (i := i) hilt hcl.1 (getD_both hun)
      omega
  have hrep : ∀ i, (Array.replicate ops.size false).getD i false = false := fun i => getD_replicate_false ..
  refine wp_region_any hD (main _ _ _ _ ⟨by simp, fun j oj _ hl => (by rw [hrep] at hl; cases hl)⟩ ?_ ⟨β, fun _ _ => rfl, ?_, hR.2.1, ?_⟩)
  · have : ((List.range ops.size).countP fun t => (Array.replicate ops.size false).getD t false) = 0 := by
      rw [List.countP_eq_zero]; intro t _; rw [hrep]; exact Bool.false_ne_true
    omega
  · rw [foldT_none fun i _ => hrep _]; exact hR.1
  · rw [foldM_none fun i _ => hrep _]; exact hR.2.2.drew
end
end Go.Proofs.YteemnnajfiimlaaDoor.Sx
