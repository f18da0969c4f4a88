/- A region whose order is left open that ends in two new variables and the two stores into them, with calls of functions of plain values in its head, the allocations anywhere. No program is named here. -/
import Derived.Test.YtfdlgeomaballaaGreatNew
namespace Go.Proofs.YtfdlgeomaballaaGreat
open Go.RowKit
variable {P : Program} {ops : Array Oper} {md : Region.Mode} {Q : Exit → Act → World → Prop} {c : Option Nat} {w0 : World} {r : List (Nat × Obj)}

/-- One operation: a value (a call of plain values among them), a new variable, a store. -/
def opA (P : Program) (ops : Array Oper) (c : Option Nat) (w0 : World) (r : List (Nat × Obj)) (i : Nat) (a : Act) (l : List (Nat × Obj)) (K : Act → List (Nat × Obj) → Prop) : Prop :=
  ∃ o, ops[i]? = some o ∧
    ((∃ v, (Region.wanted o (yielded ops a.tmps) = true ∧ Into P o a (fun w => St c w0 w r l) (fun w => St c w0 w r l) v ∨ Region.wanted o (yielded ops a.tmps) = false ∧ v = undef) ∧ K (a.put o.dst v) l) ∨
     (∃ t cs, o.guard = none ∧ o.op = .alloc t ∧ (P.info? t).map (·.zero) = some (some (.agg cs)) ∧ ∀ b, K (a.put o.dst (.pointer (some ⟨b, 0, none⟩))) ((b, .cells cs t) :: l)) ∨
     (∃ t x y b cs cs' T l', o.guard = none ∧ o.op = .store t x y ∧ Upd l b (.cells cs T) (.cells cs' T) l' ∧ (∀ w, St c w0 w r l → (execOp a.eval o).run P w = .ok .skip (w.setRow b cs')) ∧ K (a.put o.dst undef) l'))

def anyA (P : Program) (md : Region.Mode) (ops : Array Oper) (Q : Exit → Act → World → Prop) (c : Option Nat) (w0 : World) (r : List (Nat × Obj)) : Nat → Array Bool → Act → List (Nat × Obj) → Prop
  | 0, listed, a, l => Region.ready md ops listed = [] ∧ ∀ w, St c w0 w r l → Q .normal a w
  | f + 1, listed, a, l => (Region.ready md ops listed = [] → ∀ w, St c w0 w r l → Q .normal a w) ∧
    ∀ i ∈ Region.ready md ops listed, opA P ops c w0 r i a l (anyA P md ops Q c w0 r f (listed.setIfInBounds i true))

theorem wpOp_of_opA {i : Nat} {a : Act} {l : List (Nat × Obj)} {K : Act → List (Nat × Obj) → Prop} {K' : Act → World → Prop} {w : World} (hw : St c w0 w r l)
    (h : ∀ a w' l', St c w0 w' r l' → K a l' → K' a w') (hh : opA P ops c w0 r i a l K) : wpOp P ops Q i K' a w := by
  obtain ⟨o, ho, hh⟩ := hh
  rcases hh with ⟨v, hv, hk⟩ | ⟨t, cs, hg, hop, hz, hk⟩ | ⟨t, x, y, b, cs, cs', T, l', hg, hop, hu, hrun, hk⟩
  · rcases hv with ⟨hwt, hv⟩ | ⟨hwt, rfl⟩
    · unfold wpOp
      simp only [ho, hwt, if_true]
      have hv' := hv w hw
      refine .inl ?_
      unfold Oper.wp
      generalize (execOp a.eval o).run P w = r at *
      cases r with
      | ok n w' =>
        cases n <;> simp only [IntoAt] at hv' <;> simp only [Oper.upon]
        case value u => obtain ⟨rfl, h2⟩ := hv'; exact h _ _ _ h2 hk
        case skip => obtain ⟨rfl, h2⟩ := hv'; exact h _ _ _ h2 hk
        case enter f args =>
          obtain ⟨rfl, hc⟩ := hv'
          exact hc.mono fun e w'' ⟨he, hw''⟩ => by subst he; exact h _ _ _ hw'' hk
      | halt x w' => simp only [IntoAt] at hv'
    · unfold wpOp
      simp only [ho, hwt]
      exact h _ _ _ hw hk
  · exact wpOp_value ho hg (run_alloc_op w t hop cs hz) (h _ _ _ (hw.alloc _) (hk _))
  · exact wpOp_skip ho hg (hrun w hw) (h _ _ _ (hw.setRow hu) hk)

theorem wpAny_of_anyA : ∀ (f : Nat) (listed : Array Bool) (a : Act) (l : List (Nat × Obj)) (w : World), St c w0 w r l → anyA P md ops Q c w0 r f listed a l → wpAny P md ops Q f listed a w
  | 0, _, _, _, w, hw, h => ⟨h.1, h.2 w hw⟩
  | f + 1, _, _, _, w, hw, h => ⟨fun h0 => h.1 h0 w hw, fun i hi => wpOp_of_opA hw (fun a' w' l' hw' ha => wpAny_of_anyA f _ a' l' w' hw' ha) (h.2 i hi)⟩

/-- It yields v whatever blocks are ours besides. -/
def YA (P : Program) (ops : Array Oper) (c : Option Nat) (w0 : World) (r l : List (Nat × Obj)) (o : Oper) (v : Value) (a : Act) : Prop :=
  Region.wanted o (yielded ops a.tmps) = true ∧ ∀ l', l <:+ l' → Into P o a (fun w => St c w0 w r l') (fun w => St c w0 w r l') v
theorem YA.of_same {l : List (Nat × Obj)} {o : Oper} {v : Value} {a a' : Act} (hy : YA P ops c w0 r l o v a) (he : execOp a'.eval o = execOp a.eval o)
    (hw : Region.wanted o (yielded ops a'.tmps) = Region.wanted o (yielded ops a.tmps)) : YA P ops c w0 r l o v a' := by
  unfold YA Into at *
  rw [he, hw]
  exact hy
theorem YA.more {l : List (Nat × Obj)} {o : Oper} {v : Value} {a : Act} (hy : YA P ops c w0 r l o v a) (x : Nat × Obj) : YA P ops c w0 r (x :: l) o v a :=
  ⟨hy.1, fun l' h => hy.2 l' ((List.suffix_cons x l).trans h)⟩

theorem anyA_take {i : Nat} {oi : Oper} {v : Value} (hi : ops[i]? = some oi) (hsel : ∀ (j : Nat) (o : Oper) cs b, ops[j]? = some o → o.op ≠ .select cs b)
    (hwait : ∀ (j : Nat) (o : Oper) t x y, ops[j]? = some o → o.op = .store t x y → waitsT md ops 2 j i = true) :
    ∀ (f : Nat) (listed : Array Bool) (a : Act) (l : List (Nat × Obj)), Closed md ops listed →
      (∀ j oj, ops[j]? = some oj → j ≠ i → listed.getD j true = false → (∀ e ∈ oj.after, Region.binds md e = true → e.on ≠ i) → oi.apart ops oj = true) →
      i ∈ Region.ready md ops listed → YA P ops c w0 r l oi v a →
      anyA P md ops Q c w0 r f (listed.setIfInBounds i true) (a.put oi.dst v) l → anyA P md ops Q c w0 r (f + 1) listed a l := by
  intro f
  induction f with
  | zero =>
    intro listed a l _ _ hr hy H
    refine ⟨fun e => (by rw [e] at hr; cases hr), fun j hj => ?_⟩
    by_cases hji : j = i
    · subst hji; exact ⟨oi, hi, .inl ⟨v, .inl ⟨hy.1, hy.2 l (List.suffix_refl l)⟩, H⟩⟩
    · have := ready_mono hj hji
      rw [H.1] at this
      cases this
  | succ f ih =>
    intro listed a l hcl hfree hr hy H
    refine ⟨fun e => (by rw [e] at hr; cases hr), fun j hj => ?_⟩
    by_cases hji : j = i
    · subst hji; exact ⟨oi, hi, .inl ⟨v, .inl ⟨hy.1, hy.2 l (List.suffix_refl l)⟩, H⟩⟩
    · have h1 := H.2 j (ready_mono hj hji)
      obtain ⟨hjun, oj, hoj, hall⟩ := mem_ready.1 hj
      have hiun := (mem_ready.1 hr).1
      have hnot : ∀ e ∈ oj.after, Region.binds md e = true → e.on ≠ i := fun e he hb heq => by
        have h2 := hall e he hb
        rw [heq, getD_both hiun] at h2
        cases h2
      obtain ⟨p1, p2, p3⟩ := Oper.apart_spec (hfree j oj hoj hji hjun hnot)
      have hsi := fun cs b => hsel i oi cs b hi
      have hsj := fun cs b => hsel j oj cs b hoj
      have hcomm : (listed.setIfInBounds i true).setIfInBounds j true = (listed.setIfInBounds j true).setIfInBounds i true := Array.setIfInBounds_comm _ _ (Ne.symm hji)
      have hy' : ∀ u, YA P ops c w0 r l oi v (a.put oj.dst u) := fun u => hy.of_same (execOp_put oi hsi a oj.dst u p3) (wanted_put oi a oj.dst u p3)
      have next : ∀ u l', YA P ops c w0 r l' oi v (a.put oj.dst u) → anyA P md ops Q c w0 r f ((listed.setIfInBounds i true).setIfInBounds j true) ((a.put oi.dst v).put oj.dst u) l' → anyA P md ops Q c w0 r (f + 1) (listed.setIfInBounds j true) (a.put oj.dst u) l' := fun u l' hya hK => by
        refine ih _ _ _ (hcl.set hj) (fun k ok hk hki hun hno => hfree k ok hk hki ?_ hno) (ready_mono hr (Ne.symm hji)) hya ?_
        · by_cases hjk : j = k
          · subst hjk; exact hjun
          · rw [getD_set_ne true hjk] at hun; exact hun
        · rw [← hcomm, ← Act.put_comm a v u p2]; exact hK
      obtain ⟨oj', hoj', h1⟩ := h1
      obtain rfl : oj' = oj := Option.some.inj (hoj'.symm.trans hoj)
      rcases h1 with ⟨u, hu, hk⟩ | ⟨t, cs, hg, hop, hz, hk⟩ | ⟨t, x, y, b, cs, cs', T, l', hg, hop, hup, hrun, hk⟩
      · refine ⟨oj', hoj, .inl ⟨u, ?_, next u l (hy' u) hk⟩⟩
        rw [wanted_put oj' a oi.dst v p1] at hu
        rcases hu with ⟨hw, hu⟩ | hu
        · refine .inl ⟨hw, fun w hC => ?_⟩
          have := hu w hC
          rwa [execOp_put oj' hsj a oi.dst v p1] at this
        · exact .inr hu
      · exact ⟨oj', hoj, .inr (.inl ⟨t, cs, hg, hop, hz, fun b => next _ _ ((hy' _).more _) (hk b)⟩)⟩
      · exact absurd hj (not_ready_of_waitsT hcl (n := 2) (hwait j oj' t x y hoj hop) hiun)

theorem anyA_new {k : Nat} {o1 o2 o3 o4 : Oper} {t1 t2 : TypeId} {z1 z2 cs1 cs2 : Array Value} {l : List (Nat × Obj)} (h1 : ops[k]? = some o1) (h2 : ops[k + 1]? = some o2) (h3 : ops[k + 2]? = some o3) (h4 : ops[k + 3]? = some o4)
    (s3 : ∃ t x y, o3.op = .store t x y) (s4 : ∃ t x y, o4.op = .store t x y)
    {listed : Array Bool} {a : Act} (hB : okHd md ops 0 k listed = true) (hN : New P c w0 r l Q o1 o2 o3 o4 t1 t2 z1 z2 cs1 cs2 a) : anyA P md ops Q c w0 r 4 listed a l := by
  simp only [okHd, Bool.and_eq_true, decide_eq_true_eq] at hB
  obtain ⟨⟨⟨⟨⟨r0, r1⟩, r2⟩, r3⟩, r4⟩, r5⟩ := hB
  obtain ⟨t3, x3, y3, e3⟩ := s3
  obtain ⟨t4, x4, y4, e4⟩ := s4
  have one : ∀ {i f : Nat} {listed : Array Bool} {a : Act} {l : List (Nat × Obj)}, Region.ready md ops listed = [i] → opA P ops c w0 r i a l (anyA P md ops Q c w0 r f (listed.setIfInBounds i true)) → anyA P md ops Q c w0 r (f + 1) listed a l := fun {i f listed a l} hr h =>
    ⟨fun e => (by rw [hr] at e; cases e), fun j hj => (by rw [hr] at hj; obtain rfl := List.mem_singleton.1 hj; exact h)⟩
  refine ⟨fun e => (by rw [r0] at e; cases e), fun i hi => ?_⟩
  rw [r0] at hi
  have hi' : i = k ∨ i = k + 1 := by simpa using hi
  rcases hi' with rfl | rfl
  · refine ⟨o1, h1, .inr (.inl ⟨t1, z1, hN.g1, hN.op1, hN.zero1, fun b1 => one r1 ⟨o2, h2, .inr (.inl ⟨t2, z2, hN.g2, hN.op2, hN.zero2, fun b2 => ?_⟩)⟩⟩)⟩
    refine one r3 ⟨o3, h3, .inr (.inr ⟨t3, x3, y3, b1, z1, cs1, t1, _, hN.g3, e3, .tail .head, fun w hw => hN.run3 b1 b2 w hw, ?_⟩)⟩
    refine one r4 ⟨o4, h4, .inr (.inr ⟨t4, x4, y4, b2, z2, cs2, t2, _, hN.g4, e4, .head, fun w hw => hN.run4 b1 b2 w hw, ?_⟩)⟩
    exact ⟨r5, fun w hw => hN.rest b1 b2 w hw⟩
  · refine ⟨o2, h2, .inr (.inl ⟨t2, z2, hN.g2, hN.op2, hN.zero2, fun b2 => one r2 ⟨o1, h1, .inr (.inl ⟨t1, z1, hN.g1, hN.op1, hN.zero1, fun b1 => ?_⟩)⟩⟩)⟩
    rw [hN.comm, Array.setIfInBounds_comm _ _ (by omega)]
    refine one r3 ⟨o3, h3, .inr (.inr ⟨t3, x3, y3, b1, z1, cs1, t1, _, hN.g3, e3, .head, fun w hw => hN.run3 b1 b2 w hw.swap, ?_⟩)⟩
    refine one r4 ⟨o4, h4, .inr (.inr ⟨t4, x4, y4, b2, z2, cs2, t2, _, hN.g4, e4, .tail .head, fun w hw => hN.run4 b1 b2 w hw.swap, ?_⟩)⟩
    exact ⟨r5, fun w hw => hN.rest b1 b2 w hw.swap⟩

/-- The head, in the order of the text. -/
def wpHa (P : Program) (ops : Array Oper) (c : Option Nat) (w0 : World) (r l : List (Nat × Obj)) (K : Act → Prop) : List Oper → Act → Prop
  | [], a => K a
  | o :: rest, a => ∃ v, YA P ops c w0 r l o v a ∧ wpHa P ops c w0 r l K rest (a.put o.dst v)
theorem wpHa_cons {l : List (Nat × Obj)} {K : Act → Prop} {o : Oper} {rest : List Oper} {a : Act} (h : ∃ v, YA P ops c w0 r l o v a ∧ wpHa P ops c w0 r l K rest (a.put o.dst v)) : wpHa P ops c w0 r l K (o :: rest) a := h
theorem St.suffix {l l' : List (Nat × Obj)} {w : World} (h : St c w0 w r l') (hs : l <:+ l') : St c w0 w r l := by
  obtain ⟨p, rfl⟩ := hs
  induction p with
  | nil => exact h
  | cons x p ih => exact ih h.drop
theorem Ha_run {l : List (Nat × Obj)} {o : Oper} {v : Value} {a : Act} (hw : Region.wanted o (yielded ops a.tmps) = true) (h : ∀ w, St c w0 w r l → (execOp a.eval o).run P w = .ok (.value v) w) : YA P ops c w0 r l o v a :=
  ⟨hw, fun _ hs w hC => by rw [h w (hC.suffix hs)]; exact ⟨rfl, hC⟩⟩
theorem Ha_call {l : List (Nat × Obj)} {o : Oper} {v : Value} {a : Act} (f : FuncId) (args : Array Value) (hw : Region.wanted o (yielded ops a.tmps) = true) (h : ∀ w, (execOp a.eval o).run P w = .ok (.enter f args) w) (hg : Gives P f args v) : YA P ops c w0 r l o v a :=
  ⟨hw, fun _ _ w hC => by rw [h w]; exact ⟨rfl, hg.use hC fun w' h' => ⟨rfl, h'⟩⟩⟩

def isStore : Op → Bool
  | .store .. => true
  | _ => false
def okHa (md : Region.Mode) (ops : Array Oper) : Nat → Nat → Array Bool → Bool
  | 0, k, listed => okHd md ops 0 k listed
  | f + 1, k, listed => (Region.ready md ops listed).contains k && Region.free md ops listed k && ((List.range ops.size).all fun t => ((ops[t]?).all fun o => !isStore o.op) || waitsT md ops 2 t k) && okHa md ops f (k + 1) (listed.setIfInBounds k true)

theorem anyA_ha {l : List (Nat × Obj)} {o1 o2 o3 o4 : Oper} {t1 t2 : TypeId} {z1 z2 cs1 cs2 : Array Value} (hsel : Region.noSelect ops = true) (s3 : ∃ t x y, o3.op = .store t x y) (s4 : ∃ t x y, o4.op = .store t x y) :
    ∀ (hd : List Oper) (k : Nat) (listed : Array Bool) (a : Act), (∀ j, j < hd.length → hd[j]? = ops[k + j]?) → ops[k + hd.length]? = some o1 → ops[k + hd.length + 1]? = some o2 → ops[k + hd.length + 2]? = some o3 → ops[k + hd.length + 3]? = some o4 →
    Closed .any ops listed → okHa .any ops hd.length k listed = true → wpHa P ops c w0 r l (New P c w0 r l Q o1 o2 o3 o4 t1 t2 z1 z2 cs1 cs2) hd a →
    anyA P .any ops Q c w0 r (hd.length + 4) listed a l
  | [], k, listed, a, _, h1, h2, h3, h4, _, hB, h => by
    have := anyA_new h1 h2 h3 h4 s3 s4 hB h
    simpa using this
  | o :: hd, k, listed, a, hl, h1, h2, h3, h4, hcl, hB, ⟨v, hy, h⟩ => by
    have h0 : ops[k]? = some o := by simpa using (hl 0 (by simp)).symm
    simp only [List.length_cons, okHa, Bool.and_eq_true, List.all_eq_true, List.mem_range, Bool.or_eq_true] at hB
    obtain ⟨⟨⟨hr, hf⟩, hwt⟩, hB⟩ := hB
    have hr' : k ∈ Region.ready .any ops listed := by simpa using hr
    have e : k + (o :: hd).length = k + 1 + hd.length := by simp only [List.length_cons]; omega
    rw [e] at h1 h2 h3 h4
    rw [show (o :: hd).length + 4 = hd.length + 4 + 1 by simp only [List.length_cons]]
    refine anyA_take h0 (Region.noSelect_spec hsel) (fun j oj t x y hj hop => ?_) (hd.length + 4) listed a l hcl (Region.free_spec h0 hf) hr' hy ?_
    · rcases hwt j (Array.getElem?_eq_some_iff.1 hj).1 with h | h
      · rw [hj] at h; simp [isStore, hop] at h
      · exact h
    · exact anyA_ha hsel s3 s4 hd (k + 1) _ _ (fun j hj => by have := hl (j + 1) (by simp [hj]); simpa [Nat.add_assoc, Nat.add_comm 1 j] using this) h1 h2 h3 h4 (hcl.set hr') hB h

/-- THE REGION: n operations that read or call, two allocations, two stores. -/
theorem wp_region_2newa {id : Nat} {a : Act} {w : World} {l : List (Nat × Obj)} {hd : List Oper} {o1 o2 o3 o4 : Oper} (t1 t2 : TypeId) (z1 z2 cs1 cs2 : Array Value) (hS : St c w0 w r l) (hm : P.follows .mixedOrders = true) (hsel : Region.noSelect (hd ++ [o1, o2, o3, o4]).toArray = true)
    (hB : okHa .any (hd ++ [o1, o2, o3, o4]).toArray hd.length 0 (Array.replicate (hd ++ [o1, o2, o3, o4]).toArray.size false) = true) (s3 : ∃ t x y, o3.op = .store t x y) (s4 : ∃ t x y, o4.op = .store t x y)
    (h : wpHa P (hd ++ [o1, o2, o3, o4]).toArray c w0 r l (New P c w0 r l Q o1 o2 o3 o4 t1 t2 z1 z2 cs1 cs2) hd a) : (Code.region id (hd ++ [o1, o2, o3, o4]).toArray true).wp P Q a w := by
  refine wp_region_any hm ?_
  have hcl : Closed .any (hd ++ [o1, o2, o3, o4]).toArray (Array.replicate (hd ++ [o1, o2, o3, o4]).toArray.size false) := ⟨by simp, fun j oj _ hl => (by rw [getD_replicate_false] at hl; cases hl)⟩
  have := wpAny_of_anyA _ _ a l w.drew hS.drew (anyA_ha (Q := Q) hsel s3 s4 hd 0 _ a (fun j hj => by rw [Nat.zero_add, List.getElem?_toArray]; exact (List.getElem?_append_left hj).symm) (by simp) (by simp) (by simp) (by simp) hcl hB h)
  have e : hd.length + 4 = (hd ++ [o1, o2, o3, o4]).toArray.size := by simp
  rw [e] at this
  exact this
end Go.Proofs.YtfdlgeomaballaaGreat
