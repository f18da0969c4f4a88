/- Symbolic execution: a region in whatever order its edges allow. No program is named here. -/
import Derived.Test.YteemnnajfiimlaaDoorSxK
namespace Go.Proofs.YteemnnajfiimlaaDoor.Sx
open Go.RowKit

/-! ### What has come up has come up behind all that it waits for -/
def Closed (ops : Array Oper) (listed : Array Bool) : Prop :=
  listed.size = ops.size ∧ ∀ j oj, ops[j]? = some oj → listed.getD j false = true → ∀ e ∈ oj.after, Region.binds .any e = true → listed.getD e.on false = true
theorem Closed.set {ops : Array Oper} {listed : Array Bool} {i : Nat} (h : Closed ops listed) (hi : i ∈ Region.ready .any ops listed) : Closed ops (listed.setIfInBounds i true) := by
  obtain ⟨_, oi, hoi, hall⟩ := mem_ready.1 hi
  refine ⟨by simp [h.1], fun j oj hj hl e he hb => ?_⟩
  by_cases hij : i = j
  · subst hij
    have : oj = oi := Option.some.inj (hj.symm.trans hoi)
    subst this
    exact getD_set_true (hall e he hb)
  · rw [getD_set_ne false hij] at hl
    exact getD_set_true (h.2 j oj hj hl e he hb)

/-! ### Ancestors -/
def maskOf (masks : List Nat) : List Edge → Nat
  | [] => 0
  | e :: es => match Region.binds .any e with
    | true => Nat.lor (Nat.lor (Nat.pow 2 e.on) (masks.getD e.on 0)) (maskOf masks es)
    | false => maskOf masks es
def masksOf : List Oper → List Nat → List Nat
  | [], acc => acc
  | o :: os, acc => masksOf os (acc ++ [maskOf acc o.after.toList])
def forward : List Oper → Nat → Bool
  | [], _ => true
  | o :: os, k => o.after.toList.all (fun e => !Region.binds .any e || Nat.blt e.on k) && forward os (k + 1)
theorem maskOf_bit {masks : List Nat} {j : Nat} : ∀ {es : List Edge}, (maskOf masks es).testBit j = true → ∃ e ∈ es, Region.binds .any e = true ∧ (j = e.on ∨ (masks.getD e.on 0).testBit j = true)
  | [], h => by simp [maskOf] at h
  | e :: es, h => by
    simp only [maskOf] at h
    split at h
    · rename_i hb
      have h : ((2 ^ e.on ||| masks.getD e.on 0) ||| maskOf masks es).testBit j = true := h
      rw [Nat.testBit_or, Nat.testBit_or, Bool.or_eq_true, Bool.or_eq_true, Nat.testBit_two_pow] at h
      rcases h with (h | h) | h
      · exact ⟨e, .head _, hb, .inl (by simpa using (of_decide_eq_true h).symm)⟩
      · exact ⟨e, .head _, hb, .inr h⟩
      · obtain ⟨e', he, h'⟩ := maskOf_bit h
        exact ⟨e', .tail _ he, h'⟩
    · obtain ⟨e', he, h'⟩ := maskOf_bit h
      exact ⟨e', .tail _ he, h'⟩
/-- Each mask holds only what must have come up before. -/
def MaskOk (ops : Array Oper) (masks : List Nat) : Prop :=
  ∀ (k m : Nat), masks[k]? = some m → ∀ listed, Closed ops listed → (∀ ok : Oper, ops[k]? = some ok → ∀ e ∈ ok.after, Region.binds .any e = true → listed.getD e.on false = true) → ∀ j, m.testBit j = true → listed.getD j false = true
theorem masksOf_ok [Outer] (ops : Array Oper) : ∀ (os : List Oper) (acc : List Nat), (∀ j, os[j]? = ops[acc.length + j]?) → MaskOk ops acc → MaskOk ops (masksOf os acc)
  | [], acc, _, h => h
  | o :: os, acc, ho, h => by
    have h0 : ops[acc.length]? = some o := by simpa using (ho 0).symm
    refine masksOf_ok ops os _ (fun j => by have := ho (j + 1); simp only [List.length_append, List.length_singleton]; rw [Nat.add_right_comm] at *; simpa [Nat.add_assoc, Nat.add_comm 1 j] using this) ?_
    intro k m hk listed hc hp j hj
    by_cases hlt : k < acc.length
    · rw [List.getElem?_append_left hlt] at hk
      exact h k m hk listed hc hp j hj
    · rw [List.getElem?_append_right (by omega)] at hk
      have hk0 : k = acc.length := by
        have := (List.getElem?_eq_some_iff.1 hk).1
        simp at this; omega
      subst hk0
      simp at hk
      subst hk
      obtain ⟨e, he, hb, hor⟩ := maskOf_bit hj
      have hl := hp o h0 e (by simpa using he) hb
      rcases hor with rfl | hbit
      · exact hl
      · cases hm : acc[e.on]? with
        | none => rw [List.getD_eq_getElem?_getD, hm] at hbit; simp at hbit
        | some m' =>
          rw [List.getD_eq_getElem?_getD, hm] at hbit
          exact h e.on m' hm listed hc (fun ok hok e' he' hb' => hc.2 e.on ok hok hl e' he' hb') j hbit

/-! ### The effects of a set of operations -/
def foldT (p : Nat → Bool) : Nat → List Rec → List SW → List SW
  | _, [], tm => tm
  | k, r :: rs, tm => foldT p (k + 1) rs (if p k then putT r.dst r.val tm else tm)
def foldM (p : Nat → Bool) : Nat → List Rec → (Nat → Option MB) → Nat → Option MB
  | _, [], mm => mm
  | k, r :: rs, mm => foldM p (k + 1) rs (if p k then setFs mm r.upd else mm)
theorem foldT_length (p : Nat → Bool) : ∀ (k : Nat) (rs : List Rec) (tm : List SW), (foldT p k rs tm).length = tm.length
  | _, [], _ => rfl
  | k, r :: rs, tm => by
    simp only [foldT, foldT_length p (k + 1) rs]
    split
    · exact putT_length _ _ _
    · rfl
theorem look_put_congr [Outer] {dst : Option Nat} {v : SW} {l l' : List SW} {t : Nat} (hl : l.length = l'.length) (h : dst ≠ some t → look l t = look l' t) (h' : dst = some t → l.length ≤ t → look l t = look l' t) : look (putT dst v l) t = look (putT dst v l') t := by
  by_cases hd : dst = some t
  · subst hd
    rcases Nat.lt_or_ge t l.length with ht | ht
    · rw [look_putT_self ht, look_putT_self (by omega)]
    · have e1 : look (putT (some t) v l) t = .undef := by simp [putT, look_get, ht]
      have e2 : look (putT (some t) v l') t = .undef := by rw [hl] at ht; simp [putT, look_get, ht]
      rw [e1, e2]
  · rw [look_putT_ne hd, look_putT_ne hd, h hd]
theorem foldT_look [Outer] {p q : Nat → Bool} {t : Nat} : ∀ {k : Nat} {rs : List Rec} {tm tm' : List SW}, (∀ i r, rs[i]? = some r → r.dst = some t → p (k + i) = q (k + i)) → tm.length = tm'.length → look tm t = look tm' t →
    look (foldT p k rs tm) t = look (foldT q k rs tm') t
  | k, [], tm, tm', _, _, h => h
  | k, r :: rs, tm, tm', hpq, hl, h => by
    simp only [foldT]
    refine foldT_look (fun i r' hr hd => by have := hpq (i + 1) r' (by simpa using hr) hd; rwa [show k + (i + 1) = k + 1 + i by omega] at this) ?_ ?_
    · split <;> split <;> simp [putT_length, hl]
    · by_cases hd : r.dst = some t
      · have := hpq 0 r (by simp) hd
        simp only [Nat.add_zero] at this
        rw [this]
        split
        · exact look_put_congr hl (fun _ => h) (fun _ _ => h)
        · exact h
      · split <;> split <;> simp only [look_putT_ne hd, h]
theorem setFs_congr : ∀ {upd : Mem} {g g' : Nat → Option MB} {b : Nat}, (b ∉ upd.map (·.1) → g b = g' b) → setFs g upd b = setFs g' upd b
  | [], g, g', b, h => h (by simp)
  | (i, m) :: upd, g, g', b, h => by
    simp only [setFs]
    refine setFs_congr fun hb => ?_
    unfold setF
    split
    · rfl
    · rename_i hi; exact h (by simp [hi]; simpa using hb)
theorem setFs_out : ∀ {upd : Mem} {g : Nat → Option MB} {b : Nat}, b ∉ upd.map (·.1) → setFs g upd b = g b
  | [], g, b, _ => rfl
  | (i, m) :: upd, g, b, h => by
    simp only [List.map_cons, List.mem_cons, not_or] at h
    simp only [setFs]
    rw [setFs_out h.2]
    simp [setF, h.1]
theorem foldM_congr [Outer] {p q : Nat → Bool} {b : Nat} : ∀ {k : Nat} {rs : List Rec} {mm mm' : Nat → Option MB}, (∀ i r, rs[i]? = some r → b ∈ r.upd.map (·.1) → p (k + i) = q (k + i)) → mm b = mm' b → foldM p k rs mm b = foldM q k rs mm' b
  | k, [], mm, mm', _, h => h
  | k, r :: rs, mm, mm', hpq, h => by
    simp only [foldM]
    refine foldM_congr (fun i r' hr hd => by have := hpq (i + 1) r' (by simpa using hr) hd; rwa [show k + (i + 1) = k + 1 + i by omega] at this) ?_
    by_cases hb : b ∈ r.upd.map (·.1)
    · have := hpq 0 r (by simp) hb
      simp only [Nat.add_zero] at this
      rw [this]
      split
      · exact setFs_congr fun h' => absurd hb h'
      · exact h
    · split <;> split <;> simp only [setFs_out hb, h]
/-- The last writer of a slot. -/
theorem foldT_last [Outer] {p : Nat → Bool} {t : Nat} : ∀ {k : Nat} {rs : List Rec} {tm : List SW} {j : Nat} {rj : Rec}, rs[j]? = some rj → rj.dst = some t → p (k + j) = true → (∀ i r, j < i → rs[i]? = some r → r.dst = some t → p (k + i) = false) → t < tm.length →
    look (foldT p k rs tm) t = rj.val
  | k, [], tm, j, rj, h, _, _, _, _ => by simp at h
  | k, r :: rs, tm, 0, rj, h, hd, hp, hl, ht => by
    simp at h
    subst h
    simp only [foldT]
    simp only [Nat.add_zero] at hp
    rw [hp, if_pos rfl]
    have : ∀ i r', rs[i]? = some r' → r'.dst = some t → p (k + 1 + i) = (fun _ => false) (k + 1 + i) := fun i r' hr hd' => by
      have := hl (i + 1) r' (by omega) (by simpa using hr) hd'
      rwa [show k + (i + 1) = k + 1 + i by omega] at this
    rw [foldT_look (q := fun _ => false) this rfl rfl]
    have hno : ∀ (k : Nat) (rs : List Rec) (tm : List SW), foldT (fun _ => false) k rs tm = tm := by
      intro k rs
      induction rs generalizing k with
      | nil => intro tm; rfl
      | cons x xs ih => intro tm; simp [foldT, ih]
    rw [hno, hd, look_putT_self ht]
  | k, r :: rs, tm, j + 1, rj, h, hd, hp, hl, ht => by
    simp only [foldT]
    refine foldT_last (j := j) (by simpa using h) hd (by rwa [show k + (j + 1) = k + 1 + j by omega] at hp) (fun i r' hi hr hd' => by have := hl (i + 1) r' (by omega) (by simpa using hr) hd'; rwa [show k + (i + 1) = k + 1 + i by omega] at this) ?_
    split
    · rw [putT_length]; exact ht
    · exact ht
theorem foldM_last [Outer] {p : Nat → Bool} {b : Nat} : ∀ {k : Nat} {rs : List Rec} {mm : Nat → Option MB} {j : Nat} {rj : Rec}, rs[j]? = some rj → b ∈ rj.upd.map (·.1) → p (k + j) = true → (∀ i r, j < i → rs[i]? = some r → b ∈ r.upd.map (·.1) → p (k + i) = false) →
    ∀ g, foldM p k rs mm b = setFs g rj.upd b
  | k, [], mm, j, rj, h, _, _, _, g => by simp at h
  | k, r :: rs, mm, 0, rj, h, hd, hp, hl, g => by
    simp at h
    subst h
    simp only [foldM]
    simp only [Nat.add_zero] at hp
    rw [hp, if_pos rfl]
    have : ∀ i r', rs[i]? = some r' → b ∈ r'.upd.map (·.1) → p (k + 1 + i) = (fun _ => false) (k + 1 + i) := fun i r' hr hd' => by
      have := hl (i + 1) r' (by omega) (by simpa using hr) hd'
      rwa [show k + (i + 1) = k + 1 + i by omega] at this
    rw [foldM_congr (q := fun _ => false) this rfl]
    have hno : ∀ (k : Nat) (rs : List Rec) (mm : Nat → Option MB), foldM (fun _ => false) k rs mm = mm := by
      intro k rs
      induction rs generalizing k with
      | nil => intro mm; rfl
      | cons x xs ih => intro mm; simp [foldM, ih]
    rw [hno]
    exact setFs_congr fun h' => absurd hd h'
  | k, r :: rs, mm, j + 1, rj, h, hd, hp, hl, g => by
    simp only [foldM]
    exact foldM_last (j := j) (by simpa using h) hd (by rwa [show k + (j + 1) = k + 1 + j by omega] at hp) (fun i r' hi hr hd' => by have := hl (i + 1) r' (by omega) (by simpa using hr) hd'; rwa [show k + (i + 1) = k + 1 + i by omega] at this) g
theorem foldT_none {k : Nat} {rs : List Rec} {tm : List SW} {p : Nat → Bool} (h : ∀ i, i < rs.length → p (k + i) = false) : foldT p k rs tm = tm := by
  induction rs generalizing k with
  | nil => rfl
  | cons r rs ih =>
    have h0 := h 0 (by simp)
    simp only [Nat.add_zero] at h0
    simp only [foldT, h0, Bool.false_eq_true, if_false]
    exact ih fun i hi => by rw [show k + 1 + i = k + (i + 1) by omega]; exact h (i + 1) (by simp; omega)
theorem foldM_none {k : Nat} {rs : List Rec} {mm : Nat → Option MB} {p : Nat → Bool} (h : ∀ i, i < rs.length → p (k + i) = false) : foldM p k rs mm = mm := by
  induction rs generalizing k with
  | nil => rfl
  | cons r rs ih =>
    have h0 := h 0 (by simp)
    simp only [Nat.add_zero] at h0
    simp only [foldM, h0, Bool.false_eq_true, if_false]
    exact ih fun i hi => by rw [show k + 1 + i = k + (i + 1) by omega]; exact h (i + 1) (by simp; omega)
end Go.Proofs.YteemnnajfiimlaaDoor.Sx
