/- Merged: Region, Base, Mag, Eq, Build, Types, Op. -/
import Derived.Deep.Quiet
import Derived.StillTail
import Derived.WalkKit
import Derived.Deep.MidRow
import Derived.Laws.CopyOwn
import Derived.BigQuiet
import Derived.Lib.Hide
import Derived.WalkSpells
import GoSem.Core.Value
import Derived.Test.YtlccefdjhiedcaaChecked
import Derived.ProofKit
import Derived.OpenShut
import Derived.ChangeSame
section
namespace Go.Proofs.Ytlccefdjhiedcaa

variable {P : Program} {ops : Array Oper} {md : Region.Mode} {ws fl : List Nat} {cls : Nat → World → Prop} {Q : Exit → Act → World → Prop}

def IntoAt (P : Program) (Cb : World → Prop) (w : World) (v : Value) : Result Next → Prop
  | .ok (.value u) w' => u = v ∧ Cb w'
  | .ok .skip w' => v = undef ∧ Cb w'
  | .ok (.enter f args) w' => w' = w ∧ Calls P f args w (fun e w'' => e = .returned v ∧ Cb w'')
  | _ => False
def Into (P : Program) (o : Oper) (a : Act) (Ca Cb : World → Prop) (v : Value) : Prop := ∀ w, Ca w → IntoAt P Cb w v ((execOp a.eval o).run P w)

def Cls (ws : List Nat) (cls : Nat → World → Prop) (listed : Array Bool) : World → Prop := cls (ws.countP fun t => listed.getD t false)

theorem Cls_set {listed : Array Bool} {i : Nat} (h : i ∉ ws) : Cls ws cls (listed.setIfInBounds i true) = Cls ws cls listed := by
  unfold Cls
  congr 1
  refine List.countP_congr fun t ht => ?_
  rw [getD_set_ne false (fun e => h (by rw [e]; exact ht))]

theorem count_set : ∀ {ws : List Nat} {listed : Array Bool} {i : Nat}, ws.Nodup → i ∈ ws → listed.getD i true = false →
    (ws.countP fun t => (listed.setIfInBounds i true).getD t false) = (ws.countP fun t => listed.getD t false) + 1
  | [], _, _, _, h, _ => by cases h
  | t :: ws, listed, i, hn, h, hu => by
    have hlt : i < listed.size := by
      rcases Nat.lt_or_ge i listed.size with h' | h'
      · exact h'
      · simp [Array.getElem?_eq_none h'] at hu
    have hn' := List.nodup_cons.1 hn
    rw [List.countP_cons, List.countP_cons]
    by_cases he : t = i
    · subst he
      have h1 : (listed.setIfInBounds t true).getD t false = true := by simp [hlt]
      have h2 : listed.getD t false = false := getD_both hu
      rw [h1, h2]
      have h3 : (ws.countP fun s => (listed.setIfInBounds t true).getD s false) = ws.countP fun s => listed.getD s false :=
        List.countP_congr fun s hs => by rw [getD_set_ne false (fun e => hn'.1 (by rw [e]; exact hs))]
      rw [h3]
      simp
    · have hm : i ∈ ws := by
        rcases List.mem_cons.1 h with h | h
        · exact absurd h.symm he
        · exact h
      rw [count_set hn'.2 hm hu, getD_set_ne false (fun e => he e.symm)]
      omega

def sOp (P : Program) (ops : Array Oper) (ws : List Nat) (cls : Nat → World → Prop) (i : Nat) (listed : Array Bool) (K : Act → Prop) (a : Act) : Prop :=
  match ops[i]? with
  | none => Cls ws cls (listed.setIfInBounds i true) = Cls ws cls listed ∧ K a
  | some o =>
    if Region.wanted o (yielded ops a.tmps) then ∃ v, Into P o a (Cls ws cls listed) (Cls ws cls (listed.setIfInBounds i true)) v ∧ K (a.put o.dst v)
    else Cls ws cls (listed.setIfInBounds i true) = Cls ws cls listed ∧ K (a.put o.dst undef)

def anyS (P : Program) (md : Region.Mode) (ops : Array Oper) (ws : List Nat) (cls : Nat → World → Prop) (Q : Exit → Act → World → Prop) : Nat → Array Bool → Act → Prop
  | 0, listed, a => Region.ready md ops listed = [] ∧ ∀ w, Cls ws cls listed w → Q .normal a w
  | f + 1, listed, a =>
    (Region.ready md ops listed = [] → ∀ w, Cls ws cls listed w → Q .normal a w) ∧
    ∀ i ∈ Region.ready md ops listed, sOp P ops ws cls i listed (anyS P md ops ws cls Q f (listed.setIfInBounds i true)) a

theorem wpOp_of_sOp {i : Nat} {listed : Array Bool} {a : Act} {K : Act → Prop} {K' : Act → World → Prop} {w : World} (hw : Cls ws cls listed w)
    (h : ∀ a w', Cls ws cls (listed.setIfInBounds i true) w' → K a → K' a w') (hh : sOp P ops ws cls i listed K a) : wpOp P ops Q i K' a w := by
  unfold sOp at hh
  unfold wpOp
  split
  · rename_i ho; simp only [ho] at hh; exact h _ _ (by rw [hh.1]; exact hw) hh.2
  · rename_i o ho
    simp only [ho] at hh
    split
    · rename_i hwt
      simp only [hwt, if_true] at hh
      obtain ⟨v, hv, hk⟩ := hh
      have hv' := hv w hw
      refine .inl ?_
      unfold Oper.wp
      generalize (execOp a.eval o).run P w = r at *
      cases r with
      | ok n w' =>
        cases n <;> simp only [IntoAt] at hv' <;> simp only [Oper.upon]
        case value u => obtain ⟨rfl, h2⟩ := hv'; exact h _ _ h2 hk
        case skip => obtain ⟨rfl, h2⟩ := hv'; exact h _ _ h2 hk
        case enter f args =>
          obtain ⟨rfl, hc⟩ := hv'
          exact hc.mono fun e w'' ⟨he, hw''⟩ => by subst he; exact h _ _ hw'' hk
      | halt x w' => simp only [IntoAt] at hv'
    · rename_i hwt; simp only [hwt] at hh; exact h _ _ (by rw [hh.1]; exact hw) hh.2

theorem wpAny_of_anyS : ∀ (f : Nat) (listed : Array Bool) (a : Act) (w : World), Cls ws cls listed w → anyS P md ops ws cls Q f listed a → wpAny P md ops Q f listed a w
  | 0, _, _, _, hw, h => ⟨h.1, h.2 _ hw⟩
  | f + 1, _, _, _, hw, h => ⟨fun h0 => h.1 h0 _ hw, fun i hi => wpOp_of_sOp hw (fun a' w' hw' ha => wpAny_of_anyS f _ a' w' hw' ha) (h.2 i hi)⟩

def YieldsS (P : Program) (ops : Array Oper) (free : Bool) (top : Nat) (cls : Nat → World → Prop) (p : Nat) (o : Oper) (v : Value) (a : Act) : Prop :=
  (Region.wanted o (yielded ops a.tmps) = true ∧ ∀ q, (q = p ∨ (free = true ∧ p ≤ q ∧ q ≤ top)) → Into P o a (cls q) (cls q) v) ∨
  (Region.wanted o (yielded ops a.tmps) = false ∧ v = undef)

theorem YieldsS.of_same {free : Bool} {top p : Nat} {o : Oper} {v : Value} {a a' : Act} (hy : YieldsS P ops free top cls p o v a) (he : execOp a'.eval o = execOp a.eval o)
    (hw : Region.wanted o (yielded ops a'.tmps) = Region.wanted o (yielded ops a.tmps)) : YieldsS P ops free top cls p o v a' := by
  unfold YieldsS Into at *
  rw [he, hw]
  exact hy

theorem YieldsS.sOp {free : Bool} {top i : Nat} {listed : Array Bool} {o : Oper} {v : Value} {a : Act} (hi : ops[i]? = some o) (hn : i ∉ ws) (hy : YieldsS P ops free top cls (ws.countP fun t => listed.getD t false) o v a) {K : Act → Prop} (h : K (a.put o.dst v)) :
    sOp P ops ws cls i listed K a := by
  unfold Proofs.Ytlccefdjhiedcaa.sOp
  simp only [hi, Cls_set hn]
  rcases hy with ⟨hw, hv⟩ | ⟨hw, rfl⟩
  · simp only [hw, if_true]
    exact ⟨v, hv _ (.inl rfl), h⟩
  · simp only [hw, Bool.false_eq_true, if_false]; exact ⟨trivial, h⟩

def Closed (md : Region.Mode) (ops : Array Oper) (listed : Array Bool) : Prop :=
  listed.size = ops.size ∧ ∀ j oj, ops[j]? = some oj → listed.getD j false = true → ∀ e ∈ oj.after, Region.binds md e = true → listed.getD e.on false = true

theorem Closed.set {listed : Array Bool} {i : Nat} (h : Closed md ops listed) (hi : i ∈ Region.ready md ops listed) : Closed md ops (listed.setIfInBounds i true) := by
  obtain ⟨_, oi, hoi, hall⟩ := mem_ready.1 hi
  refine ⟨by simp [h.1], fun j oj hj hl e he hb => ?_⟩
  by_cases hij : i = j
  · subst hij
    have : oj = oi := Option.some.inj (hj.symm.trans hoi)
    subst this
    exact getD_set_true (hall e he hb)
  · rw [getD_set_ne false hij] at hl
    exact getD_set_true (h.2 j oj hj hl e he hb)

def waitsT (md : Region.Mode) (ops : Array Oper) : Nat → Nat → Nat → Bool
  | 0, t, i => Region.waitsFor md ops t i
  | n + 1, t, i => Region.waitsFor md ops t i || (List.range ops.size).any fun j => Region.waitsFor md ops t j && waitsT md ops n j i

theorem listed_of_waitsT {listed : Array Bool} (hc : Closed md ops listed) : ∀ (n t i : Nat), waitsT md ops n t i = true → listed.getD t false = true → listed.getD i false = true
  | 0, t, i, h, ht => by
    obtain ⟨ot, hot, e, he, hb, hon⟩ := Region.waitsFor_spec h
    rw [← hon]; exact hc.2 t ot hot ht e he hb
  | n + 1, t, i, h, ht => by
    simp only [waitsT, Bool.or_eq_true, List.any_eq_true, Bool.and_eq_true] at h
    rcases h with h | ⟨j, _, h1, h2⟩
    · exact listed_of_waitsT hc 0 t i h ht
    · exact listed_of_waitsT hc n j i h2 (listed_of_waitsT hc 0 t j h1 ht)

theorem not_ready_of_waitsT {listed : Array Bool} (hc : Closed md ops listed) {n t i : Nat} (h : waitsT md ops n t i = true) (hi : listed.getD i true = false) : t ∉ Region.ready md ops listed := fun ht => by
  obtain ⟨_, ot, hot, hall⟩ := mem_ready.1 ht
  have key : ∀ j, Region.waitsFor md ops t j = true → listed.getD j false = true := fun j hj => by
    obtain ⟨o', ho', e, he, hb, hon⟩ := Region.waitsFor_spec hj
    have : o' = ot := Option.some.inj (ho'.symm.trans hot)
    subst this
    rw [← hon]; exact hall e he hb
  have : listed.getD i false = true := by
    cases n with
    | zero => exact key i h
    | succ n =>
      simp only [waitsT, Bool.or_eq_true, List.any_eq_true, Bool.and_eq_true] at h
      rcases h with h | ⟨j, _, h1, h2⟩
      · exact key i h
      · exact listed_of_waitsT hc n j i h2 (key j h1)
  rw [getD_both hi] at this
  cases this

theorem anyS_take {i : Nat} {oi : Oper} {v : Value} {free : Bool} (hi : ops[i]? = some oi) (hsel : ∀ (j : Nat) (o : Oper) cs b, ops[j]? = some o → o.op ≠ .select cs b) (hn : i ∉ ws) (hnd : ws.Nodup) :
    ∀ (f : Nat) (listed : Array Bool) (a : Act), Closed md ops listed → (free = true ∨ ∀ t ∈ ws, listed.getD t true = false → ∃ n, waitsT md ops n t i = true) →
      (∀ j oj, ops[j]? = some oj → j ≠ i → listed.getD j true = false → (∀ e ∈ oj.after, Region.binds md e = true → e.on ≠ i) → oi.apart ops oj = true) →
      i ∈ Region.ready md ops listed → YieldsS P ops free ws.length cls (ws.countP fun t => listed.getD t false) oi v a →
      anyS P md ops ws cls Q f (listed.setIfInBounds i true) (a.put oi.dst v) → anyS P md ops ws cls Q (f + 1) listed a := by
  intro f
  induction f with
  | zero =>
    intro listed a _ _ _ hr hy H
    refine ⟨fun e => (by rw [e] at hr; cases hr), fun j hj => ?_⟩
    by_cases hji : j = i
    · subst hji; exact hy.sOp hi hn H
    · have := ready_mono hj hji
      rw [H.1] at this
      cases this
  | succ f ih =>
    intro listed a hcl hwait hfree hr hy H
    refine ⟨fun e => (by rw [e] at hr; cases hr), fun j hj => ?_⟩
    by_cases hji : j = i
    · subst hji; exact hy.sOp hi hn H
    · have h1 := H.2 j (ready_mono hj hji)
      obtain ⟨hjun, oj, hoj, hall⟩ := mem_ready.1 hj
      have hiun := (mem_ready.1 hr).1
      have hnot : ∀ e ∈ oj.after, Region.binds md e = true → e.on ≠ i := fun e he hb heq => by
        have h2 := hall e he hb
        rw [heq, getD_both hiun] at h2
        cases h2
      have hjw : free = true ∨ j ∉ ws := by
        rcases hwait with h | h
        · exact .inl h
        · refine .inr fun hm => ?_
          obtain ⟨n, hw⟩ := h j hm hjun
          exact not_ready_of_waitsT hcl hw hiun hj
      obtain ⟨p1, p2, p3⟩ := Oper.apart_spec (hfree j oj hoj hji hjun hnot)
      have hsi := fun cs b => hsel i oi cs b hi
      have hsj := fun cs b => hsel j oj cs b hoj
      have hcomm : (listed.setIfInBounds i true).setIfInBounds j true = (listed.setIfInBounds j true).setIfInBounds i true := Array.setIfInBounds_comm _ _ (Ne.symm hji)
      have hy' : ∀ u, YieldsS P ops free ws.length cls (ws.countP fun t => (listed.setIfInBounds j true).getD t false) oi v (a.put oj.dst u) := fun u => by
        have h2 := hy.of_same (execOp_put oi hsi a oj.dst u p3) (wanted_put oi a oj.dst u p3)
        by_cases hjm : j ∈ ws
        · rw [count_set hnd hjm hjun]
          have hf : free = true := hjw.resolve_right (fun h => h hjm)
          have hle : (ws.countP fun t => listed.getD t false) + 1 ≤ ws.length := by
            rw [← count_set hnd hjm hjun]; exact List.countP_le_length
          rcases h2 with ⟨hw, hv⟩ | h2
          · refine .inl ⟨hw, fun q hq => hv q (.inr ⟨hf, ?_⟩)⟩
            rcases hq with rfl | ⟨_, h, h'⟩
            · exact ⟨by omega, hle⟩
            · exact ⟨by omega, h'⟩
          · exact .inr h2
        · have e : (ws.countP fun t => (listed.setIfInBounds j true).getD t false) = ws.countP fun t => listed.getD t false :=
            List.countP_congr fun t ht => by rw [getD_set_ne false (fun e => hjm (by rw [e]; exact ht))]
          rw [e]; exact h2
      have next : ∀ u, anyS P md ops ws cls Q f ((listed.setIfInBounds i true).setIfInBounds j true) ((a.put oi.dst v).put oj.dst u) → anyS P md ops ws cls Q (f + 1) (listed.setIfInBounds j true) (a.put oj.dst u) := fun u hK => by
        refine ih _ _ (hcl.set hj) ?_ (fun k ok hk hki hun hno => hfree k ok hk hki ?_ hno) (ready_mono hr (Ne.symm hji)) (hy' u) ?_
        · rcases hwait with h | h
          · exact .inl h
          · refine .inr fun t ht hun => h t ht ?_
            by_cases hjt : j = t
            · subst hjt; exact hjun
            · rw [getD_set_ne true hjt] at hun; exact hun
        · by_cases hjk : j = k
          · subst hjk; exact hjun
          · rw [getD_set_ne true hjk] at hun; exact hun
        · rw [← hcomm, ← Act.put_comm a v u p2]; exact hK
      unfold Proofs.Ytlccefdjhiedcaa.sOp at h1 ⊢
      simp only [hoj] at h1 ⊢
      rw [wanted_put oj a oi.dst v p1, hcomm, Cls_set hn (listed := listed.setIfInBounds j true), Cls_set hn, ← hcomm] at h1
      split
      · rename_i hw
        simp only [hw, if_true] at h1
        obtain ⟨u, hu, hK⟩ := h1
        refine ⟨u, fun w hC => ?_, next u hK⟩
        have := hu w hC
        rwa [execOp_put oj hsj a oi.dst v p1] at this
      · rename_i hw
        simp only [hw] at h1
        exact ⟨h1.1, next _ h1.2⟩

def wpS (P : Program) (ops : Array Oper) (ws fl : List Nat) (cls : Nat → World → Prop) (Q : Exit → Act → World → Prop) : List Oper → Nat → Nat → Act → Prop
  | [], _, p, a => ∀ w, cls p w → Q .normal a w
  | o :: rest, k, p, a =>
    if ws.contains k then Region.wanted o (yielded ops a.tmps) = true ∧ ∃ v, Into P o a (cls p) (cls (p + 1)) v ∧ wpS P ops ws fl cls Q rest (k + 1) (p + 1) (a.put o.dst v)
    else ∃ v, YieldsS P ops (fl.contains k) ws.length cls p o v a ∧ wpS P ops ws fl cls Q rest (k + 1) p (a.put o.dst v)

def lexS (md : Region.Mode) (ops : Array Oper) (ws fl : List Nat) : Nat → Nat → Array Bool → Bool
  | 0, _, listed => (Region.ready md ops listed).isEmpty
  | f + 1, k, listed =>
    (if ws.contains k then decide (Region.ready md ops listed = [k])
      else (Region.ready md ops listed).contains k && Region.free md ops listed k && (fl.contains k || ws.all fun t => listed.getD t true || waitsT md ops 2 t k)) &&
    lexS md ops ws fl f (k + 1) (listed.setIfInBounds k true)

theorem anyS_lex (hsel : Region.noSelect ops = true) (hnd : ws.Nodup) : ∀ (l : List Oper) (k p : Nat) (listed : Array Bool) (a : Act), (∀ j, l[j]? = ops[k + j]?) → Closed md ops listed → Cls ws cls listed = cls p →
    (ws.countP fun t => listed.getD t false) = p → lexS md ops ws fl l.length k listed = true → wpS P ops ws fl cls Q l k p a → anyS P md ops ws cls Q l.length listed a
  | [], _, p, listed, a, _, _, hc, _, hB, h => ⟨by simpa [lexS] using hB, fun w hw => h w (by rw [← hc]; exact hw)⟩
  | o :: l, k, p, listed, a, hl, hcl, hc, hp, hB, h => by
    have h0 : ops[k]? = some o := by simpa using (hl 0).symm
    have hl' : ∀ j, l[j]? = ops[k + 1 + j]? := fun j => by have := hl (j + 1); simpa [Nat.add_assoc, Nat.add_comm 1 j] using this
    simp only [List.length_cons, lexS, Bool.and_eq_true] at hB
    obtain ⟨hB1, hB2⟩ := hB
    unfold wpS at h
    by_cases hk : ws.contains k = true
    · simp only [hk, if_true, decide_eq_true_eq] at h hB1
      obtain ⟨hw, v, hv, hK⟩ := h
      have hun : listed.getD k true = false := (mem_ready.1 (by rw [hB1]; simp : k ∈ Region.ready md ops listed)).1
      have hcnt := count_set hnd (by simpa using hk) hun
      refine ⟨fun e => (by rw [hB1] at e; cases e), fun i hi => ?_⟩
      have hi' := hi
      rw [hB1] at hi
      have hik : i = k := by simpa using hi
      subst hik
      unfold Proofs.Ytlccefdjhiedcaa.sOp
      have hc' : Cls ws cls (listed.setIfInBounds i true) = cls (p + 1) := by unfold Cls; rw [hcnt, hp]
      simp only [h0, hw, if_true]
      exact ⟨v, by rw [hc, hc']; exact hv, anyS_lex hsel hnd l (i + 1) (p + 1) _ _ hl' (hcl.set hi') hc' (by rw [hcnt, hp]) hB2 hK⟩
    · simp only [hk, Bool.false_eq_true, if_false, Bool.and_eq_true, Bool.or_eq_true, List.all_eq_true] at h hB1
      obtain ⟨⟨hr, hf⟩, hwt⟩ := hB1
      obtain ⟨v, hy, hK⟩ := h
      have hn : k ∉ ws := by simpa using hk
      have hc' : Cls ws cls (listed.setIfInBounds k true) = cls p := by rw [Cls_set hn]; exact hc
      have hp' : (ws.countP fun t => (listed.setIfInBounds k true).getD t false) = p := by
        rw [← hp]
        exact List.countP_congr fun t ht => by rw [getD_set_ne false (fun e => hn (by rw [e]; exact ht))]
      have hr' : k ∈ Region.ready md ops listed := by simpa using hr
      refine anyS_take (free := fl.contains k) h0 (Region.noSelect_spec hsel) hn hnd l.length listed a hcl ?_ (Region.free_spec h0 hf) hr' (by rw [hp]; exact hy)
        (anyS_lex hsel hnd l (k + 1) p _ _ hl' (hcl.set hr') hc' hp' hB2 hK)
      rcases hwt with h | h
      · exact .inl h
      · refine .inr fun t ht hun => ?_
        rcases h t ht with h | h
        · rw [hun] at h; cases h
        · exact ⟨2, h⟩

def okS (md : Region.Mode) (ops : Array Oper) (ws fl : List Nat) : Bool := Region.noSelect ops && decide ws.Nodup && lexS md ops ws fl ops.size 0 (Array.replicate ops.size false)

theorem wp_region_s {id : Nat} {a : Act} {w : World} {l : List Oper} (hm : P.follows .mixedOrders = true) (hB : okS .any l.toArray ws fl = true) (hC : cls 0 w.drew)
    (h : wpS P l.toArray ws fl cls Q l 0 0 a) : (Code.region id l.toArray true).wp P Q a w := by
  simp only [okS, Bool.and_eq_true, decide_eq_true_eq] at hB
  obtain ⟨⟨hsel, hnd⟩, hlex⟩ := hB
  have hcnt : (ws.countP fun t => (Array.replicate l.toArray.size false).getD t false) = 0 := by
    rw [List.countP_eq_zero]
    intro t _
    rw [getD_replicate_false]
    exact Bool.false_ne_true
  have hcls : Cls ws cls (Array.replicate l.toArray.size false) = cls 0 := by unfold Cls; rw [hcnt]
  refine wp_region_any hm (wpAny_of_anyS _ _ _ _ (by rw [hcls]; exact hC) ?_)
  have := anyS_lex (P := P) (Q := Q) (md := .any) (ops := l.toArray) (ws := ws) (fl := fl) (cls := cls) hsel hnd l 0 0 (Array.replicate l.toArray.size false) a (fun j => by simp) ⟨by simp, fun j oj _ hl => (by rw [getD_replicate_false] at hl; cases hl)⟩ hcls hcnt (by simpa using hlex) h
  simpa using this

end Go.Proofs.Ytlccefdjhiedcaa
end
section
namespace Go.Proofs.Ytlccefdjhiedcaa
open Go.RowKit

structure St (c : Option Nat) (w0 w : World) (r l : List (Nat × Obj)) : Prop where
  os : w.os = w0.os
  tape : w.tape = w0.tape
  output : w.output = w0.output
  size : w0.heap.size ≤ w.heap.size
  block : ∀ k, k < w0.heap.size → c ≠ some k → w.heap[k]? = w0.heap[k]?
  ro : ∀ x ∈ r, x.1 < w0.heap.size ∧ c ≠ some x.1 ∧ w.heap[x.1]? = some x.2
  own : ∀ x ∈ l, (w0.heap.size ≤ x.1 ∨ c = some x.1) ∧ w.heap[x.1]? = some x.2
  apart : l.Pairwise (fun x y => x.1 ≠ y.1)

theorem St.start (w : World) : St none w w [] [] :=
  ⟨rfl, rfl, rfl, Nat.le_refl _, fun _ _ _ => rfl, by simp, by simp, .nil⟩

theorem St.start_may (w : World) (b : Nat) (o : Obj) (hb : w.heap[b]? = some o) (r : List (Nat × Obj)) (h : ∀ x ∈ r, w.heap[x.1]? = some x.2 ∧ x.1 ≠ b) : St (some b) w w r [(b, o)] :=
  ⟨rfl, rfl, rfl, Nat.le_refl _, fun _ _ _ => rfl, fun x hx => ⟨(Array.getElem?_eq_some_iff.1 (h x hx).1).1, fun e => (h x hx).2 (Option.some.inj e).symm, (h x hx).1⟩,
    fun x hx => by
      have : x = (b, o) := by simpa using hx
      subst this; exact ⟨.inr rfl, hb⟩, by simp⟩

theorem St.below {w0 w : World} {r l : List (Nat × Obj)} (h : St none w0 w r l) : Below w0.heap.size w0 w :=
  ⟨h.os, h.tape, h.output, h.size, fun k hk => h.block k hk (by simp)⟩

variable {c : Option Nat} {w0 w w' : World} {r l l' : List (Nat × Obj)}

theorem St.lt (h : St c w0 w r l) {x : Nat × Obj} (hx : x ∈ l) : x.1 < w.heap.size := (Array.getElem?_eq_some_iff.1 (h.own x hx).2).1

theorem St.later (h : St c w0 w r l) (hb : Below w.heap.size w w') : St c w0 w' r l :=
  ⟨hb.os.trans h.os, hb.tape.trans h.tape, hb.output.trans h.output, Nat.le_trans h.size hb.size,
    fun k hk hc => (hb.block k (Nat.lt_of_lt_of_le hk h.size)).trans (h.block k hk hc),
    fun x hx => ⟨(h.ro x hx).1, (h.ro x hx).2.1, (hb.block x.1 (Nat.lt_of_lt_of_le (h.ro x hx).1 h.size)).trans (h.ro x hx).2.2⟩,
    fun x hx => ⟨(h.own x hx).1, (hb.block x.1 (h.lt hx)).trans (h.own x hx).2⟩, h.apart⟩

theorem St.drew (h : St c w0 w r l) : St c w0 w.drew r l := h.later ⟨rfl, rfl, rfl, Nat.le_refl _, fun _ _ => rfl⟩

theorem St.alloc (h : St c w0 w r l) (o : Obj) : St c w0 (w.alloc o) r ((w.heap.size, o) :: l) := by
  have h1 := h.later (w' := w.alloc o) ((Below.refl _ _).alloc (Nat.le_refl _) o)
  refine ⟨h1.os, h1.tape, h1.output, h1.size, h1.block, h1.ro, fun x hx => ?_, ?_⟩
  · rcases List.mem_cons.1 hx with rfl | hx
    · exact ⟨.inl h.size, heap_alloc_new w o⟩
    · exact h1.own x hx
  · exact List.pairwise_cons.2 ⟨fun y hy e => by have := h.lt hy; simp only at e; omega, h.apart⟩

inductive Upd : List (Nat × Obj) → Nat → Obj → Obj → List (Nat × Obj) → Prop where
  | head {b : Nat} {o o' : Obj} {l : List (Nat × Obj)} : Upd ((b, o) :: l) b o o' ((b, o') :: l)
  | tail {x : Nat × Obj} {b : Nat} {o o' : Obj} {l l' : List (Nat × Obj)} (h : Upd l b o o' l') : Upd (x :: l) b o o' (x :: l')

theorem Upd.mem {b : Nat} {o o' : Obj} (h : Upd l b o o' l') : (b, o) ∈ l := by
  induction h with
  | head => exact .head _
  | tail _ ih => exact .tail _ ih

theorem Upd.ids {b : Nat} {o o' : Obj} (h : Upd l b o o' l') : l'.map (·.1) = l.map (·.1) := by
  induction h with
  | head => rfl
  | tail _ ih => simp [ih]

theorem Upd.of_mem {b : Nat} {o o' : Obj} (h : Upd l b o o' l') (hp : l.Pairwise (fun x y => x.1 ≠ y.1)) : ∀ x ∈ l', x = (b, o') ∨ (x ∈ l ∧ x.1 ≠ b) := by
  induction h with
  | head =>
    intro x hx
    rcases List.mem_cons.1 hx with rfl | hx
    · exact .inl rfl
    · exact .inr ⟨.tail _ hx, fun e => (List.pairwise_cons.1 hp).1 x hx e.symm⟩
  | tail hu ih =>
    intro x hx
    rcases List.mem_cons.1 hx with rfl | hx
    · exact .inr ⟨.head _, fun e => (List.pairwise_cons.1 hp).1 _ hu.mem e⟩
    · rcases ih (List.pairwise_cons.1 hp).2 x hx with h | h
      · exact .inl h
      · exact .inr ⟨.tail _ h.1, h.2⟩

theorem pairwise_ids (l : List (Nat × Obj)) : l.Pairwise (fun x y => x.1 ≠ y.1) ↔ (l.map (·.1)).Nodup := by
  rw [List.Nodup, List.pairwise_map]

theorem St.write (h : St c w0 w r l) {b : Nat} {o o' : Obj} (hu : Upd l b o o' l') (hos : w'.os = w.os) (htape : w'.tape = w.tape) (hout : w'.output = w.output) (hsize : w'.heap.size = w.heap.size)
    (hb : w'.heap[b]? = some o') (hk : ∀ k, k ≠ b → w'.heap[k]? = w.heap[k]?) : St c w0 w' r l' := by
  have hown := (h.own _ hu.mem).1
  refine ⟨hos.trans h.os, htape.trans h.tape, hout.trans h.output, by rw [hsize]; exact h.size, fun k hk' hc => ?_, fun x hx => ?_, fun x hx => ?_, ?_⟩
  · rw [hk k (fun e => by subst e; rcases hown with hown | hown; · simp only at hown; omega
                          · exact hc hown)]
    exact h.block k hk' hc
  · refine ⟨(h.ro x hx).1, (h.ro x hx).2.1, ?_⟩
    rw [hk x.1 (fun e => by
      have h1 := (h.ro x hx).1; have h2 := (h.ro x hx).2.1; rw [e] at h1 h2
      rcases hown with hown | hown
      · simp only at hown; omega
      · exact h2 hown)]
    exact (h.ro x hx).2.2
  · rcases hu.of_mem h.apart x hx with rfl | ⟨hx, hne⟩
    · exact ⟨hown, hb⟩
    · exact ⟨(h.own x hx).1, by rw [hk x.1 hne]; exact (h.own x hx).2⟩
  · rw [pairwise_ids, hu.ids, ← pairwise_ids]; exact h.apart

theorem St.setRow (h : St c w0 w r l) {b : Nat} {cs cs' : Array Value} {t : TypeId} (hu : Upd l b (.cells cs t) (.cells cs' t) l') : St c w0 (w.setRow b cs') r l' :=
  h.write hu rfl rfl rfl (by simp) (setRow_heap w b cs cs' t (0, 0) (h.own _ hu.mem).2) (fun k hk => setRow_other w b k cs' hk)

theorem St.get (h : St c w0 w r l) {b : Nat} {o : Obj} (hm : (b, o) ∈ l ∨ (b, o) ∈ r) : w.heap[b]? = some o :=
  hm.elim (fun hm => (h.own _ hm).2) (fun hm => (h.ro _ hm).2.2)

def Gives (P : Program) (f : FuncId) (args : Array Value) (v : Value) : Prop :=
  ∀ w, Calls P f args w fun e w' => e = .returned v ∧ Below w.heap.size w w'

variable {P : Program}

theorem Gives.use {f : FuncId} {args : Array Value} {v : Value} (hg : Gives P f args v) (h : St c w0 w r l) {R : Ending → World → Prop} (hR : ∀ w', St c w0 w' r l → R (.returned v) w') : Calls P f args w R :=
  (hg w).mono fun _ w' ⟨he, hb⟩ => by subst he; exact hR w' (h.later hb)

section steps
variable {ops : Array Oper} {rest : List Oper} {o : Oper} {a : Act} {Q : Exit → Act → World → Prop}

theorem run_alloc_row (w : World) (cs : Array Value) (t : TypeId) : (newRow t cs).run P w = .ok ⟨w.heap.size, 0, none⟩ (w.alloc (.cells cs t)) := by
  simp [newRow]

theorem L_box (hS : St c w0 w r l) (hgd : o.guard = none) (t : TypeId) (x : Operand) (ho : o.op = .box t x) (v : Value) (hx : a.eval x = v) (cs : Array Value) (hv : v.cells = cs)
    (h : ∀ b w', St c w0 w' r ((b, .cells cs t) :: l) → wpList P ops Q rest (a.put o.dst (.pointer (some ⟨b, 0, none⟩))) w') : wpList P ops Q (o :: rest) a w :=
  wpList_plain hgd fun _ hK => by
    unfold Oper.wp execOp
    simp only [ho, hx, Instr.box, newVar, hv, Sem.run_bind, Sem.run_pure, run_alloc_row, Result.andThen_ok]
    exact hK _ _ (h _ _ (hS.alloc _))

theorem L_box_agg (hS : St c w0 w r l) (hgd : o.guard = none) {t : TypeId} {x : Operand} (ho : o.op = .box t x)
    (h : ∃ cs, a.eval x = .agg cs ∧ ∀ b w', St c w0 w' r ((b, .cells cs t) :: l) → wpList P ops Q rest (a.put o.dst (.pointer (some ⟨b, 0, none⟩))) w') : wpList P ops Q (o :: rest) a w :=
  let ⟨cs, hx, h⟩ := h
  L_box hS hgd t x ho _ hx cs rfl h

theorem L_alloc (hS : St c w0 w r l) (hgd : o.guard = none) (t : TypeId) (ho : o.op = .alloc t) (z : Value) (hz : (P.info? t).map (·.zero) = some (some z)) (cs : Array Value) (hv : z.cells = cs)
    (h : ∀ b w', St c w0 w' r ((b, .cells cs t) :: l) → wpList P ops Q rest (a.put o.dst (.pointer (some ⟨b, 0, none⟩))) w') : wpList P ops Q (o :: rest) a w :=
  wpList_plain hgd fun _ hK => by
    have hzv : ∀ w, (zeroValue t).run P w = .ok z w := by
      intro w
      cases hq : P.info? t with
      | none => simp [hq] at hz
      | some i => simp [hq] at hz; simp [zeroValue, typeInfo, hq, hz]
    unfold Oper.wp execOp
    simp only [ho, Instr.alloc, newVar, hv, Sem.run_bind, Sem.run_pure, run_alloc_row, Result.andThen_ok, hzv]
    exact hK _ _ (h _ _ (hS.alloc _))

theorem L_alloc_agg (hS : St c w0 w r l) (hgd : o.guard = none) {t : TypeId} (ho : o.op = .alloc t)
    (h : ∃ cs, (P.info? t).map (·.zero) = some (some (.agg cs)) ∧ ∀ b w', St c w0 w' r ((b, .cells cs t) :: l) → wpList P ops Q rest (a.put o.dst (.pointer (some ⟨b, 0, none⟩))) w') : wpList P ops Q (o :: rest) a w :=
  let ⟨cs, hz, h⟩ := h
  L_alloc hS hgd t ho _ hz cs rfl h

theorem run_load_cell (hS : St c w0 w r l) (t : TypeId) (x : Operand) (ho : o.op = .load t x) (b j : Nat) (hx : a.eval x = .pointer (some ⟨b, j, none⟩)) (cs : Array Value) (T : TypeId)
    (hm : (b, Obj.cells cs T) ∈ l ∨ (b, Obj.cells cs T) ∈ r) (d : TypeDesc) (hu : P.underlying t = some d) (hd : d.isRow = false) (v : Value) (hv : cs[j]? = some v) :
    (execOp a.eval o).run P w = .ok (.value v) w := by
  have hcell : w.cell? ⟨b, j, none⟩ = some v := by rw [cell_of_row w b j cs T (0, 0) (hS.get hm)]; exact hv
  have hagg : (isAgg t).run P w = .ok false w := by
    unfold isAgg
    rw [Sem.run_bind, run_underlying hu w]
    cases d <;> simp_all
  unfold execOp
  simp [ho, hx, Instr.loadAt, Instr.sureAddr, Sem.run_bind, loadVar, hagg, hcell]

theorem run_load_row (hS : St c w0 w r l) (t : TypeId) (x : Operand) (ho : o.op = .load t x) (b : Nat) (hx : a.eval x = .pointer (some ⟨b, 0, none⟩)) (cs : Array Value) (T : TypeId)
    (hm : (b, Obj.cells cs T) ∈ l ∨ (b, Obj.cells cs T) ∈ r) (d : TypeDesc) (hu : P.underlying t = some d) (hd : d.isRow = true) (hi : (P.info? t).map (·.size) = some cs.size) :
    (execOp a.eval o).run P w = .ok (.value (.agg cs)) w := by
  unfold execOp
  simp only [ho, hx, Instr.loadAt, Instr.sureAddr, Sem.run_bind, Sem.run_pure, Result.andThen_ok, run_loadVar_row w b T t cs (0, 0) d (hS.get hm) hu (by cases d <;> first | rfl | exact hd) hi]

theorem run_load_mid (hS : St c w0 w r l) (t : TypeId) (x : Operand) (ho : o.op = .load t x) (b j : Nat) (hx : a.eval x = .pointer (some ⟨b, j, none⟩)) (cs : Array Value) (T : TypeId)
    (hm : (b, Obj.cells cs T) ∈ l ∨ (b, Obj.cells cs T) ∈ r) (d : TypeDesc) (hu : P.underlying t = some d) (hd : d.isRow = true) (sub : Array Value) (hi : (P.info? t).map (·.size) = some sub.size)
    (hsub : ∀ k, k < sub.size → cs[j + k]? = sub[k]?) :
    (execOp a.eval o).run P w = .ok (.value (.agg sub)) w := by
  have hr : w.rangeAt b j sub.toList := fun k v hv => by
    have hk : k < sub.size := by
      have := (List.getElem?_eq_some_iff.1 hv).1
      simpa using this
    rw [cell_of_row w b (j + k) cs T (0, 0) (hS.get hm), hsub k hk]
    simpa using hv
  unfold execOp
  simp only [ho, hx, Instr.loadAt, Instr.sureAddr, Sem.run_bind, Sem.run_pure, Result.andThen_ok, run_loadVar_mid w b j t sub.toList d hr hu hd (by simpa using hi), Array.toArray_toList]

theorem run_build_row (w : World) (t : TypeId) (parts : Array (Nat × Operand)) (ho : o.op = .build t parts) (cs : Array Value) (h : P.built t (parts.map fun (i, x) => (i, a.eval x)).toList = some cs) :
    (execOp a.eval o).run P w = .ok (.value (.agg cs)) w := by
  unfold execOp
  simp only [ho, Sem.run_bind, run_build w t (parts.map fun (i, x) => (i, a.eval x)) cs h, Result.andThen_ok, Sem.run_pure]

theorem L_run (hgd : o.guard = none) (v : Value) (hrun : (execOp a.eval o).run P w = .ok (.value v) w) (h : wpList P ops Q rest (a.put o.dst v) w) : wpList P ops Q (o :: rest) a w :=
  wpList_plain hgd fun _ hK => by
    unfold Oper.wp
    rw [hrun]
    exact hK _ _ h

theorem L_want (hw : Region.wanted o (yielded ops a.tmps) = true) (v : Value) (hrun : (execOp a.eval o).run P w = .ok (.value v) w) (h : wpList P ops Q rest (a.put o.dst v) w) : wpList P ops Q (o :: rest) a w :=
  wpList_step fun _ hK => by
    rw [if_pos hw]
    unfold Oper.wp
    rw [hrun]
    exact hK _ _ h

theorem L_load (hw : Region.wanted o (yielded ops a.tmps) = true) {t : TypeId} {x : Operand} (_ho : o.op = .load t x) (h : ∃ v, (execOp a.eval o).run P w = .ok (.value v) w ∧ wpList P ops Q rest (a.put o.dst v) w) : wpList P ops Q (o :: rest) a w :=
  let ⟨v, hrun, h⟩ := h
  L_want hw v hrun h

theorem L_build (hgd : o.guard = none) {t : TypeId} {parts : List (Nat × Operand)} (ho : o.op = .build t parts.toArray) (h : ∃ cs, P.built t (parts.map fun x => (x.1, a.eval x.2)) = some cs ∧ wpList P ops Q rest (a.put o.dst (.agg cs)) w) : wpList P ops Q (o :: rest) a w :=
  let ⟨cs, hb, h⟩ := h
  L_run hgd _ (run_build_row w t _ ho cs (by simpa using hb)) h

theorem L_op (hw : Region.wanted o (yielded ops a.tmps) = true) {op : BinOp} {t t' : TypeId} {x y : Operand} (_ho : o.op = .binOp op t x y t') (h : ∃ v, (execOp a.eval o).run P w = .ok (.value v) w ∧ wpList P ops Q rest (a.put o.dst v) w) : wpList P ops Q (o :: rest) a w :=
  let ⟨v, hrun, h⟩ := h
  L_want hw v hrun h

theorem L_store (hS : St c w0 w r l) (hgd : o.guard = none) {t : TypeId} {x y : Operand} (_ho : o.op = .store t x y)
    (h : ∃ b cs cs' T l', Upd l b (.cells cs T) (.cells cs' T) l' ∧ (execOp a.eval o).run P w = .ok .skip (w.setRow b cs') ∧ ∀ w', St c w0 w' r l' → wpList P ops Q rest (a.put o.dst undef) w') : wpList P ops Q (o :: rest) a w :=
  let ⟨b, cs, cs', T, l', hu, hrun, h⟩ := h
  wpList_plain hgd fun _ hK => by
    unfold Oper.wp
    rw [hrun]
    exact hK _ _ (h _ (hS.setRow hu))

variable {ws fl : List Nat} {ls : List (List (Nat × Obj))} {k p : Nat}

theorem S_run {cls : Nat → World → Prop} (hk : ws.contains k = false) (hw : Region.wanted o (yielded ops a.tmps) = true)
    (h : ∃ v, (∀ w, (execOp a.eval o).run P w = .ok (.value v) w) ∧ wpS P ops ws fl cls Q rest (k + 1) p (a.put o.dst v)) : wpS P ops ws fl cls Q (o :: rest) k p a := by
  unfold wpS
  rw [if_neg (by rw [hk]; exact Bool.false_ne_true)]
  obtain ⟨v, hv, h⟩ := h
  exact ⟨v, .inl ⟨hw, fun q _ w hC => by rw [hv w]; exact ⟨rfl, hC⟩⟩, h⟩

theorem S_float (hk : ws.contains k = false) (hw : Region.wanted o (yielded ops a.tmps) = true) {t : TypeId} {x : Operand} (_ho : o.op = .load t x)
    (h : ∃ v, (∀ q, p ≤ q → q ≤ ws.length → ∀ w, St c w0 w r (ls.getD q []) → (execOp a.eval o).run P w = .ok (.value v) w) ∧ wpS P ops ws fl (fun p w' => St c w0 w' r (ls.getD p [])) Q rest (k + 1) p (a.put o.dst v)) (hp : p ≤ ws.length) :
    wpS P ops ws fl (fun p w' => St c w0 w' r (ls.getD p [])) Q (o :: rest) k p a := by
  unfold wpS
  rw [if_neg (by rw [hk]; exact Bool.false_ne_true)]
  obtain ⟨v, hrun, h⟩ := h
  refine ⟨v, .inl ⟨hw, fun q hq w hC => ?_⟩, h⟩
  have hq' : p ≤ q ∧ q ≤ ws.length := by
    rcases hq with rfl | hq
    · exact ⟨Nat.le_refl _, hp⟩
    · exact hq.2
  rw [hrun q hq'.1 hq'.2 w hC]; exact ⟨rfl, hC⟩

theorem S_skip {cls : Nat → World → Prop} (hk : ws.contains k = false) (hw : Region.wanted o (yielded ops a.tmps) = false)
    (h : wpS P ops ws fl cls Q rest (k + 1) p (a.put o.dst undef)) : wpS P ops ws fl cls Q (o :: rest) k p a := by
  unfold wpS
  rw [if_neg (by rw [hk]; exact Bool.false_ne_true)]
  exact ⟨undef, .inr ⟨hw, rfl⟩, h⟩

theorem S_load (hk : ws.contains k = false) (hf : fl.contains k = false) (hw : Region.wanted o (yielded ops a.tmps) = true) {t : TypeId} {x : Operand} (_ho : o.op = .load t x)
    (h : ∃ v, (∀ w, St c w0 w r (ls.getD p []) → (execOp a.eval o).run P w = .ok (.value v) w) ∧ wpS P ops ws fl (fun p w' => St c w0 w' r (ls.getD p [])) Q rest (k + 1) p (a.put o.dst v)) :
    wpS P ops ws fl (fun p w' => St c w0 w' r (ls.getD p [])) Q (o :: rest) k p a := by
  unfold wpS
  rw [if_neg (by rw [hk]; exact Bool.false_ne_true)]
  obtain ⟨v, hrun, h⟩ := h
  refine ⟨v, .inl ⟨hw, fun q hq w hC => ?_⟩, h⟩
  obtain rfl : q = p := hq.elim id (fun h => by rw [hf] at h; exact absurd h.1 Bool.false_ne_true)
  rw [hrun w hC]; exact ⟨rfl, hC⟩

theorem S_call (f : FuncId) {as1 : Array Operand} {ts : Array TypeId} (_ho : o.op = .call { callee := .value (.func f), args := as1, argTypes := ts }) (hk : ws.contains k = false) (hf : fl.contains k = false) (hw : Region.wanted o (yielded ops a.tmps) = true)
    (h : ∃ args, (∀ w, (execOp a.eval o).run P w = .ok (.enter f args) w) ∧ ∃ v, Gives P f args v ∧ wpS P ops ws fl (fun p w' => St c w0 w' r (ls.getD p [])) Q rest (k + 1) p (a.put o.dst v)) : wpS P ops ws fl (fun p w' => St c w0 w' r (ls.getD p [])) Q (o :: rest) k p a := by
  unfold wpS
  rw [if_neg (by rw [hk]; exact Bool.false_ne_true)]
  obtain ⟨args, hrun, v, hg, h⟩ := h
  refine ⟨v, .inl ⟨hw, fun q hq w hC => ?_⟩, h⟩
  obtain rfl : q = p := hq.elim id (fun h => by rw [hf] at h; exact absurd h.1 Bool.false_ne_true)
  rw [hrun w]; exact ⟨rfl, hg.use hC fun w' h' => ⟨rfl, h'⟩⟩

theorem S_build {cls : Nat → World → Prop} (hk : ws.contains k = false) (hw : Region.wanted o (yielded ops a.tmps) = true) {t : TypeId} {parts : List (Nat × Operand)} (ho : o.op = .build t parts.toArray)
    (h : ∃ cs, P.built t (parts.map fun x => (x.1, a.eval x.2)) = some cs ∧ wpS P ops ws fl cls Q rest (k + 1) p (a.put o.dst (.agg cs))) : wpS P ops ws fl cls Q (o :: rest) k p a :=
  let ⟨cs, hb, h⟩ := h
  S_run hk hw ⟨_, fun w => run_build_row w t _ ho cs (by simpa using hb), h⟩

theorem S_op {cls : Nat → World → Prop} (hk : ws.contains k = false) (hw : Region.wanted o (yielded ops a.tmps) = true) {op : BinOp} {t t' : TypeId} {x y : Operand} (_ho : o.op = .binOp op t x y t')
    (h : ∃ v, (∀ w, (execOp a.eval o).run P w = .ok (.value v) w) ∧ wpS P ops ws fl cls Q rest (k + 1) p (a.put o.dst v)) : wpS P ops ws fl cls Q (o :: rest) k p a := S_run hk hw h

theorem run_store_cell (hS : St c w0 w r l) (t : TypeId) (x y : Operand) (ho : o.op = .store t x y) (b j : Nat) (hx : a.eval x = .pointer (some ⟨b, j, none⟩)) (v : Value) (hy : a.eval y = v) (cs cs' : Array Value) (T : TypeId)
    (hu : Upd l b (.cells cs T) (.cells cs' T) l') (hi : (P.info? t).map (·.size) = some 1) (h1 : v.oneCell' = true) (hvc : v.cells = #[v]) (hj : j < cs.size) (he : cs.setIfInBounds j v = cs') :
    (execOp a.eval o).run P w = .ok .skip (w.setRow b cs') := by
  have hg := (hS.own _ hu.mem).2
  have hcell : w.cell? ⟨b, j, none⟩ = some cs[j] := by rw [cell_of_row w b j cs T (0, 0) hg]; simp [hj]
  have hfro : w.frozen? ⟨b, j, none⟩ = false := by simp [World.frozen?, hg]
  have hadd : (⟨b, j, none⟩ : Addr).add 0 = ⟨b, j, none⟩ := rfl
  have hst : (storeVar t ⟨b, j, none⟩ v).run P w = .ok () (w.setRow b cs') := by
    cases hq : P.info? t with
    | none => simp [hq] at hi
    | some i =>
      have hs : i.size = 1 := by simpa [hq] using hi
      simp only [storeVar, hvc, sizeOf, typeInfo]
      simp [Sem.run_bind, storeCells, hadd, run_store P w _ v _ h1, hcell, hfro, setCell_eq_setRow w b j cs T (0, 0) v hg, he, hq, hs]
  unfold execOp
  simp only [ho, hx, hy, Instr.storeAt, Instr.sureAddr, Sem.run_bind, Sem.run_pure, Result.andThen_ok, hst]

theorem run_store_row (hS : St c w0 w r l) (t : TypeId) (x y : Operand) (ho : o.op = .store t x y) (b : Nat) (hx : a.eval x = .pointer (some ⟨b, 0, none⟩)) (cs cs' : Array Value) (hy : a.eval y = .agg cs') (T : TypeId)
    (hu : Upd l b (.cells cs T) (.cells cs' T) l') (hi : (P.info? t).map (·.size) = some cs'.size) (hs : cs.size = cs'.size) (h1 : cs'.all (·.oneCell') = true) :
    (execOp a.eval o).run P w = .ok .skip (w.setRow b cs') := by
  unfold execOp
  simp only [ho, hx, hy, Instr.storeAt, Instr.sureAddr, Sem.run_bind, Sem.run_pure, Result.andThen_ok, run_storeVar_row w b T t cs cs' (hS.own _ hu.mem).2 hi hs h1]

theorem S_store (hk : ws.contains k = true) (hw : Region.wanted o (yielded ops a.tmps) = true) {t : TypeId} {x y : Operand} (_ho : o.op = .store t x y)
    (h : ∃ b cs cs' T, Upd (ls.getD p []) b (.cells cs T) (.cells cs' T) (ls.getD (p + 1) []) ∧ (∀ w, St c w0 w r (ls.getD p []) → (execOp a.eval o).run P w = .ok .skip (w.setRow b cs')) ∧
      wpS P ops ws fl (fun p w' => St c w0 w' r (ls.getD p [])) Q rest (k + 1) (p + 1) (a.put o.dst undef)) : wpS P ops ws fl (fun p w' => St c w0 w' r (ls.getD p [])) Q (o :: rest) k p a := by
  unfold wpS
  rw [if_pos hk]
  obtain ⟨b, cs, cs', T, hu, hrun, h⟩ := h
  exact ⟨hw, undef, fun w hC => by rw [hrun w hC]; exact ⟨rfl, hC.setRow hu⟩, h⟩

theorem S_nil {cls : Nat → World → Prop} (h : ∀ w, cls p w → Q .normal a w) : wpS P ops ws fl cls Q [] k p a := h

theorem S_end0 {ls' : List (List (Nat × Obj))} (h : ∀ w, St c w0 w r l → Q .normal a w) : wpS P ops ws fl (fun p w' => St c w0 w' r ((l :: ls').getD p [])) Q [] k 0 a := h
theorem S_end2 {l0 l1 : List (Nat × Obj)} {ls' : List (List (Nat × Obj))} (h : ∀ w, St c w0 w r l → Q .normal a w) : wpS P ops ws fl (fun p w' => St c w0 w' r ((l0 :: l1 :: l :: ls').getD p [])) Q [] k (0 + 1 + 1) a := h

theorem wp_region_st {id : Nat} {l : List Oper} (ws fl : List Nat) (ls : List (List (Nat × Obj))) (hS : St c w0 w r (ls.getD 0 [])) (hm : P.follows .mixedOrders = true) (hB : okS .any l.toArray ws fl = true)
    (h : wpS P l.toArray ws fl (fun p w' => St c w0 w' r (ls.getD p [])) Q l 0 0 a) : (Code.region id l.toArray true).wp P Q a w :=
  wp_region_s (cls := fun p w' => St c w0 w' r (ls.getD p [])) hm hB hS.drew h

theorem wp_region_w0 {id : Nat} {ops : List Oper} (hS : St c w0 w r l) (hm : P.follows .mixedOrders = true) (hB : okS .any ops.toArray [] [] = true)
    (h : wpS P ops.toArray [] [] (fun p w' => St c w0 w' r ([l].getD p [])) Q ops 0 0 a) : (Code.region id ops.toArray true).wp P Q a w :=
  wp_region_st [] [] [l] hS hm hB h

theorem wp_region_w1 {id : Nat} {ops : List Oper} (hS : St c w0 w r l) (n : Nat) (fl : List Nat) (l' : List (Nat × Obj)) (hm : P.follows .mixedOrders = true) (hB : okS .any ops.toArray [n] fl = true)
    (h : wpS P ops.toArray [n] fl (fun p w' => St c w0 w' r ([l, l'].getD p [])) Q ops 0 0 a) : (Code.region id ops.toArray true).wp P Q a w :=
  wp_region_st [n] fl [l, l'] hS hm hB h

theorem wp_region_u1 {id : Nat} {ops : List Oper} (hS : St c w0 w r l) (n : Nat) (fl : List Nat) {b : Nat} {ob ob' : Obj} (_hu : Upd l b ob ob' l') (hm : P.follows .mixedOrders = true) (hB : okS .any ops.toArray [n] fl = true)
    (h : wpS P ops.toArray [n] fl (fun p w' => St c w0 w' r ([l, l'].getD p [])) Q ops 0 0 a) : (Code.region id ops.toArray true).wp P Q a w :=
  wp_region_st [n] fl [l, l'] hS hm hB h
theorem wp_region_u2 {id : Nat} {ops : List Oper} {l'' : List (Nat × Obj)} (hS : St c w0 w r l) (n n' : Nat) (fl : List Nat) {b b' : Nat} {ob ob' ob2 ob2' : Obj} (_hu : Upd l b ob ob' l') (_hu' : Upd l' b' ob2 ob2' l'') (hm : P.follows .mixedOrders = true) (hB : okS .any ops.toArray [n, n'] fl = true)
    (h : wpS P ops.toArray [n, n'] fl (fun p w' => St c w0 w' r ([l, l', l''].getD p [])) Q ops 0 0 a) : (Code.region id ops.toArray true).wp P Q a w :=
  wp_region_st [n, n'] fl [l, l', l''] hS hm hB h
end steps

end Go.Proofs.Ytlccefdjhiedcaa
end
section
namespace Go.Proofs.Ytlccefdjhiedcaa

def pw (k : Nat) : Nat := 4294967296 ^ k
theorem pw_zero : pw 0 = 1 := rfl
theorem pw_succ (k : Nat) : pw (k + 1) = pw k * 4294967296 := Nat.pow_succ ..
theorem pw_one : pw 1 = 4294967296 := by rw [pw_succ, pw_zero]
theorem pw_pos (k : Nat) : 0 < pw k := Nat.pow_pos (by omega)
theorem pw_add (a b : Nat) : pw (a + b) = pw a * pw b := Nat.pow_add ..
theorem pw_le {a b : Nat} (h : a ≤ b) : pw a ≤ pw b := Nat.pow_le_pow_right (by omega) h
theorem pw_lt {a b : Nat} (h : a < b) : pw a < pw b := Nat.lt_of_lt_of_le (by rw [pw_succ]; have := pw_pos a; omega) (pw_le (show a + 1 ≤ b from h))

def limb (n i : Nat) : Nat := n / pw i % 4294967296
theorem limb_lt (n i : Nat) : limb n i < 4294967296 := Nat.mod_lt _ (by omega)
theorem limb_zero (i : Nat) : limb 0 i = 0 := by simp [limb]

theorem div_pw (n i : Nat) : n / pw i = n / pw (i + 1) * 4294967296 + limb n i := by
  unfold limb
  rw [pw_succ, ← Nat.div_div_eq_div_mul]
  have := Nat.div_add_mod (n / pw i) 4294967296
  omega
theorem mod_pw (n i : Nat) : n % pw (i + 1) = n % pw i + limb n i * pw i := by
  unfold limb
  rw [pw_succ, Nat.mod_mul, Nat.mul_comm]
theorem mod_pw_zero (n : Nat) : n % pw 0 = 0 := by rw [pw_zero, Nat.mod_one]
theorem div_pw_zero (n : Nat) : n / pw 0 = n := by rw [pw_zero, Nat.div_one]

theorem limb_of_ge {n i : Nat} (h : n < pw i) : limb n i = 0 := by
  unfold limb; rw [Nat.div_eq_of_lt h]
theorem limb_mod {n k i : Nat} (h : i < k) : limb (n % pw k) i = limb n i := by
  unfold limb
  obtain ⟨d, rfl⟩ : ∃ d, k = i + 1 + d := ⟨k - (i + 1), by omega⟩
  rw [Nat.add_assoc, pw_add, Nat.mod_mul_right_div_self, Nat.add_comm 1 d, pw_succ, Nat.mul_comm (pw d), Nat.mod_mul_right_mod]

theorem limb_split (a lo j i : Nat) (h : lo < pw j) : limb (a * pw j + lo) i = if i < j then limb lo i else limb a (i - j) := by
  by_cases hi : i < j
  · rw [if_pos hi, ← limb_mod (n := a * pw j + lo) hi, ← limb_mod (n := lo) hi]
    congr 1
    rw [Nat.add_comm, Nat.mul_comm, Nat.add_mul_mod_self_left]
  · rw [if_neg hi]
    unfold limb
    obtain ⟨d, rfl⟩ : ∃ d, i = j + d := ⟨i - j, by omega⟩
    rw [pw_add, ← Nat.div_div_eq_div_mul, Nat.add_comm, Nat.add_mul_div_right _ _ (pw_pos j), Nat.div_eq_of_lt h, Nat.zero_add, Nat.add_sub_cancel_left]

theorem limb_small (n : Nat) (h : n < 4294967296) (i : Nat) : limb n i = if i = 0 then n else 0 := by
  by_cases hi : i = 0
  · subst hi; rw [if_pos rfl]; unfold limb; rw [div_pw_zero]; exact Nat.mod_eq_of_lt h
  · rw [if_neg hi]; exact limb_of_ge (Nat.lt_of_lt_of_le h (by rw [← pw_one]; exact pw_le (by omega)))

def put (n j v : Nat) : Nat := n - limb n j * pw j + v * pw j
theorem put_eq (n j v : Nat) : put n j v = (n / pw (j + 1) * 4294967296 + v) * pw j + n % pw j := by
  have h1 := Nat.div_add_mod n (pw (j + 1))
  rw [mod_pw, pw_succ] at h1
  unfold put
  rw [Nat.add_mul, Nat.mul_assoc, Nat.mul_comm 4294967296 (pw j), pw_succ, Nat.mul_comm (n / _)]
  omega
theorem limb_put (n j v i : Nat) (h : v < 4294967296) : limb (put n j v) i = if i = j then v else limb n i := by
  rw [put_eq, limb_split _ _ _ _ (Nat.mod_lt _ (pw_pos j))]
  by_cases hi : i < j
  · rw [if_pos hi, if_neg (by omega), limb_mod hi]
  · rw [if_neg hi]
    by_cases he : i = j
    · subst he
      rw [if_pos rfl, Nat.sub_self]
      unfold limb
      rw [div_pw_zero]
      omega
    · rw [if_neg he]
      unfold limb
      obtain ⟨d, rfl⟩ : ∃ d, i = j + 1 + d := ⟨i - (j + 1), by omega⟩
      rw [show j + 1 + d - j = 1 + d by omega, pw_add 1 d, pw_one, ← Nat.div_div_eq_div_mul, Nat.add_comm _ v, Nat.add_mul_div_right _ _ (by omega), Nat.div_eq_of_lt h, Nat.zero_add, pw_add (j + 1) d, ← Nat.div_div_eq_div_mul]
theorem put_low {s j : Nat} (v : Nat) (h : s < pw j) : put s j v = s + v * pw j := by
  unfold put; rw [limb_of_ge h]; omega
theorem put_lt {n j v k : Nat} (hn : n < pw k) (hj : j < k) (hv : v < 4294967296) : put n j v < pw k := by
  have hd : n / pw (j + 1) < pw (k - (j + 1)) := by
    rw [Nat.div_lt_iff_lt_mul (pw_pos _), ← pw_add, show k - (j + 1) + (j + 1) = k by omega]; exact hn
  rw [put_eq]
  have h2 : n % pw j < pw j := Nat.mod_lt _ (pw_pos j)
  have h3 : (n / pw (j + 1) * 4294967296 + v + 1) * pw j ≤ pw (k - (j + 1)) * 4294967296 * pw j := Nat.mul_le_mul_right _ (by omega)
  have h4 : pw (k - (j + 1)) * 4294967296 * pw j = pw k := by rw [← pw_succ, ← pw_add]; congr 1; omega
  rw [Nat.add_mul, Nat.one_mul] at h3
  omega
theorem low_lt {s j v : Nat} (h : s < pw j) (hv : v < 4294967296) : s + v * pw j < pw (j + 1) := by
  rw [pw_succ]
  have : (v + 1) * pw j ≤ pw j * 4294967296 := by rw [Nat.mul_comm (pw j)]; exact Nat.mul_le_mul_right _ (by omega)
  rw [Nat.add_mul, Nat.one_mul] at this
  omega

theorem mod_ext {n m : Nat} : ∀ k, (∀ i, i < k → limb n i = limb m i) → n % pw k = m % pw k
  | 0, _ => by rw [mod_pw_zero, mod_pw_zero]
  | k + 1, h => by rw [mod_pw, mod_pw, mod_ext k (fun i hi => h i (by omega)), h k (by omega)]
theorem limb_ext {n m k : Nat} (hn : n < pw k) (hm : m < pw k) (h : ∀ i, i < k → limb n i = limb m i) : n = m := by
  have := mod_ext k h
  rwa [Nat.mod_eq_of_lt hn, Nat.mod_eq_of_lt hm] at this

def isz (n : Nat) : Bool := decide (n = 0)
theorem isz_true {n : Nat} (h : n = 0) : isz n = true := decide_eq_true h
theorem isz_false {n : Nat} (h : n ≠ 0) : isz n = false := decide_eq_false h

def lv (n : Nat) : Value := .int .u32 ((n : Nat) : Int)
def mgk (k n : Nat) : Array Value := Array.ofFn (n := k) fun i => lv (limb n i)
theorem mgk_size (k n : Nat) : (mgk k n).size = k := by simp [mgk]
theorem mgk_get {k n j : Nat} (h : j < k) : (mgk k n)[j]? = some (lv (limb n j)) := by
  simp [mgk, h]
theorem mgk_get' {k n j : Nat} (h : j < k) : (mgk k n)[j]? = some (.int .u32 ((limb n j : Nat) : Int)) := mgk_get h
theorem mgk_congr {k n m : Nat} (h : ∀ i, i < k → limb n i = limb m i) : mgk k n = mgk k m := by
  apply Array.ext
  · simp [mgk]
  · intro i h1 h2
    simp only [mgk_size] at h1
    simp [mgk, h i h1]
theorem mgk_put {k j : Nat} (n v : Nat) (hv : v < 4294967296) : (mgk k n).setIfInBounds j (.int .u32 ((v : Nat) : Int)) = mgk k (put n j v) := by
  apply Array.ext
  · simp [mgk]
  · intro i h1 h2
    simp only [Array.size_setIfInBounds, mgk_size] at h1
    rw [Array.getElem_setIfInBounds (by simpa [mgk_size] using h1)]
    simp only [mgk, Array.getElem_ofFn, limb_put n j v i hv]
    split
    · rename_i e; subst e; simp [lv]
    · rename_i e; rw [if_neg (fun h => e h.symm)]
theorem mgk_fill {k j : Nat} (s v : Nat) (hs : s < pw j) (hv : v < 4294967296) : (mgk k s).setIfInBounds j (.int .u32 ((v : Nat) : Int)) = mgk k (s + v * pw j) := by
  rw [mgk_put s v hv, put_low v hs]
theorem mgk_put' {k j : Nat} (n v : Nat) {z : Int} (hz : z = ((v : Nat) : Int)) (hv : v < 4294967296) : (mgk k n).setIfInBounds j (.int .u32 z) = mgk k (put n j v) := by
  rw [hz]; exact mgk_put n v hv
theorem mgk_fill' {k j : Nat} (s v : Nat) {z : Int} (hz : z = ((v : Nat) : Int)) (hs : s < pw j) (hv : v < 4294967296) : (mgk k s).setIfInBounds j (.int .u32 z) = mgk k (s + v * pw j) := by
  rw [hz]; exact mgk_fill s v hs hv
theorem lv_inj {a b : Nat} (h : lv a = lv b) : a = b := by
  unfold lv at h; injection h with _ h; omega
theorem mgk_inj {k n m : Nat} (hn : n < pw k) (hm : m < pw k) (h : mgk k n = mgk k m) : n = m := by
  refine limb_ext hn hm fun i hi => ?_
  have h1 := mgk_get (n := n) hi
  rw [h, mgk_get hi] at h1
  exact (lv_inj (Option.some.inj h1)).symm
theorem mgk_zero (k : Nat) : mgk k 0 = Array.replicate k (.int .u32 0) := by
  apply Array.ext
  · simp [mgk]
  · intro i h1 h2
    simp [mgk, limb_zero, lv]

theorem exists_mgk : ∀ (k : Nat) (f : Nat → Nat), (∀ i, i < k → f i < 4294967296) → ∃ n, n < pw k ∧ ∀ i, i < k → limb n i = f i
  | 0, _, _ => ⟨0, by rw [pw_zero]; omega, fun i hi => by omega⟩
  | k + 1, f, h => by
    obtain ⟨n, hn, hl⟩ := exists_mgk k f (fun i hi => h i (by omega))
    refine ⟨n + f k * pw k, low_lt hn (h k (by omega)), fun i hi => ?_⟩
    rw [← put_low (f k) hn, limb_put n k _ i (h k (by omega))]
    by_cases he : i = k
    · subst he; rw [if_pos rfl]
    · rw [if_neg he]; exact hl i (by omega)
theorem mgk_of_row (k : Nat) (A : Array Value) (hs : A.size = k) (h : ∀ i, i < k → ∃ x : Nat, x < 4294967296 ∧ A[i]? = some (lv x)) : ∃ n, n < pw k ∧ A = mgk k n := by
  obtain ⟨f, hf⟩ : ∃ f : Nat → Nat, ∀ i, i < k → f i < 4294967296 ∧ A[i]? = some (lv (f i)) :=
    ⟨fun i => if hi : i < k then (h i hi).choose else 0, fun i hi => by simp only [hi, dite_true]; exact (h i hi).choose_spec⟩
  obtain ⟨n, hn, hl⟩ := exists_mgk k f (fun i hi => (hf i hi).1)
  refine ⟨n, hn, ?_⟩
  apply Array.ext_getElem?
  intro i
  by_cases hi : i < k
  · rw [(hf i hi).2, mgk_get hi, hl i hi]
  · rw [Array.getElem?_eq_none (by omega), Array.getElem?_eq_none (by rw [mgk_size]; omega)]

def iv (s : Bool) (n : Nat) : Array Value := #[.bool s] ++ mgk 32 n
theorem iv_size (s : Bool) (n : Nat) : (iv s n).size = 33 := by simp [iv, mgk_size]
theorem iv_neg (s : Bool) (n : Nat) : (iv s n)[0]? = some (.bool s) := by
  unfold iv; rw [Array.getElem?_append_left (by simp)]; rfl
theorem iv_mag (s : Bool) (n : Nat) (k : Nat) : (iv s n)[1 + k]? = (mgk 32 n)[k]? := by
  unfold iv; rw [Array.getElem?_append_right (by simp)]; simp
theorem iv_limb {s : Bool} {n k : Nat} (h : k < 32) : (iv s n)[1 + k]? = some (.int .u32 ((limb n k : Nat) : Int)) := by
  rw [iv_mag]; exact mgk_get h

end Go.Proofs.Ytlccefdjhiedcaa
end
section
namespace Go.Proofs.Ytlccefdjhiedcaa
open Go.RowKit
variable {P : Program}

def eqRow (d : Nat) (e : TypeId) (n : Nat) (xs ys : Array Value) : List Nat → Sem Bool
  | [] => pure true
  | i :: is => do
    let a ← part e xs (i * n)
    let b ← part e ys (i * n)
    let r ← Op.equalIn d e a b
    if (!r) = true then pure false else eqRow d e n xs ys is

theorem run_equalIn_arr (w : World) (d : Nat) (t e : TypeId) (len n : Nat) (xs ys : Array Value) (hu : P.underlying t = some (.array len e)) (hi : (P.info? e).map (·.size) = some n) :
    (Op.equalIn (d + 1) t (.agg xs) (.agg ys)).run P w = (eqRow d e n xs ys (List.range' 0 len)).run P w := by
  have hs : ∀ w, (sizeOf e).run P w = .ok n w := fun w => by
    cases hq : P.info? e with
    | none => simp [hq] at hi
    | some i => simp [hq] at hi; simp [sizeOf, typeInfo, hq, hi]
  simp only [Op.equalIn, Sem.run_bind, run_underlying hu, Result.andThen_ok, hs]
  rw [Std.Legacy.Range.forIn_eq_forIn_range']
  simp only [Std.Legacy.Range.size, Nat.sub_zero, Nat.add_sub_cancel, Nat.div_one]
  generalize List.range' 0 len = l
  induction l generalizing w with
  | nil => simp [eqRow]
  | cons i l ih =>
    simp only [List.forIn_cons, eqRow, Sem.run_bind]
    generalize (part e xs (i * n)).run P w = r1
    cases r1 with
    | halt => rfl
    | ok a w1 =>
      simp only [Result.andThen_ok]
      generalize (part e ys (i * n)).run P w1 = r2
      cases r2 with
      | halt => rfl
      | ok b w2 =>
        simp only [Result.andThen_ok]
        generalize (Op.equalIn d e a b).run P w2 = r3
        cases r3 with
        | halt => rfl
        | ok r w3 =>
          simp only [Result.andThen_ok]
          cases r with
          | false => simp
          | true => simpa using ih w3

theorem run_part (w : World) (e : TypeId) (d : TypeDesc) (hu : P.underlying e = some d) (hd : d.isRow = false) (xs : Array Value) (j : Nat) (v : Value) (h : xs[j]? = some v) : (part e xs j).run P w = .ok v w := by
  have hagg : (isAgg e).run P w = .ok false w := by
    unfold isAgg
    rw [Sem.run_bind, run_underlying hu w]
    cases d <;> simp_all
  simp [part, Sem.run_bind, hagg, h]

theorem run_part_row (w : World) (e : TypeId) (d : TypeDesc) (hu : P.underlying e = some d) (hd : d.isRow = true) (n : Nat) (hi : (P.info? e).map (·.size) = some n) (xs : Array Value) (j : Nat) : (part e xs j).run P w = .ok (.agg (xs.extract j (j + n))) w := by
  have hagg : (isAgg e).run P w = .ok true w := by
    unfold isAgg
    rw [Sem.run_bind, run_underlying hu w]
    cases d <;> simp_all
  have hs : (sizeOf e).run P w = .ok n w := by
    cases hq : P.info? e with
    | none => simp [hq] at hi
    | some i => simp [hq] at hi; simp [sizeOf, typeInfo, hq, hi]
  simp [part, Sem.run_bind, hagg, hs]

theorem run_eqRow_mgk (d : Nat) (e : TypeId) (kk : IntKind) (he : P.underlying e = some (.int kk)) (K n m : Nat) : ∀ (l : List Nat) (w : World), (∀ i ∈ l, i < K) →
    (eqRow (d + 1) e 1 (mgk K n) (mgk K m) l).run P w = .ok (decide (∀ i ∈ l, limb n i = limb m i)) w
  | [], w, _ => by simp [eqRow]
  | i :: l, w, h => by
    have hi : i < K := h i (by simp)
    have h1 : (part e (mgk K n) (i * 1)).run P w = .ok (lv (limb n i)) w := run_part w e _ he rfl _ _ _ (by rw [Nat.mul_one]; exact mgk_get hi)
    have h2 : (part e (mgk K m) (i * 1)).run P w = .ok (lv (limb m i)) w := run_part w e _ he rfl _ _ _ (by rw [Nat.mul_one]; exact mgk_get hi)
    have h3 : (Op.equalIn (d + 1) e (lv (limb n i)) (lv (limb m i))).run P w = .ok (((limb n i : Nat) : Int) == ((limb m i : Nat) : Int)) w := run_equalIn_int w d e .u32 kk _ _ he
    simp only [eqRow, Sem.run_bind, h1, h2, h3, Result.andThen_ok]
    by_cases hq : limb n i = limb m i
    · rw [hq]
      simp only [beq_self_eq_true, Bool.not_true, Bool.false_eq_true, if_false]
      rw [run_eqRow_mgk d e kk he K n m l w (fun j hj => h j (by simp [hj]))]
      congr 1
      simp [hq]
    · have : (((limb n i : Nat) : Int) == ((limb m i : Nat) : Int)) = false := by simp; omega
      rw [this]
      simp [hq]

theorem mgk_eq_iff {K n m : Nat} : mgk K n = mgk K m ↔ ∀ i ∈ List.range' 0 K, limb n i = limb m i := by
  constructor
  · intro h i hi
    have hi' : i < K := by simpa using hi
    have h1 := mgk_get (n := n) hi'
    rw [h, mgk_get hi'] at h1
    exact (lv_inj (Option.some.inj h1)).symm
  · intro h
    exact mgk_congr fun i hi => h i (by simpa using hi)

theorem run_equalIn_mgk (w : World) (d : Nat) (t e : TypeId) (kk : IntKind) (K n m : Nat) (hu : P.underlying t = some (.array K e)) (hi : (P.info? e).map (·.size) = some 1) (he : P.underlying e = some (.int kk)) (hn : n < pw K) (hm : m < pw K) :
    (Op.equalIn (d + 2) t (.agg (mgk K n)) (.agg (mgk K m))).run P w = .ok (decide (n = m)) w := by
  rw [run_equalIn_arr w (d + 1) t e K 1 _ _ hu hi, run_eqRow_mgk d e kk he K n m _ w (by simp)]
  congr 1
  rw [decide_eq_decide, ← mgk_eq_iff]
  exact ⟨mgk_inj hn hm, fun h => by rw [h]⟩

theorem run_equalIn_iv (w : World) (d : Nat) (t tb ta e : TypeId) (kk : IntKind) (f g : Field) (s1 s2 : Bool) (n m : Nat) (ht : P.underlying t = some (.struct #[f, g])) (hp : P.stoodInHeld t = false)
    (hf : f.name ≠ "_") (hg : g.name ≠ "_") (hft : f.type = tb) (hgt : g.type = ta) (hfo : f.offset = 0) (hgo : g.offset = 1) (hb : P.underlying tb = some .bool)
    (hu : P.underlying ta = some (.array 32 e)) (hia : (P.info? ta).map (·.size) = some 32) (hi : (P.info? e).map (·.size) = some 1) (he : P.underlying e = some (.int kk)) (hn : n < pw 32) (hm : m < pw 32) :
    (Op.equalIn (d + 3) t (.agg (iv s1 n)) (.agg (iv s2 m))).run P w = .ok (decide (s1 = s2 ∧ n = m)) w := by
  have hfs : P.fieldsOf t = #[f, g] := by simp [Program.fieldsOf, ht]
  have hx : ∀ (s : Bool) (n : Nat), (iv s n).extract 1 (1 + 32) = mgk 32 n := fun s n => by
    apply Array.ext_getElem?
    intro i
    rw [Array.getElem?_extract]
    simp only [iv_size]
    by_cases hi : i < 32
    · rw [if_pos (by omega), iv_mag]
    · rw [if_neg (by omega), Array.getElem?_eq_none (by rw [mgk_size]; omega)]
  rw [run_equalIn_struct w (d + 2) t _ _ (by rw [hfs]; exact ht) hp, hfs]
  simp only [Op.eqFields, ne_eq, hf, hg, not_false_eq_true, if_true, Sem.run_bind, hft, hgt, hfo, hgo]
  rw [run_part w tb _ hb rfl _ _ _ (iv_neg s1 n), Result.andThen_ok, run_part w tb _ hb rfl _ _ _ (iv_neg s2 m), Result.andThen_ok, run_equalIn_bool' w (d + 1) tb s1 s2 hb, Result.andThen_ok]
  by_cases h : s1 = s2
  · subst h
    simp only [beq_self_eq_true, Bool.not_true, Bool.false_eq_true, if_false, Sem.run_bind]
    rw [run_part_row w ta _ hu rfl 32 hia, Result.andThen_ok, run_part_row w ta _ hu rfl 32 hia, Result.andThen_ok, hx, hx, run_equalIn_mgk w d ta e kk 32 n m hu hi he hn hm, Result.andThen_ok]
    by_cases h2 : n = m <;> simp [h2]
  · have : (s1 == s2) = false := by simpa using h
    rw [this]
    simp [h]

section
variable {o : Oper} {a : Act}
theorem run_eql_mgk (w : World) (t t' e : TypeId) (x y : Operand) (ho : o.op = .binOp .eql t x y t') (K n m : Nat) (hx : a.eval x = .agg (mgk K n)) (hy : a.eval y = .agg (mgk K m)) (kk : IntKind)
    (hq : P.eqGuardType P.depth t = false) (hu : P.underlying t = some (.array K e)) (hi : (P.info? e).map (·.size) = some 1) (he : P.underlying e = some (.int kk)) (hn : n < pw K) (hm : m < pw K) :
    (execOp a.eval o).run P w = .ok (.value (.bool (decide (n = m)))) w := by
  unfold execOp
  simp only [ho, hx, hy, Sem.run_bind, run_eqGuard_agg w .eql t x y _ _ hq, Result.andThen_ok, run_eql_struct, run_equalIn_mgk w 9998 t e kk K n m hu hi he hn hm, Sem.run_pure]

structure IvType (P : Program) (t : TypeId) : Prop where
  guard : P.eqGuardType P.depth t = false
  eq : ∀ (w : World) (s1 s2 : Bool) (n m : Nat), n < pw 32 → m < pw 32 → (Op.equalIn 10000 t (.agg (iv s1 n)) (.agg (iv s2 m))).run P w = .ok (decide (s1 = s2 ∧ n = m)) w

theorem run_eql_iv (w : World) (t t' : TypeId) (ht : IvType P t) (x y : Operand) (ho : o.op = .binOp .eql t x y t') (s1 s2 : Bool) (n m : Nat) (hx : a.eval x = .agg (iv s1 n)) (hy : a.eval y = .agg (iv s2 m)) (hn : n < pw 32) (hm : m < pw 32) :
    (execOp a.eval o).run P w = .ok (.value (.bool (decide (s1 = s2 ∧ n = m)))) w := by
  unfold execOp
  simp only [ho, hx, hy, Sem.run_bind, run_eqGuard_agg w .eql t x y _ _ ht.guard, Result.andThen_ok, run_eql_struct, ht.eq w s1 s2 n m hn hm, Sem.run_pure]

theorem run_neq_iv (w : World) (t t' : TypeId) (ht : IvType P t) (x y : Operand) (ho : o.op = .binOp .neq t x y t') (s1 s2 : Bool) (n m : Nat) (hx : a.eval x = .agg (iv s1 n)) (hy : a.eval y = .agg (iv s2 m)) (hn : n < pw 32) (hm : m < pw 32) :
    (execOp a.eval o).run P w = .ok (.value (.bool (!decide (s1 = s2 ∧ n = m)))) w := by
  unfold execOp
  simp only [ho, hx, hy, Sem.run_bind, run_eqGuard_agg w .neq t x y _ _ ht.guard, Result.andThen_ok, run_neq_struct, ht.eq w s1 s2 n m hn hm, Sem.run_pure]
end

end Go.Proofs.Ytlccefdjhiedcaa
end
section
namespace Go.Proofs.Ytlccefdjhiedcaa
open Go.RowKit
variable {P : Program}

theorem fill_get (off : Nat) : ∀ (vs : List Value) (s : Nat) (cs : Array Value), off + s + vs.length ≤ cs.size → ∀ k,
    ((vs.zipIdx s).foldl (fun (cs : Array Value) (x : Value × Nat) => cs.setIfInBounds (off + x.2) x.1) cs)[k]? = if off + s ≤ k ∧ k < off + s + vs.length then vs[k - (off + s)]? else cs[k]?
  | [], s, cs, _, k => by
    rw [if_neg (by simp)]; rfl
  | v :: vs, s, cs, h, k => by
    simp only [List.length_cons] at h
    rw [List.zipIdx_cons, List.foldl_cons, fill_get off vs (s + 1) _ (by simp; omega) k]
    by_cases h1 : off + s = k
    · subst h1
      rw [if_neg (by omega), if_pos (by simp), Array.getElem?_setIfInBounds, if_pos rfl, if_pos (by omega)]
      simp
    · by_cases h2 : off + (s + 1) ≤ k ∧ k < off + (s + 1) + vs.length
      · rw [if_pos h2, if_pos (by simp only [List.length_cons]; omega)]
        rw [show k - (off + s) = (k - (off + (s + 1))) + 1 by omega, List.getElem?_cons_succ]
      · rw [if_neg h2, if_neg (by simp only [List.length_cons]; omega)]
        rw [Array.getElem?_setIfInBounds_ne h1]

theorem fill_iv (s s' : Bool) (n n' : Nat) : (mgk 32 n).zipIdx.foldl (fun (cs : Array Value) (x : Value × Nat) => cs.setIfInBounds (1 + x.2) x.1) (iv s n') = iv s n ∧ (#[Value.bool s].zipIdx.foldl (fun (cs : Array Value) (x : Value × Nat) => cs.setIfInBounds (0 + x.2) x.1) (iv s' n')) = iv s n' := by
  constructor
  · apply Array.ext_getElem?
    intro k
    rw [← Array.foldl_toList, Array.toList_zipIdx, fill_get 1 _ 0 _ (by simp [iv_size, mgk_size])]
    rcases k with _ | k
    · rw [if_neg (by omega), iv_neg, iv_neg]
    · by_cases hk : k < 32
      · rw [if_pos (by simp [mgk_size]; omega)]
        rw [show k + 1 = 1 + k by omega, iv_mag, show 1 + k - (1 + 0) = k by omega]
        simp
      · rw [if_neg (by simp [mgk_size]; omega), Array.getElem?_eq_none (by rw [iv_size]; omega), Array.getElem?_eq_none (by rw [iv_size]; omega)]
  · apply Array.ext_getElem?
    intro k
    rcases k with _ | k
    · rw [iv_neg]; simp [iv_size]
    · simp only [iv]
      simp

theorem fill_step (place : Nat → Option (Nat × Nat)) (cells cells' : Array Value) (i : Nat) (v : Value) (rest : List (Nat × Value)) (off size : Nat) (hp : place i = some (off, size)) (hs : v.cells.size = size) (hfit : off + size ≤ cells.size)
    (hc : v.cells.zipIdx.foldl (fun (cs : Array Value) (x : Value × Nat) => cs.setIfInBounds (off + x.2) x.1) cells = cells') : Instr.fill place cells ((i, v) :: rest) = Instr.fill place cells' rest := by
  subst hs hc
  simp only [Instr.fill, hp]
  rw [if_neg (by simp; omega)]

theorem built_iv (t : TypeId) (fs : Array Field) (hz : (P.info? t).map (·.zero) = some (some (.agg (iv false 0)))) (hu : P.underlying t = some (.struct fs)) (hp : fs.toList.mapM (fun f => (P.info? f.type).map fun i => (f.offset, i.size)) = some [(0, 1), (1, 32)]) (s : Bool) (n : Nat) :
    P.built t [(0, .bool s), (1, .agg (mgk 32 n))] = some (iv s n) := by
  unfold Program.built
  cases hit : P.info? t with
  | none => simp [hit] at hz
  | some it =>
    have hz' : it.zero = some (.agg (iv false 0)) := by simpa [hit] using hz
    have h1 := (fill_iv s false n 0).1
    have h2 := (fill_iv s false n 0).2
    simp only [hu, hz', hp]
    show Instr.fill (fun x => #[(0, 1), (1, 32)][x]?) (iv false 0) [(0, Value.bool s), (1, Value.agg (mgk 32 n))] = _
    rw [fill_step _ _ (iv s 0) 0 (.bool s) _ 0 1 rfl rfl (by show 0 + 1 ≤ (iv false 0).size; rw [iv_size]; omega) h2, fill_step _ _ (iv s n) 1 (.agg (mgk 32 n)) _ 1 32 rfl (mgk_size 32 n) (by rw [iv_size]; omega) h1]
    rfl

theorem built_two (t e : TypeId) (hz : (P.info? t).map (·.zero) = some (some (.agg (mgk 32 0)))) (hu : P.underlying t = some (.array 32 e)) (he : (P.info? e).map (·.size) = some 1) (x y : Nat) (zx zy : Int) (hzx : zx = x) (hzy : zy = y) (hx : x < 4294967296) (hy : y < 4294967296) :
    P.built t [(0, .int .u32 zx), (1, .int .u32 zy)] = some (mgk 32 (x + y * 4294967296)) := by
  unfold Program.built
  cases hit : P.info? t with
  | none => simp [hit] at hz
  | some it =>
    have hz' : it.zero = some (.agg (mgk 32 0)) := by simpa [hit] using hz
    cases hie : P.info? e with
    | none => simp [hie] at he
    | some ie =>
      have hs : ie.size = 1 := by simpa [hie] using he
      simp only [hu, hz', hie, hs, Instr.fill, Value.cells]
      have e0 : (mgk 32 0).setIfInBounds 0 (.int .u32 zx) = mgk 32 x := by
        rw [mgk_put' 0 x hzx hx, put_low _ (by rw [pw_zero]; omega), pw_zero, Nat.mul_one, Nat.zero_add]
      have e1 : (mgk 32 x).setIfInBounds 1 (.int .u32 zy) = mgk 32 (x + y * 4294967296) := by
        rw [mgk_put' x y hzy hy, put_low _ (by rw [pw_one]; exact hx), pw_one]
      simp [e0, e1, mgk_size]

theorem built_one (t e : TypeId) (hz : (P.info? t).map (·.zero) = some (some (.agg (mgk 32 0)))) (hu : P.underlying t = some (.array 32 e)) (he : (P.info? e).map (·.size) = some 1) (x : Nat) (zx : Int) (hzx : zx = x) (hx : x < 4294967296) :
    P.built t [(0, .int .u32 zx)] = some (mgk 32 x) := by
  unfold Program.built
  cases hit : P.info? t with
  | none => simp [hit] at hz
  | some it =>
    have hz' : it.zero = some (.agg (mgk 32 0)) := by simpa [hit] using hz
    cases hie : P.info? e with
    | none => simp [hie] at he
    | some ie =>
      have hs : ie.size = 1 := by simpa [hie] using he
      simp only [hu, hz', hie, hs, Instr.fill, Value.cells]
      have e0 : (mgk 32 0).setIfInBounds 0 (.int .u32 zx) = mgk 32 x := by
        rw [mgk_put' 0 x hzx hx, put_low _ (by rw [pw_zero]; omega), pw_zero, Nat.mul_one, Nat.zero_add]
      simp [e0, mgk_size]

def vz (s : Bool) (n : Nat) : Int := if s then -(n : Int) else n
def ivZ (z : Int) : Array Value := iv (decide (z < 0)) z.natAbs
theorem vz_abs (s : Bool) (n : Nat) : (vz s n).natAbs = n := by unfold vz; split <;> omega
theorem vz_lt (s : Bool) (n : Nat) : decide (vz s n < 0) = (s && !isz n) := by
  cases s
  · rw [decide_eq_false (by unfold vz; simp)]; rfl
  · by_cases h : n = 0
    · subst h; rw [decide_eq_false (by unfold vz; simp)]; rfl
    · rw [decide_eq_true (by unfold vz; simp; omega)]; simp [isz_false h]
theorem ivZ_vz (s : Bool) (n : Nat) : ivZ (vz s n) = iv (s && !isz n) n := by unfold ivZ; rw [vz_lt, vz_abs]
theorem ivZ_zero : ivZ 0 = iv false 0 := by simp [ivZ]
theorem vz_zero (s : Bool) : vz s 0 = 0 := by cases s <;> rfl
theorem ivZ_inj {x y : Int} : (decide (x < 0) = decide (y < 0) ∧ x.natAbs = y.natAbs) ↔ x = y := by
  constructor
  · rintro ⟨h1, h2⟩
    have : (x < 0) ↔ (y < 0) := by simpa using h1
    omega
  · rintro rfl; exact ⟨rfl, rfl⟩
theorem vz_self (z : Int) : vz (decide (z < 0)) z.natAbs = z := by
  unfold vz
  by_cases h : z < 0
  · simp [h]; omega
  · simp [h]; omega
def resZ (z : Int) : Value := if z.natAbs < pw 32 then .tuple #[.agg (ivZ z), .int .i64 0] else .tuple #[.agg (ivZ 0), .int .i64 10]
theorem resZ_fits {z : Int} (h : z.natAbs < pw 32) : resZ z = .tuple #[.agg (ivZ z), .int .i64 0] := if_pos h
theorem resZ_not {z : Int} (h : ¬ z.natAbs < pw 32) : resZ z = .tuple #[.agg (ivZ 0), .int .i64 10] := if_neg h
end Go.Proofs.Ytlccefdjhiedcaa
end
section
namespace Go.Proofs.Ytlccefdjhiedcaa
open Go.RowKit
theorem size54 : (Try.prog.info? 54).map (·.size) = some 32 := by kernel_rfl
theorem size23 : (Try.prog.info? 23).map (·.size) = some 32 := by kernel_rfl
theorem size25 : (Try.prog.info? 25).map (·.size) = some 33 := by kernel_rfl
theorem size22 : (Try.prog.info? 22).map (·.size) = some 1 := by kernel_rfl
theorem size25_iv (s : Bool) (n : Nat) : (Try.prog.info? 25).map (·.size) = some (iv s n).size := by rw [iv_size]; exact size25
theorem size54_mg (n : Nat) : (Try.prog.info? 54).map (·.size) = some (mgk 32 n).size := by rw [mgk_size]; exact size54
theorem size23_mg (n : Nat) : (Try.prog.info? 23).map (·.size) = some (mgk 32 n).size := by rw [mgk_size]; exact size23
theorem iv_sizes (s t : Bool) (n m : Nat) : (iv s n).size = (iv t m).size := by rw [iv_size, iv_size]
theorem mg_sizes (k n m : Nat) : (mgk k n).size = (mgk k m).size := by rw [mgk_size, mgk_size]
theorem zero54 : (Try.prog.info? 54).map (·.zero) = some (some (.agg (mgk 32 0))) := by rw [mgk_zero]; kernel_rfl
theorem zero23 : (Try.prog.info? 23).map (·.zero) = some (some (.agg (mgk 32 0))) := by rw [mgk_zero]; kernel_rfl
theorem iv_zero : iv false 0 = #[.bool false] ++ Array.replicate 32 (.int .u32 0) := by rw [iv, mgk_zero]
theorem zero25 : (Try.prog.info? 25).map (·.zero) = some (some (.agg (iv false 0))) := by rw [iv_zero]; kernel_rfl
theorem built54 : Try.prog.built 54 [] = some (mgk 32 0) := by rw [mgk_zero]; kernel_rfl
theorem built25 : Try.prog.built 25 [] = some (iv false 0) := by rw [iv_zero]; kernel_rfl
theorem built25_iv (s : Bool) (n : Nat) : Try.prog.built 25 [(0, .bool s), (1, .agg (mgk 32 n))] = some (iv s n) := built_iv 25 _ zero25 Try.underlying25 (by kernel_rfl) s n
theorem built54_two (x y : Nat) (zx zy : Int) (hzx : zx = x) (hzy : zy = y) (hx : x < 4294967296) (hy : y < 4294967296) : Try.prog.built 54 [(0, .int .u32 zx), (1, .int .u32 zy)] = some (mgk 32 (x + y * 4294967296)) := built_two 54 22 zero54 Try.underlying54 size22 x y zx zy hzx hzy hx hy
theorem built54_one (x : Nat) (zx : Int) (hzx : zx = x) (hx : x < 4294967296) : Try.prog.built 54 [(0, .int .u32 zx)] = some (mgk 32 x) := built_one 54 22 zero54 Try.underlying54 size22 x zx hzx hx
theorem guard54 : Try.prog.eqGuardType Try.prog.depth 54 = false := by kernel_rfl
theorem guard25 : Try.prog.eqGuardType Try.prog.depth 25 = false := by kernel_rfl
theorem ivType : IvType Try.prog 25 := ⟨guard25, fun w s1 s2 n m hn hm =>
  run_equalIn_iv w 9997 25 4 23 22 .u32 _ _ s1 s2 n m Try.underlying25 (by kernel_rfl) (by decide) (by decide) rfl rfl rfl rfl Try.underlying4 Try.underlying23 size23 size22 Try.underlying22 hn hm⟩
theorem oneCells (k n : Nat) : (mgk k n).all (·.oneCell') = true := by
  rw [Array.all_eq_true]
  intro i hi
  simp [mgk, lv, Value.oneCell']
theorem oneCells_iv (s : Bool) (n : Nat) : (iv s n).all (·.oneCell') = true := by
  unfold iv
  rw [Array.all_append, oneCells]
  simp [Value.oneCell']
theorem size25_Z (z : Int) : (Try.prog.info? 25).map (·.size) = some (ivZ z).size := size25_iv _ _
theorem ivz_sizes (s : Bool) (n : Nat) (z : Int) : (iv s n).size = (ivZ z).size := iv_sizes _ _ _ _
theorem oneCells_Z (z : Int) : (ivZ z).all (·.oneCell') = true := oneCells_iv _ _
theorem ret2 {a b c d : Value} (h1 : a = c) (h2 : b = d) : Ending.returned (.tuple #[a, b]) = .returned (.tuple #[c, d]) := by rw [h1, h2]
theorem u32_eq {a : Int} {b : Nat} (h : a = b) : Value.int .u32 a = .int .u32 ((b : Nat) : Int) := by rw [h]

def neZ (x y : Int) : Bool := !decide (x = y)
def eqZ (x y : Int) : Bool := decide (x = y)
theorem neZ_true {x y : Int} (h : x ≠ y) : neZ x y = true := by simp [neZ, h]
theorem neZ_false {x y : Int} (h : x = y) : neZ x y = false := by simp [neZ, h]
theorem eqZ_true {x y : Int} (h : x = y) : eqZ x y = true := by simp [eqZ, h]
theorem run_neq_Z {o : Oper} {a : Act} (w : World) (x y : Operand) (t' : TypeId) (ho : o.op = .binOp .neq 25 x y t') (p q : Int) (hx : a.eval x = .agg (ivZ p)) (hy : a.eval y = .agg (ivZ q)) (hp : p.natAbs < pw 32) (hq : q.natAbs < pw 32) :
    (execOp a.eval o).run Try.prog w = .ok (.value (.bool (neZ p q))) w := by
  rw [run_neq_iv w 25 t' ivType x y ho _ _ _ _ hx hy hp hq, neZ, decide_eq_decide.2 (ivZ_inj (x := p) (y := q))]
theorem run_eql_Z {o : Oper} {a : Act} (w : World) (x y : Operand) (t' : TypeId) (ho : o.op = .binOp .eql 25 x y t') (p q : Int) (hx : a.eval x = .agg (ivZ p)) (hy : a.eval y = .agg (ivZ q)) (hp : p.natAbs < pw 32) (hq : q.natAbs < pw 32) :
    (execOp a.eval o).run Try.prog w = .ok (.value (.bool (eqZ p q))) w := by
  rw [run_eql_iv w 25 t' ivType x y ho _ _ _ _ hx hy hp hq, eqZ, decide_eq_decide.2 (ivZ_inj (x := p) (y := q))]
theorem run_neq_Z' {o : Oper} {a : Act} (w : World) (x y : Operand) (t' : TypeId) (ho : o.op = .binOp .neq 25 x y t') (p q : Int) (hx : a.eval x = .agg (ivZ p)) (hy : a.eval y = .agg (ivZ q)) (hp : p.natAbs < pw 32) (hq : q.natAbs < pw 32) (b : Bool) (hb : neZ p q = b) :
    (execOp a.eval o).run Try.prog w = .ok (.value (.bool b)) w := by rw [← hb]; exact run_neq_Z w x y t' ho p q hx hy hp hq
theorem run_eql_Z' {o : Oper} {a : Act} (w : World) (x y : Operand) (t' : TypeId) (ho : o.op = .binOp .eql 25 x y t') (p q : Int) (hx : a.eval x = .agg (ivZ p)) (hy : a.eval y = .agg (ivZ q)) (hp : p.natAbs < pw 32) (hq : q.natAbs < pw 32) (b : Bool) (hb : eqZ p q = b) :
    (execOp a.eval o).run Try.prog w = .ok (.value (.bool b)) w := by rw [← hb]; exact run_eql_Z w x y t' ho p q hx hy hp hq
variable {P : Program} {c : Option Nat} {w0 w : World} {r l : List (Nat × Obj)}
theorem res_cell {fn : Func} {p : Tmp} {ty : TypeId} (h : fn.results = #[.cell p ty]) (hS : St c w0 w r l) (tmps : Array Value) (b : Nat) (cs : Array Value) (T : TypeId) (hm : (b, Obj.cells cs T) ∈ l ∨ (b, Obj.cells cs T) ∈ r)
    (hp : tmps.getD p undef = .pointer (some ⟨b, 0, none⟩)) (d : TypeDesc) (hu : P.underlying ty = some d) (hd : d.isRow = true) (hi : (P.info? ty).map (·.size) = some cs.size) : (results fn tmps).run P w = .ok (.agg cs) w :=
  results_cell_row h tmps w b T cs (0, 0) d hp (hS.get hm) hu (by cases d <;> first | rfl | exact hd) hi
theorem run_loadRow (hS : St c w0 w r l) (b : Nat) (cs : Array Value) (T ty : TypeId) (hm : (b, Obj.cells cs T) ∈ l ∨ (b, Obj.cells cs T) ∈ r) (d : TypeDesc) (hu : P.underlying ty = some d) (hd : d.isRow = true) (hi : (P.info? ty).map (·.size) = some cs.size) :
    (loadVar ty ⟨b, 0, none⟩).run P w = .ok (.agg cs) w := run_loadVar_row w b T ty cs (0, 0) d (hS.get hm) hu (by cases d <;> first | rfl | exact hd) hi
theorem res_cell_tmp {fn : Func} {p q : Tmp} {ty : TypeId} (h : fn.results = #[.cell p ty, .tmp q]) (tmps : Array Value) (b : Nat) (cs : Array Value) (hl : (loadVar ty ⟨b, 0, none⟩).run P w = .ok (.agg cs) w)
    (hp : tmps.getD p undef = .pointer (some ⟨b, 0, none⟩)) (v : Value) (hv : tmps.getD q undef = v) : (results fn tmps).run P w = .ok (.tuple #[.agg cs, v]) w := by
  have hp' : tmps[p]?.getD undef = .pointer (some ⟨b, 0, none⟩) := by simpa using hp
  have hv' : tmps[q]?.getD undef = v := by simpa using hv
  simp [results, h, hp', hv', asAddr, hl]
theorem res_cell_cell {fn : Func} {p q : Tmp} {t u : TypeId} (h : fn.results = #[.cell p t, .cell q u]) (tmps : Array Value) (b b' : Nat) (cs cs' : Array Value) (hl : (loadVar t ⟨b, 0, none⟩).run P w = .ok (.agg cs) w) (hl' : (loadVar u ⟨b', 0, none⟩).run P w = .ok (.agg cs') w)
    (hp : tmps.getD p undef = .pointer (some ⟨b, 0, none⟩)) (hp2 : tmps.getD q undef = .pointer (some ⟨b', 0, none⟩)) : (results fn tmps).run P w = .ok (.tuple #[.agg cs, .agg cs']) w := by
  have hp' : tmps[p]?.getD undef = .pointer (some ⟨b, 0, none⟩) := by simpa using hp
  have hp2' : tmps[q]?.getD undef = .pointer (some ⟨b', 0, none⟩) := by simpa using hp2
  simp [results, h, hp', hp2', asAddr, hl, hl']
theorem res_cell_cell_tmp {fn : Func} {p q s : Tmp} {t u : TypeId} (h : fn.results = #[.cell p t, .cell q u, .tmp s]) (tmps : Array Value) (b b' : Nat) (cs cs' : Array Value) (hl : (loadVar t ⟨b, 0, none⟩).run P w = .ok (.agg cs) w) (hl' : (loadVar u ⟨b', 0, none⟩).run P w = .ok (.agg cs') w)
    (hp : tmps.getD p undef = .pointer (some ⟨b, 0, none⟩)) (hp2 : tmps.getD q undef = .pointer (some ⟨b', 0, none⟩)) (v : Value) (hv : tmps.getD s undef = v) : (results fn tmps).run P w = .ok (.tuple #[.agg cs, .agg cs', v]) w := by
  have hp' : tmps[p]?.getD undef = .pointer (some ⟨b, 0, none⟩) := by simpa using hp
  have hp2' : tmps[q]?.getD undef = .pointer (some ⟨b', 0, none⟩) := by simpa using hp2
  have hv' : tmps[s]?.getD undef = v := by simpa using hv
  simp [results, h, hp', hp2', hv', asAddr, hl, hl']

end Go.Proofs.Ytlccefdjhiedcaa
end
section
namespace Go.Proofs.Ytlccefdjhiedcaa
open Go.RowKit Go.ChangeShapes
section
variable {H : Type} {enc : TypeId × Value → H} {w : World} {base : Nat} {spare : Nat → Bool} {held : Bool}

def ivd (H : Type) (s : Bool) (n : Nat) : DataW H := .agg [.lit (.bool s), .agg ((List.range 32).map fun i => .lit (.int .u32 ((limb n i : Nat) : Int)))]

theorem cells25 : Try.prog.cellsOf 25 = 33 := by kernel_rfl
theorem cells23 : Try.prog.cellsOf 23 = 32 := by kernel_rfl
theorem cells22 : Try.prog.cellsOf 22 = 1 := by kernel_rfl
theorem cells4 : Try.prog.cellsOf 4 = 1 := by kernel_rfl

theorem u32_wf (n i : Nat) : (Lit.int .u32 ((limb n i : Nat) : Int)).wf = true := by
  have := limb_lt n i
  simp [Lit.wf, IntKind.min, IntKind.max, IntKind.signed, IntKind.bits]; omega

theorem okWide_agg {P : Program} {w : World} {r : Reach} {b0 : Nat} {t : TypeId} {v : Value} {fs : Array Field} (h : P.underlying t = some (.struct fs)) (hv : Value.okWide P w r b0 t v) : ∃ cs, v = .agg cs ∧ cs.size = P.cellsOf t := by
  unfold Value.okWide at hv
  rw [h] at hv
  obtain ⟨cs, h1, h2, _⟩ := hv
  exact ⟨cs, h1, h2⟩

theorem agg_at {P : Program} {w : World} {r : Reach} {b0 : Nat} {ts : Array TypeId} {args : Array Value} {t : TypeId} {v : Value} {fs : Array Field} (hval : ∀ (j : Nat) t v, ts[j]? = some t → args[j]? = some v → Value.okWide P w r b0 t v) (j : Nat) (ht : ts[j]? = some t) (hv : args[j]? = some v) (h : P.underlying t = some (.struct fs)) : ∃ cs, v = .agg cs ∧ cs.size = P.cellsOf t := okWide_agg h (hval j t v ht hv)

theorem open_iv {v : Value} {d : DataW H} {ps : List MemPlace} (hval : ∃ cs, v = .agg cs ∧ cs.size = Try.prog.cellsOf 25) (hd : DataW.Trod enc Try.prog w base spare held 25 v d ps) :
    ∃ s n, n < pw 32 ∧ v = .agg (iv s n) ∧ d = ivd H s n ∧ ps = [] := by
  obtain ⟨cs, rfl, hsz⟩ := hval
  obtain ⟨fuel, hf⟩ := hd
  simp only [Value.cells] at hf
  obtain ⟨y0, y1, m, hx, hl, h0, h1⟩ := trod_struct2 Try.underlying25 hf
  rw [cells25] at hsz
  obtain ⟨s, hs, rfl⟩ := DataW.trod_bool Try.underlying4 h0
  obtain ⟨xs, m', -, rfl, hl1, hlen, hel⟩ := DataW.trod_array Try.underlying23 h1
  have hcell : ∀ i, i < 32 → ∃ z : Nat, z < 4294967296 ∧ cs[1 + i]? = some (lv z) ∧ xs[i]? = some (.lit (.int .u32 ((z : Nat) : Int)), []) := by
    intro i hi
    have he := hel i hi
    have hxi : i < xs.length := by omega
    rw [List.getElem?_eq_getElem hxi] at he
    obtain ⟨z, hz, hx', hw⟩ := DataW.trod_int Try.underlying22 he
    have hb := bounds_u32 hw
    refine ⟨z.toNat, by omega, ?_, ?_⟩
    · have h2 : ((((cs.toList.drop 1).take 32).drop (i * 1)).take 1)[0]? = some (.int .u32 z) := by
        rw [cells22, cells23] at hz
        rw [hz]; rfl
      rw [List.getElem?_take_of_lt (by omega), List.getElem?_drop, List.getElem?_take_of_lt (by omega), List.getElem?_drop] at h2
      simp only [Nat.mul_one, Nat.add_zero] at h2
      rw [← Array.getElem?_toList, h2]
      unfold lv
      rw [Int.toNat_of_nonneg hb.1]
    · rw [List.getElem?_eq_getElem hxi, hx', Int.toNat_of_nonneg hb.1]
  obtain ⟨n, hn, hA⟩ := mgk_of_row 32 (cs.extract 1 33) (by simp [hsz]) (by
    intro i hi
    obtain ⟨z, hz, hc, -⟩ := hcell i hi
    exact ⟨z, hz, by rw [Array.getElem?_extract, if_pos (by omega)]; exact hc⟩)
  have hiv : cs = iv s n := by
    apply Array.ext_getElem?
    intro i
    rcases Nat.eq_zero_or_pos i with rfl | hi
    · rw [iv_neg]
      have h2 : ((cs.toList.drop 0).take 1)[0]? = some (.bool s) := by
        rw [cells4] at hs
        rw [hs]; rfl
      rw [List.getElem?_take_of_lt (by omega), List.getElem?_drop] at h2
      rw [← Array.getElem?_toList]
      exact h2
    · obtain ⟨k, rfl⟩ : ∃ k, i = 1 + k := ⟨i - 1, by omega⟩
      rw [iv_mag, ← hA]
      rcases Nat.lt_or_ge k 32 with hk | hk
      · rw [Array.getElem?_extract, if_pos (by omega)]
      · rw [Array.getElem?_eq_none (by omega), Array.getElem?_eq_none (by simp; omega)]
  have hxs : xs = (List.range 32).map fun i => (DataW.lit (.int .u32 ((limb n i : Nat) : Int)), []) := by
    apply List.ext_getElem?
    intro i
    rcases Nat.lt_or_ge i 32 with hi | hi
    · obtain ⟨z, hz, hc, hx'⟩ := hcell i hi
      rw [hx']
      rw [hiv, iv_limb hi] at hc
      have e : limb n i = z := by
        have := Option.some.inj hc
        exact lv_inj this
      simp [hi, e]
    · rw [List.getElem?_eq_none (by omega), List.getElem?_eq_none (by simp; omega)]
  clear hf h0 h1 hel hcell
  have h1 : d = _ := congrArg Prod.fst hx
  have h2 : ps = _ := congrArg Prod.snd hx
  clear hx
  refine ⟨s, n, hn, congrArg Value.agg hiv, ?_, ?_⟩
  · rw [h1, hxs, ivd]; simp only [List.map_map]; rfl
  · rw [h2, hxs]; simp

theorem mapM_map {α β : Type} (f : α → Option β) (g : α → β) : ∀ (l : List α), (∀ i, i ∈ l → f i = some (g i)) → l.mapM f = some (l.map g)
  | [], _ => by simp
  | a :: l, h => by
    rw [List.mapM_cons, h a (List.mem_cons_self ..), mapM_map f g l fun i hi => h i (List.mem_cons_of_mem _ hi)]
    rfl
theorem trod_limbs (n : Nat) (f : Nat) : DataW.trod enc Try.prog w base spare held (f + 2) 23 (mgk 32 n).toList = some (.agg ((List.range 32).map fun i => .lit (.int .u32 ((limb n i : Nat) : Int))), []) := by
  have hl : (mgk 32 n).toList.length = Try.prog.cellsOf 23 := by rw [cells23, Array.length_toList, mgk_size]
  unfold DataW.trod
  rw [Try.underlying23]
  have hm : (List.range 32).mapM (fun i => DataW.trod enc Try.prog w base spare held (f + 1) 22 (((mgk 32 n).toList.drop (i * Try.prog.cellsOf 22)).take (Try.prog.cellsOf 22))) = some ((List.range 32).map fun i => (DataW.lit (.int .u32 ((limb n i : Nat) : Int)), [])) := by
    have hc : ∀ i, i < 32 → DataW.trod enc Try.prog w base spare held (f + 1) 22 (((mgk 32 n).toList.drop (i * Try.prog.cellsOf 22)).take (Try.prog.cellsOf 22)) = some (DataW.lit (.int .u32 ((limb n i : Nat) : Int)), []) := by
      intro i hi
      have : ((mgk 32 n).toList.drop (i * Try.prog.cellsOf 22)).take (Try.prog.cellsOf 22) = [.int .u32 ((limb n i : Nat) : Int)] := by
        rw [cells22, Nat.mul_one]
        have hlen : i < (mgk 32 n).toList.length := by rw [Array.length_toList, mgk_size]; exact hi
        rw [List.drop_eq_getElem_cons hlen, List.take_succ_cons, List.take_zero]
        have := mgk_get' (n := n) hi
        rw [← Array.getElem?_toList, List.getElem?_eq_getElem hlen] at this
        rw [Option.some.inj this]
      rw [this]
      exact trod_int_mk f Try.underlying22 (u32_wf n i)
    exact mapM_map _ _ _ fun i hi => hc i (List.mem_range.1 hi)
  simp [hm, hl]
theorem shut_iv {s : Bool} {n : Nat} : DataW.Trod enc Try.prog w base spare held 25 (.agg (iv s n)) (ivd H s n) [] := by
  refine ⟨4, ?_⟩
  simp only [Value.cells]
  have := trod_struct2_mk (enc := enc) (w := w) (base := base) (spare := spare) (held := held) (n := 3) (cs := (iv s n).toList) (y0 := (.lit (.bool s), [])) (y1 := (.agg ((List.range 32).map fun i => .lit (.int .u32 ((limb n i : Nat) : Int))), [])) Try.underlying25 (by rw [cells25, Array.length_toList, iv_size]) (by
    simp [iv, cells4, DataW.trod, Try.underlying4]) (by
    have := trod_limbs (enc := enc) (w := w) (base := base) (spare := spare) (held := held) n 1
    rw [cells23]
    have e : ((iv s n).toList.drop 1).take 32 = (mgk 32 n).toList := by
      rw [iv, Array.toList_append]
      simp [List.take_of_length_le, mgk_size]
    rw [e]; exact this)
  exact this
end
end Go.Proofs.Ytlccefdjhiedcaa
end
