/- A region whose order is left open, with stores in it: walked once, in the order of the text. The world goes from class to class: 'cls p' behind p of the operations 'ws' that write; all others leave the class. Operations on the list 'fl' yield their value in whatever world: they may come behind a store. No program is named here. -/
import Derived.Deep.Quiet
import Derived.StillTail
namespace Go.Proofs.YteemnnajfiimlaaDoor

variable {P : Program} {ops : Array Oper} {md : Region.Mode} {ws fl : List Nat} {cls : Nat → World → Prop} {Q : Exit → Act → World → Prop}

/-- What an operation of class Ca, run in the world w, is to give: the value v, and a world of class Cb. -/
def IntoAt (P : Program) (Cb : World → Prop) (w : World) (v : Value) : Result Next → Prop
  | .ok (.value u) w' => u = v ∧ Cb w'
  | .ok .skip w' => v = undef ∧ Cb w'
  | .ok (.enter f args) w' => w' = w ∧ Calls P f args w (fun e w'' => e = .returned v ∧ Cb w'')
  | _ => False
def Into (P : Program) (o : Oper) (a : Act) (Ca Cb : World → Prop) (v : Value) : Prop := ∀ w, Ca w → IntoAt P Cb w v ((execOp a.eval o).run P w)

def Cls (ws : List Nat) (cls : Nat → World → Prop) (listed : Array Bool) : World → Prop := cls (ws.countP fun t => listed.getD t false)

theorem Cls_set {listed : Array Bool} {i : Nat} (h : i ∉ ws) : Cls ws cls (listed.setIfInBounds i true) = Cls ws cls listed := by
  unfold Cls
  congr 1
  refine List.countP_congr fun t ht => ?_
  rw [getD_set_ne false (fun e => h (by rw [e]; exact ht))]

theorem count_set : ∀ {ws : List Nat} {listed : Array Bool} {i : Nat}, ws.Nodup → i ∈ ws → listed.getD i true = false →
    (ws.countP fun t => (listed.setIfInBounds i true).getD t false) = (ws.countP fun t => listed.getD t false) + 1
  | [], _, _, _, h, _ => by cases h
  | t :: ws, listed, i, hn, h, hu => by
    have hlt : i < listed.size := by
      rcases Nat.lt_or_ge i listed.size with h' | h'
      · exact h'
      · simp [Array.getElem?_eq_none h'] at hu
    have hn' := List.nodup_cons.1 hn
    rw [List.countP_cons, List.countP_cons]
    by_cases he : t = i
    · subst he
      have h1 : (listed.setIfInBounds t true).getD t false = true := by simp [hlt]
      have h2 : listed.getD t false = false := getD_both hu
      rw [h1, h2]
      have h3 : (ws.countP fun s => (listed.setIfInBounds t true).getD s false) = ws.countP fun s => listed.getD s false :=
        List.countP_congr fun s hs => by rw [getD_set_ne false (fun e => hn'.1 (by rw [e]; exact hs))]
      rw [h3]
      simp
    · have hm : i ∈ ws := by
        rcases List.mem_cons.1 h with h | h
        · exact absurd h.symm he
        · exact h
      rw [count_set hn'.2 hm hu, getD_set_ne false (fun e => he e.symm)]
      omega

def sOp (P : Program) (ops : Array Oper) (ws : List Nat) (cls : Nat → World → Prop) (i : Nat) (listed : Array Bool) (K : Act → Prop) (a : Act) : Prop :=
  match ops[i]? with
  | none => Cls ws cls (listed.setIfInBounds i true) = Cls ws cls listed ∧ K a
  | some o =>
    if Region.wanted o (yielded ops a.tmps) then ∃ v, Into P o a (Cls ws cls listed) (Cls ws cls (listed.setIfInBounds i true)) v ∧ K (a.put o.dst v)
    else Cls ws cls (listed.setIfInBounds i true) = Cls ws cls listed ∧ K (a.put o.dst undef)

/-- Whatever order is picked from here on. -/
def anyS (P : Program) (md : Region.Mode) (ops : Array Oper) (ws : List Nat) (cls : Nat → World → Prop) (Q : Exit → Act → World → Prop) : Nat → Array Bool → Act → Prop
  | 0, listed, a => Region.ready md ops listed = [] ∧ ∀ w, Cls ws cls listed w → Q .normal a w
  | f + 1, listed, a =>
    (Region.ready md ops listed = [] → ∀ w, Cls ws cls listed w → Q .normal a w) ∧
    ∀ i ∈ Region.ready md ops listed, sOp P ops ws cls i listed (anyS P md ops ws cls Q f (listed.setIfInBounds i true)) a

theorem wpOp_of_sOp {i : Nat} {listed : Array Bool} {a : Act} {K : Act → Prop} {K' : Act → World → Prop} {w : World} (hw : Cls ws cls listed w)
    (h : ∀ a w', Cls ws cls (listed.setIfInBounds i true) w' → K a → K' a w') (hh : sOp P ops ws cls i listed K a) : wpOp P ops Q i K' a w := by
  unfold sOp at hh
  unfold wpOp
  split
  · rename_i ho; simp only [ho] at hh; exact h _ _ (by rw [hh.1]; exact hw) hh.2
  · rename_i o ho
    simp only [ho] at hh
    split
    · rename_i hwt
      simp only [hwt, if_true] at hh
      obtain ⟨v, hv, hk⟩ := hh
      have hv' := hv w hw
      refine .inl ?_
      unfold Oper.wp
      generalize (execOp a.eval o).run P w = r at *
      cases r with
      | ok n w' =>
        cases n <;> simp only [IntoAt] at hv' <;> simp only [Oper.upon]
        case value u => obtain ⟨rfl, h2⟩ := hv'; exact h _ _ h2 hk
        case skip => obtain ⟨rfl, h2⟩ := hv'; exact h _ _ h2 hk
        case enter f args =>
          obtain ⟨rfl, hc⟩ := hv'
          exact hc.mono fun e w'' ⟨he, hw''⟩ => by subst he; exact h _ _ hw'' hk
      | halt x w' => simp only [IntoAt] at hv'
    · rename_i hwt; simp only [hwt] at hh; exact h _ _ (by rw [hh.1]; exact hw) hh.2

theorem wpAny_of_anyS : ∀ (f : Nat) (listed : Array Bool) (a : Act) (w : World), Cls ws cls listed w → anyS P md ops ws cls Q f listed a → wpAny P md ops Q f listed a w
  | 0, _, _, _, hw, h => ⟨h.1, h.2 _ hw⟩
  | f + 1, _, _, _, hw, h => ⟨fun h0 => h.1 h0 _ hw, fun i hi => wpOp_of_sOp hw (fun a' w' hw' ha => wpAny_of_anyS f _ a' w' hw' ha) (h.2 i hi)⟩

/-- In state 'a' operation 'o' leaves v in every world of class p ('free': of every class from p on), which it does not leave. -/
def YieldsS (P : Program) (ops : Array Oper) (free : Bool) (top : Nat) (cls : Nat → World → Prop) (p : Nat) (o : Oper) (v : Value) (a : Act) : Prop :=
  (Region.wanted o (yielded ops a.tmps) = true ∧ ∀ q, (q = p ∨ (free = true ∧ p ≤ q ∧ q ≤ top)) → Into P o a (cls q) (cls q) v) ∨
  (Region.wanted o (yielded ops a.tmps) = false ∧ v = undef)

theorem YieldsS.of_same {free : Bool} {top p : Nat} {o : Oper} {v : Value} {a a' : Act} (hy : YieldsS P ops free top cls p o v a) (he : execOp a'.eval o = execOp a.eval o)
    (hw : Region.wanted o (yielded ops a'.tmps) = Region.wanted o (yielded ops a.tmps)) : YieldsS P ops free top cls p o v a' := by
  unfold YieldsS Into at *
  rw [he, hw]
  exact hy

theorem YieldsS.sOp {free : Bool} {top i : Nat} {listed : Array Bool} {o : Oper} {v : Value} {a : Act} (hi : ops[i]? = some o) (hn : i ∉ ws) (hy : YieldsS P ops free top cls (ws.countP fun t => listed.getD t false) o v a) {K : Act → Prop} (h : K (a.put o.dst v)) :
    sOp P ops ws cls i listed K a := by
  unfold Proofs.YteemnnajfiimlaaDoor.sOp
  simp only [hi, Cls_set hn]
  rcases hy with ⟨hw, hv⟩ | ⟨hw, rfl⟩
  · simp only [hw, if_true]
    exact ⟨v, hv _ (.inl rfl), h⟩
  · simp only [hw, Bool.false_eq_true, if_false]; exact ⟨trivial, h⟩

/-- What has come up has come up behind all that it waits for. -/
def Closed (md : Region.Mode) (ops : Array Oper) (listed : Array Bool) : Prop :=
  listed.size = ops.size ∧ ∀ j oj, ops[j]? = some oj → listed.getD j false = true → ∀ e ∈ oj.after, Region.binds md e = true → listed.getD e.on false = true

theorem Closed.set {listed : Array Bool} {i : Nat} (h : Closed md ops listed) (hi : i ∈ Region.ready md ops listed) : Closed md ops (listed.setIfInBounds i true) := by
  obtain ⟨_, oi, hoi, hall⟩ := mem_ready.1 hi
  refine ⟨by simp [h.1], fun j oj hj hl e he hb => ?_⟩
  by_cases hij : i = j
  · subst hij
    have : oj = oi := Option.some.inj (hj.symm.trans hoi)
    subst this
    exact getD_set_true (hall e he hb)
  · rw [getD_set_ne false hij] at hl
    exact getD_set_true (h.2 j oj hj hl e he hb)

/-- t waits for i, at most n steps away. -/
def waitsT (md : Region.Mode) (ops : Array Oper) : Nat → Nat → Nat → Bool
  | 0, t, i => Region.waitsFor md ops t i
  | n + 1, t, i => Region.waitsFor md ops t i || (List.range ops.size).any fun j => Region.waitsFor md ops t j && waitsT md ops n j i

theorem listed_of_waitsT {listed : Array Bool} (hc : Closed md ops listed) : ∀ (n t i : Nat), waitsT md ops n t i = true → listed.getD t false = true → listed.getD i false = true
  | 0, t, i, h, ht => by
    obtain ⟨ot, hot, e, he, hb, hon⟩ := Region.waitsFor_spec h
    rw [← hon]; exact hc.2 t ot hot ht e he hb
  | n + 1, t, i, h, ht => by
    simp only [waitsT, Bool.or_eq_true, List.any_eq_true, Bool.and_eq_true] at h
    rcases h with h | ⟨j, _, h1, h2⟩
    · exact listed_of_waitsT hc 0 t i h ht
    · exact listed_of_waitsT hc n j i h2 (listed_of_waitsT hc 0 t j h1 ht)

theorem not_ready_of_waitsT {listed : Array Bool} (hc : Closed md ops listed) {n t i : Nat} (h : waitsT md ops n t i = true) (hi : listed.getD i true = false) : t ∉ Region.ready md ops listed := fun ht => by
  obtain ⟨_, ot, hot, hall⟩ := mem_ready.1 ht
  have key : ∀ j, Region.waitsFor md ops t j = true → listed.getD j false = true := fun j hj => by
    obtain ⟨o', ho', e, he, hb, hon⟩ := Region.waitsFor_spec hj
    have : o' = ot := Option.some.inj (ho'.symm.trans hot)
    subst this
    rw [← hon]; exact hall e he hb
  have : listed.getD i false = true := by
    cases n with
    | zero => exact key i h
    | succ n =>
      simp only [waitsT, Bool.or_eq_true, List.any_eq_true, Bool.and_eq_true] at h
      rcases h with h | ⟨j, _, h1, h2⟩
      · exact key i h
      · exact listed_of_waitsT hc n j i h2 (key j h1)
  rw [getD_both hi] at this
  cases this

theorem anyS_take {i : Nat} {oi : Oper} {v : Value} {free : Bool} (hi : ops[i]? = some oi) (hsel : ∀ (j : Nat) (o : Oper) cs b, ops[j]? = some o → o.op ≠ .select cs b) (hn : i ∉ ws) (hnd : ws.Nodup) :
    ∀ (f : Nat) (listed : Array Bool) (a : Act), Closed md ops listed → (free = true ∨ ∀ t ∈ ws, listed.getD t true = false → ∃ n, waitsT md ops n t i = true) →
      (∀ j oj, ops[j]? = some oj → j ≠ i → listed.getD j true = false → (∀ e ∈ oj.after, Region.binds md e = true → e.on ≠ i) → oi.apart ops oj = true) →
      i ∈ Region.ready md ops listed → YieldsS P ops free ws.length cls (ws.countP fun t => listed.getD t false) oi v a →
      anyS P md ops ws cls Q f (listed.setIfInBounds i true) (a.put oi.dst v) → anyS P md ops ws cls Q (f + 1) listed a := by
  intro f
  induction f with
  | zero =>
    intro listed a _ _ _ hr hy H
    refine ⟨fun e => (by rw [e] at hr; cases hr), fun j hj => ?_⟩
    by_cases hji : j = i
    · subst hji; exact hy.sOp hi hn H
    · have := ready_mono hj hji
      rw [H.1] at this
      cases this
  | succ f ih =>
    intro listed a hcl hwait hfree hr hy H
    refine ⟨fun e => (by rw [e] at hr; cases hr), fun j hj => ?_⟩
    by_cases hji : j = i
    · subst hji; exact hy.sOp hi hn H
    · have h1 := H.2 j (ready_mono hj hji)
      obtain ⟨hjun, oj, hoj, hall⟩ := mem_ready.1 hj
      have hiun := (mem_ready.1 hr).1
      have hnot : ∀ e ∈ oj.after, Region.binds md e = true → e.on ≠ i := fun e he hb heq => by
        have h2 := hall e he hb
        rw [heq, getD_both hiun] at h2
        cases h2
      have hjw : free = true ∨ j ∉ ws := by
        rcases hwait with h | h
        · exact .inl h
        · refine .inr fun hm => ?_
          obtain ⟨n, hw⟩ := h j hm hjun
          exact not_ready_of_waitsT hcl hw hiun hj
      obtain ⟨p1, p2, p3⟩ := Oper.apart_spec (hfree j oj hoj hji hjun hnot)
      have hsi := fun cs b => hsel i oi cs b hi
      have hsj := fun cs b => hsel j oj cs b hoj
      have hcomm : (listed.setIfInBounds i true).setIfInBounds j true = (listed.setIfInBounds j true).setIfInBounds i true := Array.setIfInBounds_comm _ _ (Ne.symm hji)
      have hy' : ∀ u, YieldsS P ops free ws.length cls (ws.countP fun t => (listed.setIfInBounds j true).getD t false) oi v (a.put oj.dst u) := fun u => by
        have h2 := hy.of_same (execOp_put oi hsi a oj.dst u p3) (wanted_put oi a oj.dst u p3)
        by_cases hjm : j ∈ ws
        · rw [count_set hnd hjm hjun]
          have hf : free = true := hjw.resolve_right (fun h => h hjm)
          have hle : (ws.countP fun t => listed.getD t false) + 1 ≤ ws.length := by
            rw [← count_set hnd hjm hjun]; exact List.countP_le_length
          rcases h2 with ⟨hw, hv⟩ | h2
          · refine .inl ⟨hw, fun q hq => hv q (.inr ⟨hf, ?_⟩)⟩
            rcases hq with rfl | ⟨_, h, h'⟩
            · exact ⟨by omega, hle⟩
            · exact ⟨by omega, h'⟩
          · exact .inr h2
        · have e : (ws.countP fun t => (listed.setIfInBounds j true).getD t false) = ws.countP fun t => listed.getD t false :=
            List.countP_congr fun t ht => by rw [getD_set_ne false (fun e => hjm (by rw [e]; exact ht))]
          rw [e]; exact h2
      have next : ∀ u, anyS P md ops ws cls Q f ((listed.setIfInBounds i true).setIfInBounds j true) ((a.put oi.dst v).put oj.dst u) → anyS P md ops ws cls Q (f + 1) (listed.setIfInBounds j true) (a.put oj.dst u) := fun u hK => by
        refine ih _ _ (hcl.set hj) ?_ (fun k ok hk hki hun hno => hfree k ok hk hki ?_ hno) (ready_mono hr (Ne.symm hji)) (hy' u) ?_
        · rcases hwait with h | h
          · exact .inl h
          · refine .inr fun t ht hun => h t ht ?_
            by_cases hjt : j = t
            · subst hjt; exact hjun
            · rw [getD_set_ne true hjt] at hun; exact hun
        · by_cases hjk : j = k
          · subst hjk; exact hjun
          · rw [getD_set_ne true hjk] at hun; exact hun
        · rw [← hcomm, ← Act.put_comm a v u p2]; exact hK
      unfold Proofs.YteemnnajfiimlaaDoor.sOp at h1 ⊢
      simp only [hoj] at h1 ⊢
      rw [wanted_put oj a oi.dst v p1, hcomm, Cls_set hn (listed := listed.setIfInBounds j true), Cls_set hn, ← hcomm] at h1
      split
      · rename_i hw
        simp only [hw, if_true] at h1
        obtain ⟨u, hu, hK⟩ := h1
        refine ⟨u, fun w hC => ?_, next u hK⟩
        have := hu w hC
        rwa [execOp_put oj hsj a oi.dst v p1] at this
      · rename_i hw
        simp only [hw] at h1
        exact ⟨h1.1, next _ h1.2⟩

/-- The walk in the order of the text: k: the operation's number; p: how many have written. -/
def wpS (P : Program) (ops : Array Oper) (ws fl : List Nat) (cls : Nat → World → Prop) (Q : Exit → Act → World → Prop) : List Oper → Nat → Nat → Act → Prop
  | [], _, p, a => ∀ w, cls p w → Q .normal a w
  | o :: rest, k, p, a =>
    if ws.contains k then Region.wanted o (yielded ops a.tmps) = true ∧ ∃ v, Into P o a (cls p) (cls (p + 1)) v ∧ wpS P ops ws fl cls Q rest (k + 1) (p + 1) (a.put o.dst v)
    else ∃ v, YieldsS P ops (fl.contains k) ws.length cls p o v a ∧ wpS P ops ws fl cls Q rest (k + 1) p (a.put o.dst v)

def lexS (md : Region.Mode) (ops : Array Oper) (ws fl : List Nat) : Nat → Nat → Array Bool → Bool
  | 0, _, listed => (Region.ready md ops listed).isEmpty
  | f + 1, k, listed =>
    (if ws.contains k then decide (Region.ready md ops listed = [k])
      else (Region.ready md ops listed).contains k && Region.free md ops listed k && (fl.contains k || ws.all fun t => listed.getD t true || waitsT md ops 2 t k)) &&
    lexS md ops ws fl f (k + 1) (listed.setIfInBounds k true)

theorem anyS_lex (hsel : Region.noSelect ops = true) (hnd : ws.Nodup) : ∀ (l : List Oper) (k p : Nat) (listed : Array Bool) (a : Act), (∀ j, l[j]? = ops[k + j]?) → Closed md ops listed → Cls ws cls listed = cls p →
    (ws.countP fun t => listed.getD t false) = p → lexS md ops ws fl l.length k listed = true → wpS P ops ws fl cls Q l k p a → anyS P md ops ws cls Q l.length listed a
  | [], _, p, listed, a, _, _, hc, _, hB, h => ⟨by simpa [lexS] using hB, fun w hw => h w (by rw [← hc]; exact hw)⟩
  | o :: l, k, p, listed, a, hl, hcl, hc, hp, hB, h => by
    have h0 : ops[k]? = some o := by simpa using (hl 0).symm
    have hl' : ∀ j, l[j]? = ops[k + 1 + j]? := fun j => by have := hl (j + 1); simpa [Nat.add_assoc, Nat.add_comm 1 j] using this
    simp only [List.length_cons, lexS, Bool.and_eq_true] at hB
    obtain ⟨hB1, hB2⟩ := hB
    unfold wpS at h
    by_cases hk : ws.contains k = true
    · simp only [hk, if_true, decide_eq_true_eq] at h hB1
      obtain ⟨hw, v, hv, hK⟩ := h
      have hun : listed.getD k true = false := (mem_ready.1 (by rw [hB1]; simp : k ∈ Region.ready md ops listed)).1
      have hcnt := count_set hnd (by simpa using hk) hun
      refine ⟨fun e => (by rw [hB1] at e; cases e), fun i hi => ?_⟩
      have hi' := hi
      rw [hB1] at hi
      have hik : i = k := by simpa using hi
      subst hik
      unfold Proofs.YteemnnajfiimlaaDoor.sOp
      have hc' : Cls ws cls (listed.setIfInBounds i true) = cls (p + 1) := by unfold Cls; rw [hcnt, hp]
      simp only [h0, hw, if_true]
      exact ⟨v, by rw [hc, hc']; exact hv, anyS_lex hsel hnd l (i + 1) (p + 1) _ _ hl' (hcl.set hi') hc' (by rw [hcnt, hp]) hB2 hK⟩
    · simp only [hk, Bool.false_eq_true, if_false, Bool.and_eq_true, Bool.or_eq_true, List.all_eq_true] at h hB1
      obtain ⟨⟨hr, hf⟩, hwt⟩ := hB1
      obtain ⟨v, hy, hK⟩ := h
      have hn : k ∉ ws := by simpa using hk
      have hc' : Cls ws cls (listed.setIfInBounds k true) = cls p := by rw [Cls_set hn]; exact hc
      have hp' : (ws.countP fun t => (listed.setIfInBounds k true).getD t false) = p := by
        rw [← hp]
        exact List.countP_congr fun t ht => by rw [getD_set_ne false (fun e => hn (by rw [e]; exact ht))]
      have hr' : k ∈ Region.ready md ops listed := by simpa using hr
      refine anyS_take (free := fl.contains k) h0 (Region.noSelect_spec hsel) hn hnd l.length listed a hcl ?_ (Region.free_spec h0 hf) hr' (by rw [hp]; exact hy)
        (anyS_lex hsel hnd l (k + 1) p _ _ hl' (hcl.set hr') hc' hp' hB2 hK)
      rcases hwt with h | h
      · exact .inl h
      · refine .inr fun t ht hun => ?_
        rcases h t ht with h | h
        · rw [hun] at h; cases h
        · exact ⟨2, h⟩

def okS (md : Region.Mode) (ops : Array Oper) (ws fl : List Nat) : Bool := Region.noSelect ops && decide ws.Nodup && lexS md ops ws fl ops.size 0 (Array.replicate ops.size false)

theorem wp_region_s {id : Nat} {a : Act} {w : World} {l : List Oper} (hm : P.follows .mixedOrders = true) (hB : okS .any l.toArray ws fl = true) (hC : cls 0 w.drew)
    (h : wpS P l.toArray ws fl cls Q l 0 0 a) : (Code.region id l.toArray true).wp P Q a w := by
  simp only [okS, Bool.and_eq_true, decide_eq_true_eq] at hB
  obtain ⟨⟨hsel, hnd⟩, hlex⟩ := hB
  have hcnt : (ws.countP fun t => (Array.replicate l.toArray.size false).getD t false) = 0 := by
    rw [List.countP_eq_zero]
    intro t _
    rw [getD_replicate_false]
    exact Bool.false_ne_true
  have hcls : Cls ws cls (Array.replicate l.toArray.size false) = cls 0 := by unfold Cls; rw [hcnt]
  refine wp_region_any hm (wpAny_of_anyS _ _ _ _ (by rw [hcls]; exact hC) ?_)
  have := anyS_lex (P := P) (Q := Q) (md := .any) (ops := l.toArray) (ws := ws) (fl := fl) (cls := cls) hsel hnd l 0 0 (Array.replicate l.toArray.size false) a (fun j => by simp) ⟨by simp, fun j oj _ hl => (by rw [getD_replicate_false] at hl; cases hl)⟩ hcls hcnt (by simpa using hlex) h
  simpa using this

end Go.Proofs.YteemnnajfiimlaaDoor
