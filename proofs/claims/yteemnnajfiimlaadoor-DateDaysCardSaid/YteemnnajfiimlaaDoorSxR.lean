/- A list is appended to a list: what the model's append does, by rows. No program is named here. -/
import Derived.Test.YteemnnajfiimlaaDoorSxG
import Derived.Laws.AppendOwn
import Derived.Laws.IdiomStrings
import Derived.Laws.BytesArg
import Derived.Lib.ConvBytes
namespace Go.Proofs.YteemnnajfiimlaaDoor.Sx
open Go.RowKit

/-- A list of k elements, or none: its cells. -/
def RowAt (w : World) (e : TypeId) (size : Nat) (v : Value) (k : Nat) (xs : List Value) : Prop :=
  (v = .slice none 0 0 ∧ k = 0 ∧ xs = []) ∨ ∃ (g cap : Nat) (cur : Array Value) (fz : Nat × Nat), v = .slice (some ⟨g, 0, none⟩) k cap ∧ (w.heap[g]? = some (.cells cur e fz) ∧ okFz fz cur.size) ∧ k ≤ cap ∧ cur.size = cap * size ∧ xs.length = k * size ∧ cur.toList.take (k * size) = xs
theorem row_cells {w : World} {e : TypeId} {size g k : Nat} {cur : Array Value} {xs : List Value} {fz : Nat × Nat} (hg : w.heap[g]? = some (.cells cur e fz)) (ht : cur.toList.take (k * size) = xs) : ∀ j u, xs[j]? = some u → w.cell? ((⟨g, 0, none⟩ : Addr).add j) = some u := by
  intro j u hj
  subst ht
  rw [List.getElem?_take] at hj
  split at hj
  · simp only [Addr.add_lit, Nat.zero_add]
    rw [cell_of_row w g j cur e fz hg]
    simpa using hj
  · cases hj
section
variable {P : Program}
theorem run_append_none (w : World) (t ty e : TypeId) (i : TypeInfo) (ht : P.underlying t = some (.slice e)) (hi : P.info? e = some i) (b : Option Addr) (k cap : Nat) (hk : k ≤ cap) :
    (Builtin.append_ #[t, t] ty #[.slice b k cap, .slice none 0 0]).run P w = .ok (.slice b k cap) w := by
  cases b <;> simp [Builtin.append_, run_underlying ht, sizeOf, typeInfo, hi, Builtin.lenOf, hk, Builtin.firstCells, loadCells, storeCells]
theorem append_room (w : World) (t ty e : TypeId) (i : TypeInfo) (ht : P.underlying t = some (.slice e)) (hi : P.info? e = some i)
    (g sLen sCap : Nat) (cur : Array Value) (fz : Nat × Nat) (hg : w.heap[g]? = some (.cells cur e fz)) (hfz : okFz fz cur.size)
    (a : Addr) (m c : Nat) (news : List Value) (hl : news.length = m * i.size) (hnews : ∀ j u, news[j]? = some u → w.cell? (a.add j) = some u) (h1 : ∀ u ∈ news, u.oneCell' = true)
    (hroom : sLen + m ≤ sCap) (hfit : sLen * i.size + news.length ≤ cur.size) :
    (Builtin.append_ #[t, t] ty #[.slice (some ⟨g, 0, none⟩) sLen sCap, .slice (some a) m c]).run P w =
      .ok (.slice (some ⟨g, 0, none⟩) (sLen + m) sCap) (w.setRow g (cur.toList.take (sLen * i.size) ++ news ++ cur.toList.drop (sLen * i.size + news.length)).toArray) := by
  have hf := run_firstCells_some (P := P) w i.size m a m c news hl hnews
  have hst := storeCells_ok P g (sLen * i.size) e fz news 0 cur w hg hfz (by simpa using hfit) h1
  simp only [Nat.add_zero] at hst
  simp [Builtin.append_, run_underlying ht, sizeOf, typeInfo, hi, Builtin.lenOf, hroom, hf, Addr.add_lit, hst]
theorem append_row (w : World) (t ty e : TypeId) (i : TypeInfo) (z : Value) (ht : P.underlying t = some (.slice e)) (hi : P.info? e = some i) (hz : i.zero = some z) (hzs : z.cells.size = i.size) (hby : 0 < i.bytes)
    {s x : Value} {k l : Nat} {xs ys : List Value} (hs : RowAt w e i.size s k xs) (hx : RowAt w e i.size x l ys) (h1 : ∀ u ∈ ys, u.oneCell' = true) (hb : (k + l) * i.bytes ≤ 140737488355328) :
    ∃ v' w', (Builtin.append_ #[t, t] ty #[s, x]).run P w = .ok v' w' ∧ RowAt w' e i.size v' (k + l) (xs ++ ys) ∧ w'.os = w.os ∧ w'.tape = w.tape ∧ w'.output = w.output ∧ w.heap.size ≤ w'.heap.size ∧
      ((v' = .slice none 0 0 ∧ w' = w) ∨ ∃ g cap, v' = .slice (some ⟨g, 0, none⟩) (k + l) cap ∧ (g = w.heap.size ∨ ∃ c, s = .slice (some ⟨g, 0, none⟩) k c) ∧ ∀ j, j < w.heap.size → j ≠ g → w'.heap[j]? = w.heap[j]?) := by
  have hkl : k + l ≤ 140737488355328 := Nat.le_trans (Nat.le_mul_of_pos_right _ hby) hb
  have zs : ∀ n, (Builtin.zeroCells z.cells n).size = n * i.size := fun n => by rw [size_zeroCells, hzs]
  rcases hx with ⟨rfl, rfl, rfl⟩ | ⟨a, c, cx, fx, rfl, ⟨hxg, _⟩, hxc, hxs, hxl, hxt⟩
  · rcases hs with ⟨rfl, rfl, rfl⟩ | ⟨g, cap, cur, fz, rfl, ⟨hg, hfz⟩, hc, hsize, hl, htk⟩
    · exact ⟨_, _, run_append_none w t ty e i ht hi none 0 0 (Nat.le_refl _), .inl ⟨rfl, rfl, rfl⟩, rfl, rfl, rfl, Nat.le_refl _, .inl ⟨rfl, rfl⟩⟩
    · exact ⟨_, _, run_append_none w t ty e i ht hi _ k cap hc, .inr ⟨g, cap, cur, fz, rfl, ⟨hg, hfz⟩, hc, hsize, by simpa using hl, by simpa using htk⟩, rfl, rfl, rfl, Nat.le_refl _, .inr ⟨g, cap, rfl, .inr ⟨cap, rfl⟩, fun _ _ _ => rfl⟩⟩
  · have hnews := row_cells hxg hxt
    rcases hs with ⟨rfl, rfl, rfl⟩ | ⟨g, cap, cur, fz, rfl, ⟨hg, hfz⟩, hc, hsize, hl, htk⟩
    · by_cases hl0 : l = 0
      · subst hl0
        have hy : ys = [] := List.eq_nil_of_length_eq_zero (by simpa using hxl)
        subst hy
        refine ⟨.slice none 0 0, w, ?_, .inl ⟨rfl, rfl, rfl⟩, rfl, rfl, rfl, Nat.le_refl _, .inl ⟨rfl, rfl⟩⟩
        simp [Builtin.append_, run_underlying ht, sizeOf, typeInfo, hi, Builtin.lenOf, Builtin.firstCells, loadCells, loadCellsFrom]
      · have hr := run_append_nil (P := P) w t ty e i z ht hi hz ⟨a, 0, none⟩ l c ys hxl hnews (by omega) (by omega) (by simp only [Nat.zero_add] at hb; omega)
        have hge := grownCap_ge w l 0 e
        refine ⟨_, _, hr, .inr ⟨w.heap.size, _, _, (0, 0), by rw [Nat.zero_add], ⟨heap_alloc_new w.drew _, okFz_zero _⟩, by omega, ?_, by simpa using hxl, ?_⟩, rfl, rfl, rfl, by simp, .inr ⟨w.heap.size, _, by rw [Nat.zero_add], .inl rfl, fun j hj hne => heap_alloc_old w.drew _ hj⟩⟩
        · rw [Array.size_append, zs, List.size_toArray, hxl, ← Nat.add_mul]; congr 1; omega
        · rw [Array.toList_append, List.nil_append, Nat.zero_add, ← hxl]; exact List.take_left
    · by_cases hroom : k + l ≤ cap
      · have hfit : k * i.size + ys.length ≤ cur.size := by rw [hxl, hsize, ← Nat.add_mul]; exact Nat.mul_le_mul_right _ hroom
        have hr := append_room (P := P) w t ty e i ht hi g k cap cur fz hg hfz ⟨a, 0, none⟩ l c ys hxl hnews h1 hroom hfit
        refine ⟨_, _, hr, .inr ⟨g, cap, _, fz, rfl, ⟨setRow_heap w g cur _ e _ hg, ?_⟩, hroom, ?_, by rw [List.length_append, hl, hxl, Nat.add_mul], ?_⟩, rfl, rfl, rfl, by simp, .inr ⟨g, cap, rfl, .inr ⟨cap, rfl⟩, fun j hj hne => setRow_other w g j _ hne⟩⟩
        · have e : (cur.toList.take (k * i.size) ++ ys ++ cur.toList.drop (k * i.size + ys.length)).toArray.size = cur.size := by
            simp only [List.size_toArray, List.length_append, List.length_take, List.length_drop, Array.length_toList]
            omega
          rw [e]; exact hfz
        · simp only [List.size_toArray, List.length_append, List.length_take, List.length_drop, Array.length_toList]
          omega
        · have hlen : (xs ++ ys).length = (k + l) * i.size := by rw [List.length_append, hl, hxl, Nat.add_mul]
          rw [htk, ← hlen]
          exact List.take_left
      · have hr := run_append_grow (P := P) w t ty e i z ht hi hz ⟨g, 0, none⟩ k cap xs hl (row_cells hg htk) ⟨a, 0, none⟩ l c ys hxl hnews (by omega) (by omega) (growslice_fits (by omega) hb)
        have hge := grownCap_ge w (k + l) cap e
        have hlen : (xs ++ ys).length = (k + l) * i.size := by rw [List.length_append, hl, hxl, Nat.add_mul]
        refine ⟨_, _, hr, .inr ⟨w.heap.size, _, _, (0, 0), rfl, ⟨heap_alloc_new w.drew _, okFz_zero _⟩, hge, ?_, hlen, ?_⟩, rfl, rfl, rfl, by simp, .inr ⟨w.heap.size, _, rfl, .inl rfl, fun j hj hne => heap_alloc_old w.drew _ hj⟩⟩
        · simp only [Array.size_append, List.size_toArray, zs, hl, hxl, ← Nat.add_mul]
          congr 1; omega
        · simp only [Array.toList_append, List.append_assoc]
          rw [← List.append_assoc, ← hlen]
          exact List.take_left
end

/-! ### Symbolically -/
def lookMB (b : Nat) : List (Nat × MB) → Option MB
  | [] => none
  | (i, m) :: l => if Nat.beq b i then some m else lookMB b l
/-- A list: its cells, its length, its block. -/
def rowV (x : SW) (et e : Nat) (pre : List (Nat × MB)) : Option (List Piece × Tm × Option Nat) :=
  match x with
  | .one (.cell (.const (.slice none 0 0))) => some ([], .lit 0, none)
  | .one (.cell (.sl b c len)) => match lookMB b pre with
    | some m => match m.cap with
      | some (c', e') => if Nat.beq c c' && Nat.beq e e' && Nat.beq et m.ty then some (m.ps, len, some b) else none
      | none => none
    | none => none
  | .one (.cell (.slice b 0 n k)) => match lookMB b pre with
    | some m => match m.cap with
      | some _ => none
      | none => if Nat.beq n k && Nat.beq et m.ty then some (m.ps, .lit ((n : Nat) : Int), some b) else none
    | none => none
  | _ => none
def mkAdd (a b : Tm) : Tm :=
  match a, b with
  | .lit (.ofNat 0), y => y
  | x, .lit (.ofNat 0) => x
  | .lit x, .lit y => .lit (x + y)
  | x, y => .ex .add x y
theorem mkAdd_den (ρ : Nat → Value) (a b : Tm) : (mkAdd a b).i ρ = a.i ρ + b.i ρ := by
  unfold mkAdd
  split <;> simp [Tm.i, Tm.den, exI]
def dropB : Option Nat → Mem
  | none => []
  | some b => [(b, none)]
def hAppend (P : Program) (own : Nat) (t : TypeId) (s x : SW) (ids : List Nat) (mbs : List (Option MB)) (nv : Nat) : R OpRes :=
  match P.underlying t with
  | some (.slice et) => match P.info? et, withIds ids mbs with
    | some ie, some pre => match ie.zero, rowV s et ie.size pre, rowV x et ie.size pre with
      | some z, some (ps, L, ob), some (qs, M, _) => match Nat.blt 0 ie.size && Nat.blt 0 ie.bytes && Nat.beq z.cells.size ie.size with
        | true => .ok ⟨.one (.cell (.sl own (own + 1) (mkAdd L M))), dropB ob ++ [(own, some ⟨et, [.all nv], some (own + 1, ie.size)⟩)], [own, own + 1], nv + 1⟩
            [.join [.all nv] [(ps, L), (qs, M)] ie.size 1, .need (mkNo (mkLt (.lit ((140737488355328 / ie.bytes : Nat) : Int)) (mkAdd L M)))]
        | false => .bad "append: size"
      | _, _, _ => .bad "append: list"
    | _, _ => .bad "append: memory"
  | _ => .bad "append: type"
section
variable {P : Program} {ρ : Nat → Value} {β β' : Nat → Nat} {inh : List Nat} {w0 w w' : World} {mm : Nat → Option MB}
theorem lookMB_mem {b : Nat} {m : MB} : ∀ {l : List (Nat × MB)}, lookMB b l = some m → (b, m) ∈ l
  | [], h => by cases h
  | (i, m') :: l, h => by
    simp only [lookMB] at h
    split at h
    · rename_i hb; cases h; rw [Nat.eq_of_beq_eq_true hb]; exact .head _
    · exact .tail _ (lookMB_mem h)
theorem rowV_at [Outer] (hM : Mrel ρ β inh w0 mm w) {x : SW} {et e : Nat} {pre : List (Nat × MB)} (hpre : ∀ y ∈ pre, mm y.1 = some y.2) {ps : List Piece} {L : Tm} {ob : Option Nat} (h : rowV x et e pre = some (ps, L, ob)) (he : 0 < e)
    {k : Nat} (hk : L.i ρ = ((k : Nat) : Int)) (hl : (densP ρ β ps).length = k * e) :
    RowAt w et e (x.den ρ β) k (densP ρ β ps) ∧ ∀ g c, x.den ρ β = .slice (some ⟨g, 0, none⟩) k c → ∃ b m, ob = some b ∧ mm b = some m ∧ m.live β = true ∧ g = β b := by
  unfold rowV at h
  split at h
  · cases h
    have k0 : k = 0 := by simp only [Tm.i, Tm.den] at hk; omega
    subst k0
    refine ⟨.inl ⟨rfl, rfl, rfl⟩, fun g c h => by simp [SW.den, SV.den, Cell.den, fix, Value.oneCell'] at h⟩
  · rename_i b c len
    split at h
    · rename_i m hm
      have hmm := hpre _ (lookMB_mem hm)
      split at h
      · rename_i c' e' hcap
        split at h
        · rename_i hb
          cases h
          simp only [Bool.and_eq_true] at hb
          obtain ⟨⟨b1, b2⟩, b3⟩ := hb
          have b1 := Nat.eq_of_beq_eq_true b1
          have b2 := Nat.eq_of_beq_eq_true b2
          have b3 := Nat.eq_of_beq_eq_true b3
          subst b1 b2 b3
          obtain ⟨o, ho, rest, fz, rfl, hroom⟩ := hM.cells b m hmm
          have hfz := MB.room_fz hroom
          have hroom : (densP ρ β m.ps).length + rest.length = (β c - 1) * e := by
            unfold MB.room at hroom; rw [hcap] at hroom; exact hroom.1
          by_cases hc : β c = 0
          · rw [hc, Nat.zero_sub, Nat.zero_mul] at hroom
            have k0 : k = 0 := by
              rcases Nat.eq_zero_or_pos k with h0 | h0
              · exact h0
              · have := Nat.mul_pos h0 he; omega
            subst k0
            have hp : densP ρ β m.ps = [] := List.eq_nil_of_length_eq_zero (by omega)
            rw [sl_none (by simpa using hk) hc, hp]
            exact ⟨.inl ⟨rfl, rfl, rfl⟩, fun g c h => by cases h⟩
          · have hlive : m.live β = true := by
              unfold MB.live; rw [hcap]
              simpa [Bool.not_eq_true', ← Bool.not_eq_true, Nat.beq_eq] using hc
            have hden : (SW.one (.cell (.sl b c L))).den ρ β = .slice (some ⟨β b, 0, none⟩) k (β c - 1) := by
              rw [sl_some (.inr hc), hk, Int.toNat_natCast]
            rw [hden]
            refine ⟨.inr ⟨β b, β c - 1, _, fz, rfl, ⟨ho hlive, by simpa using hfz⟩, ?_, ?_, hl, ?_⟩, fun g c h => ?_⟩
            · refine Nat.le_of_mul_le_mul_right ?_ he
              omega
            · simp; omega
            · rw [← hl]; simp
            · cases h; exact ⟨b, m, rfl, hmm, hlive, rfl⟩
        · cases h
      · cases h
    · cases h
  · rename_i b n cp
    split at h
    · rename_i m hm
      have hmm := hpre _ (lookMB_mem hm)
      split at h
      · cases h
      · rename_i hcap
        split at h
        · rename_i hb
          cases h
          simp only [Bool.and_eq_true] at hb
          have b1 := Nat.eq_of_beq_eq_true hb.1
          have b3 := Nat.eq_of_beq_eq_true hb.2
          subst b1 b3
          obtain ⟨o, ho, rest, fz, rfl, hroom⟩ := hM.cells b m hmm
          have hroom : rest = [] ∧ fz = (0, 0) := by unfold MB.room at hroom; rw [hcap] at hroom; exact hroom
          obtain ⟨rfl, rfl⟩ := hroom
          have hlive : m.live β = true := by unfold MB.live; rw [hcap]
          have kn : k = n := by simp only [Tm.i, Tm.den] at hk; omega
          subst kn
          refine ⟨.inr ⟨β b, k, _, (0, 0), rfl, ⟨ho hlive, okFz_zero _⟩, Nat.le_refl _, by simpa using hl, hl, by rw [← hl]; simp⟩, fun g c h => ?_⟩
          cases h; exact ⟨b, m, rfl, hmm, hlive, rfl⟩
        · cases h
    · cases h
  · cases h
/-- A list took the place of another one, or a new place. -/
theorem Mrel.regrown [Outer] (h : Mrel ρ β inh w0 mm w) {g : Nat} (hos : w'.os = w.os) (ht : w'.tape = w.tape) (hou : w'.output = w.output) (hs : w.heap.size ≤ w'.heap.size) (hg : w0.heap.size ≤ g ∨ g ∈ inh)
    (hk : ∀ j, j < w.heap.size → j ≠ g → w'.heap[j]? = w.heap[j]?) (hne : ∀ i m, mm i = some m → m.live β = true → β i ≠ g) : Mrel ρ β inh w0 mm w' :=
  ⟨hos.trans h.os, ht.trans h.tape, hou.trans h.output, Nat.le_trans h.size hs, fun k hk' hi => by
      rw [hk k (Nat.lt_of_lt_of_le hk' h.size) fun e => ?_]
      · exact h.old k hk' hi
      · subst e
        rcases hg with hg | hg
        · omega
        · exact hi hg,
    fun i m hm => by
      obtain ⟨o, ho, hf⟩ := h.cells i m hm
      exact ⟨o, fun hl => by rw [hk _ (h.lt hm hl) (hne i m hm hl)]; exact ho hl, hf⟩, h.own, h.inj, h.ro⟩
theorem dropB_some {ob : Option Nat} {i : Nat} {m : MB} (h : setFs mm (dropB ob) i = some m) : mm i = some m ∧ ∀ b, ob = some b → i ≠ b := by
  cases ob with
  | none => exact ⟨h, fun b e => by cases e⟩
  | some b =>
    simp only [dropB, setFs, setF] at h
    split at h
    · cases h
    · rename_i hi; exact ⟨h, fun b' e => by cases e; exact hi⟩
theorem hAppend_run [Outer] {own : Nat} {t ty : TypeId} {s x : SW} {ids : List Nat} {nv : Nat} {res : OpRes} {evs : List Ev} (hM : Mrel ρ β inh w0 mm w) (hF : FreshM mm res.news) (h : hAppend P own t s x ids (ids.map mm) nv = .ok res evs) (hev : Holds P ρ evs) :
    ∃ v w' β', (∀ i, i ∉ res.news → β' i = β i) ∧ (Builtin.append_ #[t, t] ty #[s.den ρ β, x.den ρ β]).run P w = .ok v w' ∧ v = res.val.den ρ β' ∧ Mrel ρ β' inh w0 (setFs mm res.upd) w' := by
  unfold hAppend at h
  split at h
  · rename_i et hu
    split at h
    · rename_i ie pre hie hpre
      split at h
      · rename_i z ps L ob qs M ob2 hz hs hx
        split at h
        · rename_i hok
          cases h
          simp only [Bool.and_eq_true, Nat.blt_eq] at hok
          obtain ⟨⟨h0, hby⟩, hzs⟩ := hok
          have hzs := Nat.eq_of_beq_eq_true hzs
          obtain ⟨_, e2⟩ := withIds_eq hpre
          have hj := hev _ (.head _)
          have hn := hev _ (.tail _ (.head _))
          simp only [Ev.holds] at hj hn
          obtain ⟨hjd, hjp⟩ := hj β
          obtain ⟨k, hk, hkl⟩ := hjp _ (.head _)
          obtain ⟨l, hl, hll⟩ := hjp _ (.tail _ (.head _))
          obtain ⟨rs, ids1⟩ := rowV_at hM e2 hs h0 hk hkl
          obtain ⟨rx, _⟩ := rowV_at hM e2 hx h0 hl hll
          have hkl2 : (mkAdd L M).i ρ = ((k + l : Nat) : Int) := by rw [mkAdd_den, hk, hl]; omega
          have hbound : (k + l) * ie.bytes ≤ 140737488355328 := by
            rw [mkNo_den, mkLt_den] at hn
            have h1 : ¬ (Tm.lit ((140737488355328 / ie.bytes : Nat) : Int)).i ρ < (mkAdd L M).i ρ := by
              simpa using hn
            rw [hkl2, show (Tm.lit ((140737488355328 / ie.bytes : Nat) : Int)).i ρ = ((140737488355328 / ie.bytes : Nat) : Int) from rfl] at h1
            have h2 : k + l ≤ 140737488355328 / ie.bytes := by omega
            calc (k + l) * ie.bytes ≤ 140737488355328 / ie.bytes * ie.bytes := Nat.mul_le_mul_right _ h2
              _ ≤ 140737488355328 := Nat.div_mul_le_self _ _
          obtain ⟨v, w', hr, hv, o1, o2, o3, o4, o5⟩ := append_row (P := P) w t ty et ie z hu hie hz hzs hby rs rx (densP_one ρ β qs) hbound
          have hcat : densP ρ β [.all nv] = densP ρ β ps ++ densP ρ β qs := by rw [hjd]; simp [denJ]
          -- what is left of the memory
          have hM1 : Mrel ρ β inh w0 (setFs mm (dropB ob)) w := hM.less fun i m hm => (dropB_some hm).1
          have fresh : ∀ i m, setFs mm (dropB ob) i = some m → (i ≠ own ∧ i ≠ own + 1) ∧ ∀ j ∈ m.ids, j ≠ own ∧ j ≠ own + 1 := fun i m hm => by
            obtain ⟨f1, f2⟩ := hF i m (dropB_some hm).1
            exact ⟨⟨fun e => f1 (by simp [e]), fun e => f1 (by simp [e])⟩, fun j hj => ⟨fun e => f2 j hj (by simp [e]), fun e => f2 j hj (by simp [e])⟩⟩
          have fin : ∀ (g cp : Nat) (fz : Nat × Nat), v = (SW.one (.cell (.sl own (own + 1) (mkAdd L M)))).den ρ (ext (ext β own g) (own + 1) cp) → ∀ cur : Array Value, (cp ≠ 0 → w'.heap[g]? = some (.cells cur et fz)) → okFz fz cur.size → cur.size = (cp - 1) * ie.size → (densP ρ β [.all nv]).length ≤ cur.size → cur.toList.take (densP ρ β [.all nv]).length = densP ρ β [.all nv] →
              (cp ≠ 0 → w0.heap.size ≤ g ∨ g ∈ inh) → (∀ j, j < w.heap.size → j ≠ g → w'.heap[j]? = w.heap[j]?) ∨ w' = w → (cp ≠ 0 → ∀ i m, setFs mm (dropB ob) i = some m → m.live β = true → β i ≠ g) → (cp = 0 → w' = w) →
              ∃ v w' β', (∀ i, i ∉ [own, own + 1] → β' i = β i) ∧ (Builtin.append_ #[t, t] ty #[s.den ρ β, x.den ρ β]).run P w = .ok v w' ∧ v = (SW.one (.cell (.sl own (own + 1) (mkAdd L M)))).den ρ β' ∧ Mrel ρ β' inh w0 (setFs mm (dropB ob ++ [(own, some ⟨et, [.all nv], some (own + 1, ie.size)⟩)])) w' := by
            intro g cp fz hvd cur hg hfz hcs hle htk hgo hkeep hne hz0
            obtain ⟨β', hβ'⟩ : ∃ b, b = ext (ext β own g) (own + 1) cp := ⟨_, rfl⟩
            have b1 : β' own = g := by rw [hβ']; simp [ext]
            have b2 : β' (own + 1) = cp := by rw [hβ']; simp [ext]
            have b3 : ∀ i, i ≠ own → i ≠ own + 1 → β' i = β i := fun i h1 h2 => by rw [hβ']; simp [ext, h1, h2]
            have hM2 : Mrel ρ β inh w0 (setFs mm (dropB ob)) w' := by
              by_cases hc : cp = 0
              · rw [hz0 hc]; exact hM1
              · rcases hkeep with hkeep | e
                · exact hM1.regrown o1 o2 o3 o4 (hgo hc) hkeep (hne hc)
                · rw [e]; exact hM1
            have hM3 : Mrel ρ β' inh w0 (setFs mm (dropB ob)) w' := hM2.names fun i m hm => ⟨b3 i (fresh i m hm).1.1 (fresh i m hm).1.2, fun j hj => b3 j ((fresh i m hm).2 j hj).1 ((fresh i m hm).2 j hj).2⟩
            refine ⟨v, w', β', fun i hi => b3 i (fun e => hi (by simp [e])) (fun e => hi (by simp [e])), hr, by rw [hvd, hβ'], ?_⟩
            rw [setFs_append]
            have hlv : ∀ hl : MB.live β' ⟨et, [.all nv], some (own + 1, ie.size)⟩ = true, cp ≠ 0 := fun hl e => by
              unfold MB.live at hl
              simp only [b2, e] at hl
              exact absurd hl (by decide)
            refine hM3.add (o := .cells cur et fz) ?_ (fun hl => by rw [b1]; exact hg (hlv hl)) ⟨cur.toList.drop (densP ρ β [.all nv]).length, fz, ?_, ?_⟩ (fun hl => by rw [b1]; exact hgo (hlv hl)) (fun hl i m hm hm2 => ?_)
            · cases hn : setFs mm (dropB ob) own with
              | none => rfl
              | some m => exact absurd rfl (fresh own m hn).1.1
            · have e : densP ρ β' [.all nv] = densP ρ β [.all nv] := rfl
              rw [e]
              conv => lhs; rw [← Array.toArray_toList (xs := cur), ← List.take_append_drop (densP ρ β [.all nv]).length cur.toList, htk]
            · have e : densP ρ β' [.all nv] = densP ρ β [.all nv] := rfl
              have h9 : cur.toList.length = cur.size := Array.length_toList
              have h8 : (densP ρ β [.all nv]).length + (cur.toList.drop (densP ρ β [.all nv]).length).length = cur.size := by rw [List.length_drop]; omega
              show (densP ρ β' [.all nv]).length + _ = (β' (own + 1) - 1) * ie.size ∧ okFz fz ((densP ρ β' [.all nv]).length + _)
              rw [e, h8, b2, ← hcs]; exact ⟨rfl, hfz⟩
            · rw [b1, b3 i (fresh i m hm).1.1 (fresh i m hm).1.2]
              refine hne (hlv hl) i m hm ?_
              rw [← hm2]; exact (MB.live_names fun j hj => b3 j ((fresh i m hm).2 j hj).1 ((fresh i m hm).2 j hj).2).symm
          rcases o5 with ⟨rfl, rfl⟩ | ⟨g, cap, rfl, hgo, hkeep⟩
          · rcases hv with ⟨_, hk0, hx0⟩ | ⟨_, _, _, _, e, _⟩
            · have hd0 : densP ρ β [.all nv] = [] := by rw [hcat]; exact hx0
              exact fin 0 0 (0, 0) (by rw [sl_none (by rw [hkl2, hk0]; rfl) (by simp [ext])]) #[] (fun h => absurd rfl h) (okFz_zero _) (by simp) (by rw [hd0]; simp) (by rw [hd0]; rfl) (fun h => absurd rfl h) (.inr rfl) (fun h => absurd rfl h) (fun _ => rfl)
            · cases e
          · rcases hv with ⟨e, _, _⟩ | ⟨g', cap', cur, fz, e, ⟨hg, hfz⟩, hc, hcs, hlen, htk⟩
            · cases e
            · cases e
              have hd : densP ρ β [.all nv] = densP ρ β ps ++ densP ρ β qs := hcat
              have hown : w0.heap.size ≤ g ∨ g ∈ inh := by
                rcases hgo with rfl | ⟨c, hs'⟩
                · exact .inl hM.size
                · obtain ⟨b, m, _, hm, hlv, rfl⟩ := ids1 g c hs'
                  exact hM.own b m hm hlv
              refine fin g (cap + 1) fz (by rw [sl_some (.inr (by simp [ext])), hkl2, Int.toNat_natCast]; simp [ext]) cur (fun _ => hg) hfz (by simpa using hcs) ?_ ?_ (fun _ => hown) (.inl hkeep) (fun _ i m hm hlv => ?_) (fun h => absurd h (by omega))
              · rw [hd, hlen, hcs]; exact Nat.mul_le_mul_right _ hc
              · rw [hd, hlen]; exact htk
              · rcases hgo with rfl | ⟨c, hs'⟩
                · have := hM1.lt hm hlv; omega
                · obtain ⟨b, m', hob, hm', hlv', rfl⟩ := ids1 g c hs'
                  obtain ⟨d1, d2⟩ := dropB_some hm
                  exact fun e => d2 b hob (hM.inj i b m m' d1 hm' hlv hlv' e)
        · cases h
      · cases h
    · cases h
  · cases h
theorem Mrel.add2 [Outer] (h : Mrel ρ β inh w0 mm w) {own : Nat} (hF : FreshM mm [own, own + 1]) {et e : Nat} {ps : List Piece} {cap : Nat} {cur : Array Value} {fz : Nat × Nat} (hw : Below w.heap.size w w')
    (hg : w'.heap[w.heap.size]? = some (.cells cur et fz)) (hfz : okFz fz cur.size) (hcs : cur.size = cap * e) (hps : ∀ β', densP ρ β' ps = densP ρ β ps) (hle : (densP ρ β ps).length ≤ cur.size) (htk : cur.toList.take (densP ρ β ps).length = densP ρ β ps) :
    Mrel ρ (ext (ext β own w.heap.size) (own + 1) (cap + 1)) inh w0 (setF mm own (some ⟨et, ps, some (own + 1, e)⟩)) w' := by
  obtain ⟨β', hβ'⟩ : ∃ b, b = ext (ext β own w.heap.size) (own + 1) (cap + 1) := ⟨_, rfl⟩
  rw [← hβ']
  have b1 : β' own = w.heap.size := by rw [hβ']; simp [ext]
  have b2 : β' (own + 1) = cap + 1 := by rw [hβ']; simp [ext]
  have b3 : ∀ i, i ≠ own → i ≠ own + 1 → β' i = β i := fun i h1 h2 => by rw [hβ']; simp [ext, h1, h2]
  have fresh : ∀ i m, mm i = some m → (i ≠ own ∧ i ≠ own + 1) ∧ ∀ j ∈ m.ids, j ≠ own ∧ j ≠ own + 1 := fun i m hm => by
    obtain ⟨f1, f2⟩ := hF i m hm
    exact ⟨⟨fun e => f1 (by simp [e]), fun e => f1 (by simp [e])⟩, fun j hj => ⟨fun e => f2 j hj (by simp [e]), fun e => f2 j hj (by simp [e])⟩⟩
  have h2 : Mrel ρ β' inh w0 mm w' := (h.later hw).names fun i m hm => ⟨b3 i (fresh i m hm).1.1 (fresh i m hm).1.2, fun j hj => b3 j ((fresh i m hm).2 j hj).1 ((fresh i m hm).2 j hj).2⟩
  have h9 : cur.toList.length = cur.size := Array.length_toList
  refine h2.add (o := .cells cur et fz) ?_ (fun _ => by rw [b1]; exact hg) ⟨cur.toList.drop (densP ρ β ps).length, fz, ?_, ?_⟩ (fun _ => by rw [b1]; exact .inl h.size) (fun _ i m hm hl => ?_)
  · cases hn : mm own with
    | none => rfl
    | some m => exact absurd rfl (fresh own m hn).1.1
  · rw [hps β']
    conv => lhs; rw [← Array.toArray_toList (xs := cur), ← List.take_append_drop (densP ρ β ps).length cur.toList, htk]
  · show (densP ρ β' ps).length + _ = (β' (own + 1) - 1) * e ∧ okFz fz ((densP ρ β' ps).length + _)
    have h8 : (densP ρ β ps).length + (cur.toList.drop (densP ρ β ps).length).length = cur.size := by rw [List.length_drop]; omega
    rw [hps β', h8, b2]
    exact ⟨by simpa using hcs, hfz⟩
  · rw [b1, b3 i (fresh i m hm).1.1 (fresh i m hm).1.2]
    have := h.lt hm (by rw [← hl]; exact (MB.live_names fun j hj => b3 j ((fresh i m hm).2 j hj).1 ((fresh i m hm).2 j hj).2).symm)
    omega
end

/-! ### Texts and bytes -/
def hText (P : Program) (e : TypeId) (x : SW) (ids : List Nat) (mbs : List (Option MB)) (nv : Nat) : R OpRes :=
  match P.underlying e, withIds ids mbs with
  | some (.int .u8), some pre => match rowV x e 1 pre with
    | some (ps, L, _) => .ok ⟨.one (.cell (.str (.v nv))), [], [], nv + 1⟩ [.join [.bytes (.v nv)] [(ps, L)] 1 1]
    | none => .bad "text: list"
  | _, _ => .bad "text: type"
def hBytes (P : Program) (own : Nat) (e : TypeId) (x : SW) (nv : Nat) : R OpRes :=
  match P.underlying e, x with
  | some (.int .u8), .one (.cell (.str s)) => .ok ⟨.one (.cell (.sl own (own + 1) (mkLen s))), [(own, some ⟨e, [.bytes s], some (own + 1, 1)⟩)], [own, own + 1], nv⟩ []
  | _, _ => .bad "bytes"
def hConvR (P : Program) (nowrap : Bool) (own : Nat) (src dst : TypeId) (x : SW) (ids : List Nat) (mbs : List (Option MB)) (nv : Nat) : R OpRes :=
  match P.underlying src, P.underlying dst with
  | some (.slice e), some .string => hText P e x ids mbs nv
  | some .string, some (.slice e) => hBytes P own e x nv
  | _, _ => hConv P nowrap src dst x nv
section
variable {P : Program} {ρ : Nat → Value} {β β' : Nat → Nat} {inh : List Nat} {w0 w w' : World} {mm : Nat → Option MB}
theorem byteCells_length (s : ByteArray) : (byteCells s).length = s.size := by simp [byteCells]
theorem hText_run [Outer] {src dst e : TypeId} {x : SW} {ids : List Nat} {nv : Nat} {res : OpRes} {evs : List Ev} (hs : P.underlying src = some (.slice e)) (hd : P.underlying dst = some .string) (hM : Mrel ρ β inh w0 mm w) (h : hText P e x ids (ids.map mm) nv = .ok res evs) (hev : Holds P ρ evs) :
    (convert src dst (x.den ρ β)).run P w = .ok (res.val.den ρ β) w ∧ res.upd = [] ∧ res.news = [] := by
  unfold hText at h
  split at h
  · rename_i pre he hpre
    split at h
    · rename_i ps L ob hx
      cases h
      refine ⟨?_, rfl, rfl⟩
      obtain ⟨_, e2⟩ := withIds_eq hpre
      have hj := hev _ (.head _)
      simp only [Ev.holds] at hj
      obtain ⟨hjd, hjp⟩ := hj β
      obtain ⟨k, hk, hkl⟩ := hjp _ (.head _)
      obtain ⟨rx, _⟩ := rowV_at hM e2 hx (by omega) hk hkl
      have hb : byteCells (vStr (ρ nv)) = densP ρ β ps := by simpa [densP, Piece.den, denJ, Tm.s, Tm.den] using hjd
      show _ = Result.ok (Value.string (vStr (ρ nv))) w
      rcases rx with ⟨hn, hk0, hp⟩ | ⟨g, cap, cur, fz, hv, ⟨hg, _⟩, hc, hcs, hlen, htk⟩
      · rw [hn, run_convert_bytes_nil w src e hs he 0 0 dst hd]
        rw [hp] at hb
        have : (vStr (ρ nv)).data.toList = [] := by simpa [byteCells] using hb
        congr 2
        exact byteArray_ext (by rw [this]; rfl)
      · have hk2 : k = (vStr (ρ nv)).data.toList.length := by
          have := congrArg List.length hb
          rw [hlen, byteCells, List.length_map] at this; omega
        rw [hv, hk2, run_convert_bytes_back w src dst e ⟨g, 0, none⟩ cap (vStr (ρ nv)).data.toList hs he hd fun j hj => ?_]
        have h1 := row_cells hg htk j (.int .u8 ((((vStr (ρ nv)).data.toList[j]).toNat : Nat) : Int)) (by rw [← hb, byteCells, List.getElem?_map, List.getElem?_eq_getElem hj]; rfl)
        exact h1
    · cases h
  · cases h
theorem hBytes_run [Outer] {own : Nat} {src dst e : TypeId} {x : SW} {nv : Nat} {res : OpRes} {evs : List Ev} (hs : P.underlying src = some .string) (hd : P.underlying dst = some (.slice e)) (hM : Mrel ρ β inh w0 mm w) (hF : FreshM mm res.news) (h : hBytes P own e x nv = .ok res evs) :
    ∃ v w' β', (∀ i, i ∉ res.news → β' i = β i) ∧ (convert src dst (x.den ρ β)).run P w = .ok v w' ∧ v = res.val.den ρ β' ∧ Mrel ρ β' inh w0 (setFs mm res.upd) w' := by
  unfold hBytes at h
  split at h
  · rename_i s he
    cases h
    have hr := Lib.run_convert_string_bytes (P := P) w src dst e (s.s ρ) hs hd he
    have hge := grownCap_ge w (s.s ρ).size 0 e
    have hlen : (densP ρ β [.bytes s]).length = (s.s ρ).size := by simp [densP, Piece.den, byteCells_length]
    have hcs : (Lib.bytesCells w e (s.s ρ)).size = grownCap w (s.s ρ).size 0 e := by
      simp only [Lib.bytesCells, Array.size_append, Array.size_map, Array.size_replicate]
      have : (s.s ρ).data.size = (s.s ρ).size := rfl
      omega
    refine ⟨_, _, ext (ext β own w.heap.size) (own + 1) (grownCap w (s.s ρ).size 0 e + 1), fun i hi => ?_, hr, ?_, ?_⟩
    · simp only [List.mem_cons, List.not_mem_nil, or_false, not_or] at hi
      simp [ext, hi.1, hi.2]
    · rw [sl_some (.inr (by simp [ext])), mkLen_den, Int.toNat_natCast]
      simp [ext]
    · refine hM.add2 (cap := grownCap w (s.s ρ).size 0 e) hF ⟨rfl, rfl, rfl, by rw [Lib.bytesWorld_size]; omega, fun k hk => Lib.bytesWorld_at_old w e _ k hk⟩ (Lib.bytesWorld_at_new w e _) (fun j hj h => by have := h.1; omega) (by rw [hcs]; simp) (fun _ => rfl) (by rw [hlen, hcs]; exact hge) ?_
      rw [hlen]
      simp only [Lib.bytesCells, Array.toList_append, Array.toList_map]
      have e1 : (s.s ρ).size = ((s.s ρ).data.toList.map fun b => Value.int .u8 ((b.toNat : Nat) : Int)).length := by simp
      rw [e1, List.take_left]
      simp [densP, Piece.den, byteCells]
  · cases h
end
end Go.Proofs.YteemnnajfiimlaaDoor.Sx
