/- Merged: SxR. -/
import Derived.Test.YtlccefdjhiedcaaBtb
import Derived.Laws.AppendOwn
import Derived.Laws.IdiomStrings
import Derived.Laws.BytesArg
import Derived.Lib.ConvBytes
section
namespace Go.Proofs.Ytlccefdjhiedcaa.Sx
open Go.RowKit

def RowAt (w : World) (e : TypeId) (size : Nat) (v : Value) (k : Nat) (xs : List Value) : Prop :=
  (v = .slice none 0 0 ∧ k = 0 ∧ xs = []) ∨ ∃ (g cap : Nat) (cur : Array Value) (fz : Nat × Nat), v = .slice (some ⟨g, 0, none⟩) k cap ∧ (w.heap[g]? = some (.cells cur e fz) ∧ okFz fz cur.size) ∧ k ≤ cap ∧ cur.size = cap * size ∧ xs.length = k * size ∧ cur.toList.take (k * size) = xs
theorem row_cells {w : World} {e : TypeId} {size g k : Nat} {cur : Array Value} {xs : List Value} {fz : Nat × Nat} (hg : w.heap[g]? = some (.cells cur e fz)) (ht : cur.toList.take (k * size) = xs) : ∀ j u, xs[j]? = some u → w.cell? ((⟨g, 0, none⟩ : Addr).add j) = some u := by
  intro j u hj
  subst ht
  rw [List.getElem?_take] at hj
  split at hj
  · simp only [Addr.add_lit, Nat.zero_add]
    rw [cell_of_row w g j cur e fz hg]
    simpa using hj
  · cases hj
def SrcAt (w : World) (size : Nat) (v : Value) (k : Nat) (xs : List Value) : Prop :=
  (v = .slice none 0 0 ∧ k = 0 ∧ xs = []) ∨ ∃ (g o cap : Nat), v = .slice (some ⟨g, o, none⟩) k cap ∧ xs.length = k * size ∧ ∀ j u, xs[j]? = some u → w.cell? ((⟨g, o, none⟩ : Addr).add j) = some u
theorem RowAt.src {w : World} {e : TypeId} {size k : Nat} {v : Value} {xs : List Value} (h : RowAt w e size v k xs) : SrcAt w size v k xs := by
  rcases h with h | ⟨g, cap, cur, fz, rfl, ⟨hg, _⟩, _, _, hl, ht⟩
  · exact .inl h
  · exact .inr ⟨g, 0, cap, rfl, hl, row_cells hg ht⟩
section
variable {P : Program}
theorem run_append_none (w : World) (t ty e : TypeId) (i : TypeInfo) (ht : P.underlying t = some (.slice e)) (hi : P.info? e = some i) (b : Option Addr) (k cap : Nat) (hk : k ≤ cap) :
    (Builtin.append_ #[t, t] ty #[.slice b k cap, .slice none 0 0]).run P w = .ok (.slice b k cap) w := by
  cases b <;> simp [Builtin.append_, run_underlying ht, sizeOf, typeInfo, hi, Builtin.lenOf, hk, Builtin.firstCells, loadCells, storeCells]
theorem append_room (w : World) (t ty e : TypeId) (i : TypeInfo) (ht : P.underlying t = some (.slice e)) (hi : P.info? e = some i)
    (g sLen sCap : Nat) (cur : Array Value) (fz : Nat × Nat) (hg : w.heap[g]? = some (.cells cur e fz)) (hfz : okFz fz cur.size)
    (a : Addr) (m c : Nat) (news : List Value) (hl : news.length = m * i.size) (hnews : ∀ j u, news[j]? = some u → w.cell? (a.add j) = some u) (h1 : ∀ u ∈ news, u.oneCell' = true)
    (hroom : sLen + m ≤ sCap) (hfit : sLen * i.size + news.length ≤ cur.size) :
    (Builtin.append_ #[t, t] ty #[.slice (some ⟨g, 0, none⟩) sLen sCap, .slice (some a) m c]).run P w =
      .ok (.slice (some ⟨g, 0, none⟩) (sLen + m) sCap) (w.setRow g (cur.toList.take (sLen * i.size) ++ news ++ cur.toList.drop (sLen * i.size + news.length)).toArray) := by
  have hf := run_firstCells_some (P := P) w i.size m a m c news hl hnews
  have hst := storeCells_ok P g (sLen * i.size) e fz news 0 cur w hg hfz (by simpa using hfit) h1
  simp only [Nat.add_zero] at hst
  simp [Builtin.append_, run_underlying ht, sizeOf, typeInfo, hi, Builtin.lenOf, hroom, hf, Addr.add_lit, hst]
theorem append_row (w : World) (t ty e : TypeId) (i : TypeInfo) (z : Value) (ht : P.underlying t = some (.slice e)) (hi : P.info? e = some i) (hz : i.zero = some z) (hzs : z.cells.size = i.size) (hby : 0 < i.bytes)
    {s x : Value} {k l : Nat} {xs ys : List Value} (hs : RowAt w e i.size s k xs) (hx : SrcAt w i.size x l ys) (h1 : ∀ u ∈ ys, u.oneCell' = true) (hb : (k + l) * i.bytes ≤ 140737488355328) :
    ∃ v' w', (Builtin.append_ #[t, t] ty #[s, x]).run P w = .ok v' w' ∧ RowAt w' e i.size v' (k + l) (xs ++ ys) ∧ w'.os = w.os ∧ w'.tape = w.tape ∧ w'.output = w.output ∧ w.heap.size ≤ w'.heap.size ∧
      ((v' = .slice none 0 0 ∧ w' = w) ∨ ∃ g cap, v' = .slice (some ⟨g, 0, none⟩) (k + l) cap ∧ (g = w.heap.size ∨ ∃ c, s = .slice (some ⟨g, 0, none⟩) k c) ∧ ∀ j, j < w.heap.size → j ≠ g → w'.heap[j]? = w.heap[j]?) := by
  have hkl : k + l ≤ 140737488355328 := Nat.le_trans (Nat.le_mul_of_pos_right _ hby) hb
  have zs : ∀ n, (Builtin.zeroCells z.cells n).size = n * i.size := fun n => by rw [size_zeroCells, hzs]
  rcases hx with ⟨rfl, rfl, rfl⟩ | ⟨a, o, c, rfl, hxl, hnews⟩
  · rcases hs with ⟨rfl, rfl, rfl⟩ | ⟨g, cap, cur, fz, rfl, ⟨hg, hfz⟩, hc, hsize, hl, htk⟩
    · exact ⟨_, _, run_append_none w t ty e i ht hi none 0 0 (Nat.le_refl _), .inl ⟨rfl, rfl, rfl⟩, rfl, rfl, rfl, Nat.le_refl _, .inl ⟨rfl, rfl⟩⟩
    · exact ⟨_, _, run_append_none w t ty e i ht hi _ k cap hc, .inr ⟨g, cap, cur, fz, rfl, ⟨hg, hfz⟩, hc, hsize, by simpa using hl, by simpa using htk⟩, rfl, rfl, rfl, Nat.le_refl _, .inr ⟨g, cap, rfl, .inr ⟨cap, rfl⟩, fun _ _ _ => rfl⟩⟩
  · rcases hs with ⟨rfl, rfl, rfl⟩ | ⟨g, cap, cur, fz, rfl, ⟨hg, hfz⟩, hc, hsize, hl, htk⟩
    · by_cases hl0 : l = 0
      · subst hl0
        have hy : ys = [] := List.eq_nil_of_length_eq_zero (by simpa using hxl)
        subst hy
        refine ⟨.slice none 0 0, w, ?_, .inl ⟨rfl, rfl, rfl⟩, rfl, rfl, rfl, Nat.le_refl _, .inl ⟨rfl, rfl⟩⟩
        simp [Builtin.append_, run_underlying ht, sizeOf, typeInfo, hi, Builtin.lenOf, Builtin.firstCells, loadCells, loadCellsFrom]
      · have hr := run_append_nil (P := P) w t ty e i z ht hi hz ⟨a, o, none⟩ l c ys hxl hnews (by omega) (by omega) (by simp only [Nat.zero_add] at hb; omega)
        have hge := grownCap_ge w l 0 e
        refine ⟨_, _, hr, .inr ⟨w.heap.size, _, _, (0, 0), by rw [Nat.zero_add], ⟨heap_alloc_new w.drew _, okFz_zero _⟩, by omega, ?_, by simpa using hxl, ?_⟩, rfl, rfl, rfl, by simp, .inr ⟨w.heap.size, _, by rw [Nat.zero_add], .inl rfl, fun j hj hne => heap_alloc_old w.drew _ hj⟩⟩
        · rw [Array.size_append, zs, List.size_toArray, hxl, ← Nat.add_mul]; congr 1; omega
        · rw [Array.toList_append, List.nil_append, Nat.zero_add, ← hxl]; exact List.take_left
    · by_cases hroom : k + l ≤ cap
      · have hfit : k * i.size + ys.length ≤ cur.size := by rw [hxl, hsize, ← Nat.add_mul]; exact Nat.mul_le_mul_right _ hroom
        have hr := append_room (P := P) w t ty e i ht hi g k cap cur fz hg hfz ⟨a, o, none⟩ l c ys hxl hnews h1 hroom hfit
        refine ⟨_, _, hr, .inr ⟨g, cap, _, fz, rfl, ⟨setRow_heap w g cur _ e _ hg, ?_⟩, hroom, ?_, by rw [List.length_append, hl, hxl, Nat.add_mul], ?_⟩, rfl, rfl, rfl, by simp, .inr ⟨g, cap, rfl, .inr ⟨cap, rfl⟩, fun j hj hne => setRow_other w g j _ hne⟩⟩
        · have e : (cur.toList.take (k * i.size) ++ ys ++ cur.toList.drop (k * i.size + ys.length)).toArray.size = cur.size := by
            simp only [List.size_toArray, List.length_append, List.length_take, List.length_drop, Array.length_toList]
            omega
          rw [e]; exact hfz
        · simp only [List.size_toArray, List.length_append, List.length_take, List.length_drop, Array.length_toList]
          omega
        · have hlen : (xs ++ ys).length = (k + l) * i.size := by rw [List.length_append, hl, hxl, Nat.add_mul]
          rw [htk, ← hlen]
          exact List.take_left
      · have hr := run_append_grow (P := P) w t ty e i z ht hi hz ⟨g, 0, none⟩ k cap xs hl (row_cells hg htk) ⟨a, o, none⟩ l c ys hxl hnews (by omega) (by omega) (growslice_fits (by omega) hb)
        have hge := grownCap_ge w (k + l) cap e
        have hlen : (xs ++ ys).length = (k + l) * i.size := by rw [List.length_append, hl, hxl, Nat.add_mul]
        refine ⟨_, _, hr, .inr ⟨w.heap.size, _, _, (0, 0), rfl, ⟨heap_alloc_new w.drew _, okFz_zero _⟩, hge, ?_, hlen, ?_⟩, rfl, rfl, rfl, by simp, .inr ⟨w.heap.size, _, rfl, .inl rfl, fun j hj hne => heap_alloc_old w.drew _ hj⟩⟩
        · simp only [Array.size_append, List.size_toArray, zs, hl, hxl, ← Nat.add_mul]
          congr 1; omega
        · simp only [Array.toList_append, List.append_assoc]
          rw [← List.append_assoc, ← hlen]
          exact List.take_left
end

def lookMB (b : Nat) : List (Nat × MB) → Option MB
  | [] => none
  | (i, m) :: l => if Nat.beq b i then some m else lookMB b l
def rowV (x : SW) (et e : Nat) (pre : List (Nat × MB)) : Option (List Piece × Tm × Option Nat) :=
  match x with
  | .one (.cell (.const (.slice none 0 0))) => some ([], .lit 0, none)
  | .one (.cell (.sl b c len)) => match lookMB b pre with
    | some m => match m.cap with
      | some (c', e') => if Nat.beq c c' && Nat.beq e e' && Nat.beq et m.ty then some (m.ps, len, some b) else none
      | none => none
    | none => none
  | .one (.cell (.slice b 0 n k)) => match lookMB b pre with
    | some m => match m.cap with
      | some _ => none
      | none => if Nat.beq n k && Nat.beq et m.ty then some (m.ps, .lit ((n : Nat) : Int), some b) else none
    | none => none
  | _ => none
def mkAdd (a b : Tm) : Tm :=
  match a, b with
  | .lit (.ofNat 0), y => y
  | x, .lit (.ofNat 0) => x
  | .lit x, .lit y => .lit (x + y)
  | x, y => .ex .add x y
theorem mkAdd_den (ρ : Nat → Value) (a b : Tm) : (mkAdd a b).i ρ = a.i ρ + b.i ρ := by
  unfold mkAdd
  split <;> simp [Tm.i, Tm.den, exI]
def dropB : Option Nat → Mem
  | none => []
  | some b => [(b, none)]
def winE (s : Piece) (L off len : Tm) (e nv : Nat) : List Ev :=
  [.join [s] [([s], L)] e 0, .need (mkNo (mkLt off (.lit 0))), .need (mkNo (mkLt len (.lit 0))), .need (mkNo (mkLt L (mkAdd off len))), .elem s off e 0 [.all nv] 1]
def srcV (x : SW) (et e : Nat) (pre : List (Nat × MB)) (nv : Nat) : Option (List Piece × Tm × List Ev × Nat) :=
  match x with
  | .one (.cell (.win b c L e' off len)) => match lookMB b pre with
    | some m => match m.cap, m.ps with
      | some (c', e2), [s] => if Nat.beq c c' && Nat.beq e e2 && Nat.beq e e' then some ([.all nv], len, winE s L off len e nv, nv + 1) else none
      | _, _ => none
    | none => none
  | .one (.cell (.awin b 0 n e' off len)) => match lookMB b pre with
    | some m => match m.cap, m.ps with
      | none, [s] => if Nat.beq e e' then some ([.all nv], len, winE s (.lit ((n : Nat) : Int)) off len e nv, nv + 1) else none
      | _, _ => none
    | none => none
  | x => match rowV x et e pre with
    | some (ps, L, _) => some (ps, L, [], nv)
    | none => none
def hAppend (P : Program) (own : Nat) (t : TypeId) (s x : SW) (ids : List Nat) (mbs : List (Option MB)) (nv : Nat) : R OpRes :=
  match P.underlying t with
  | some (.slice et) => match P.info? et, withIds ids mbs with
    | some ie, some pre => match ie.zero, rowV s et ie.size pre, srcV x et ie.size pre nv with
      | some z, some (ps, L, ob), some (qs, M, es, nv) => match Nat.blt 0 ie.size && Nat.blt 0 ie.bytes && Nat.beq z.cells.size ie.size with
        | true => .ok ⟨.one (.cell (.sl own (own + 1) (mkAdd L M))), dropB ob ++ [(own, some ⟨et, [.all nv], some (own + 1, ie.size)⟩)], [own, own + 1], nv + 1⟩
            (es ++ [.join [.all nv] [(ps, L), (qs, M)] ie.size 1, .need (mkNo (mkLt (.lit ((140737488355328 / ie.bytes : Nat) : Int)) (mkAdd L M)))])
        | false => .bad "append: size"
      | _, _, _ => .bad "append: list"
    | _, _ => .bad "append: memory"
  | _ => .bad "append: type"
section
variable {P : Program} {ρ : Nat → Value} {β β' : Nat → Nat} {inh : List Nat} {w0 w w' : World} {mm : Nat → Option MB}
theorem lookMB_mem {b : Nat} {m : MB} : ∀ {l : List (Nat × MB)}, lookMB b l = some m → (b, m) ∈ l
  | [], h => by cases h
  | (i, m') :: l, h => by
    simp only [lookMB] at h
    split at h
    · rename_i hb; cases h; rw [Nat.eq_of_beq_eq_true hb]; exact .head _
    · exact .tail _ (lookMB_mem h)
theorem rowV_at [Outer] (hM : Mrel ρ β inh w0 mm w) {x : SW} {et e : Nat} {pre : List (Nat × MB)} (hpre : ∀ y ∈ pre, mm y.1 = some y.2) {ps : List Piece} {L : Tm} {ob : Option Nat} (h : rowV x et e pre = some (ps, L, ob)) (he : 0 < e)
    {k : Nat} (hk : L.i ρ = ((k : Nat) : Int)) (hl : (densP ρ β ps).length = k * e) :
    RowAt w et e (x.den ρ β) k (densP ρ β ps) ∧ ∀ g c, x.den ρ β = .slice (some ⟨g, 0, none⟩) k c → ∃ b m, ob = some b ∧ mm b = some m ∧ m.live β = true ∧ g = β b := by
  unfold rowV at h
  split at h
  · cases h
    have k0 : k = 0 := by simp only [Tm.i, Tm.den] at hk; omega
    subst k0
    refine ⟨.inl ⟨rfl, rfl, rfl⟩, fun g c h => by simp [SW.den, SV.den, Cell.den, fix, Value.oneCell'] at h⟩
  · rename_i b c len
    split at h
    · rename_i m hm
      have hmm := hpre _ (lookMB_mem hm)
      split at h
      · rename_i c' e' hcap
        split at h
        · rename_i hb
          cases h
          simp only [Bool.and_eq_true] at hb
          obtain ⟨⟨b1, b2⟩, b3⟩ := hb
          have b1 := Nat.eq_of_beq_eq_true b1
          have b2 := Nat.eq_of_beq_eq_true b2
          have b3 := Nat.eq_of_beq_eq_true b3
          subst b1 b2 b3
          obtain ⟨o, ho, rest, fz, rfl, hroom⟩ := hM.cells b m hmm
          have hfz := MB.room_fz hroom
          have hroom : (densP ρ β m.ps).length + rest.length = (β c - 1) * e := by
            unfold MB.room at hroom; rw [hcap] at hroom; exact hroom.1
          by_cases hc : β c = 0
          · rw [hc, Nat.zero_sub, Nat.zero_mul] at hroom
            have k0 : k = 0 := by
              rcases Nat.eq_zero_or_pos k with h0 | h0
              · exact h0
              · have := Nat.mul_pos h0 he; omega
            subst k0
            have hp : densP ρ β m.ps = [] := List.eq_nil_of_length_eq_zero (by omega)
            rw [sl_none (by simpa using hk) hc, hp]
            exact ⟨.inl ⟨rfl, rfl, rfl⟩, fun g c h => by cases h⟩
          · have hlive : m.live β = true := by
              unfold MB.live; rw [hcap]
              simpa [Bool.not_eq_true', ← Bool.not_eq_true, Nat.beq_eq] using hc
            have hden : (SW.one (.cell (.sl b c L))).den ρ β = .slice (some ⟨β b, 0, none⟩) k (β c - 1) := by
              rw [sl_some (.inr hc), hk, Int.toNat_natCast]
            rw [hden]
            refine ⟨.inr ⟨β b, β c - 1, _, fz, rfl, ⟨ho hlive, by simpa using hfz⟩, ?_, ?_, hl, ?_⟩, fun g c h => ?_⟩
            · refine Nat.le_of_mul_le_mul_right ?_ he
              omega
            · simp; omega
            · rw [← hl]; simp
            · cases h; exact ⟨b, m, rfl, hmm, hlive, rfl⟩
        · cases h
      · cases h
    · cases h
  · rename_i b n cp
    split at h
    · rename_i m hm
      have hmm := hpre _ (lookMB_mem hm)
      split at h
      · cases h
      · rename_i hcap
        split at h
        · rename_i hb
          cases h
          simp only [Bool.and_eq_true] at hb
          have b1 := Nat.eq_of_beq_eq_true hb.1
          have b3 := Nat.eq_of_beq_eq_true hb.2
          subst b1 b3
          obtain ⟨o, ho, rest, fz, rfl, hroom⟩ := hM.cells b m hmm
          have hroom : rest = [] ∧ fz = (0, 0) := by unfold MB.room at hroom; rw [hcap] at hroom; exact hroom
          obtain ⟨rfl, rfl⟩ := hroom
          have hlive : m.live β = true := by unfold MB.live; rw [hcap]
          have kn : k = n := by simp only [Tm.i, Tm.den] at hk; omega
          subst kn
          refine ⟨.inr ⟨β b, k, _, (0, 0), rfl, ⟨ho hlive, okFz_zero _⟩, Nat.le_refl _, by simpa using hl, hl, by rw [← hl]; simp⟩, fun g c h => ?_⟩
          cases h; exact ⟨b, m, rfl, hmm, hlive, rfl⟩
        · cases h
    · cases h
  · cases h
theorem winE_holds [Outer] {s : Piece} {L off len : Tm} {e nv : Nat} (h : Holds P ρ (winE s L off len e nv)) {β : Nat → Nat} {k : Nat} (hk : len.i ρ = ((k : Nat) : Int)) (hl : (densP ρ β [.all nv]).length = k * e) :
    ∃ n o : Nat, L.i ρ = ((n : Nat) : Int) ∧ off.i ρ = ((o : Nat) : Int) ∧ o + k ≤ n ∧ (densP ρ β [s]).length = n * e ∧ densP ρ β [.all nv] = ((densP ρ β [s]).drop (o * e)).take (k * e) := by
  have h1 := h _ (.head _)
  have h2 := h _ (.tail _ (.head _))
  have h4 := h _ (.tail _ (.tail _ (.tail _ (.head _))))
  have h5 := h _ (.tail _ (.tail _ (.tail _ (.tail _ (.head _)))))
  simp only [Ev.holds] at h1 h2 h4 h5
  obtain ⟨n, hn, hnl⟩ := (h1 β).2 _ (.head _)
  rw [mkNo_den, mkLt_den] at h2 h4
  have h2 : ¬ off.i ρ < (Tm.lit 0).i ρ := by simpa using h2
  rw [show (Tm.lit 0).i ρ = 0 from rfl] at h2
  have h4 : ¬ L.i ρ < (mkAdd off len).i ρ := by simpa using h4
  rw [mkAdd_den, hk, hn] at h4
  have ho : off.i ρ = (((off.i ρ).toNat : Nat) : Int) := by omega
  refine ⟨n, (off.i ρ).toNat, hn, ho, by omega, hnl, ?_⟩
  have h6 := h5 β
  rw [hl] at h6
  have e1 : densP ρ β [s] = s.den ρ β := by simp [densP]
  rw [e1, ← h6]; rfl
theorem row_part {xs ys row : List Value} {a n : Nat} (h : ys = (xs.drop a).take n) {rest : List Value} (hr : row = xs ++ rest) : ∀ (j : Nat) (u : Value), ys[j]? = some u → row[a + j]? = some u := by
  intro j u hj
  rw [h, List.getElem?_take] at hj
  split at hj
  · rw [List.getElem?_drop] at hj
    rw [hr, List.getElem?_append]
    split
    · exact hj
    · rename_i h2
      rw [List.getElem?_eq_none (by omega)] at hj; cases hj
  · cases hj
theorem winV_live {g base n e off len : Nat} : winV false g base n e off len = .slice (some ⟨g, cond (Nat.beq n off) base (base + off * e), none⟩) len (n - off) := rfl
theorem srcV_at [Outer] (hM : Mrel ρ β inh w0 mm w) {x : SW} {et e : Nat} {pre : List (Nat × MB)} (hpre : ∀ y ∈ pre, mm y.1 = some y.2) {qs : List Piece} {M : Tm} {es : List Ev} {nv nv' : Nat} (h : srcV x et e pre nv = some (qs, M, es, nv')) (he : 0 < e) (hes : Holds P ρ es)
    {k : Nat} (hk : M.i ρ = ((k : Nat) : Int)) (hl : (densP ρ β qs).length = k * e) : SrcAt w e (x.den ρ β) k (densP ρ β qs) := by
  unfold srcV at h
  split at h
  · rename_i b c L e' off len
    split at h
    · rename_i m hm
      have hmm := hpre _ (lookMB_mem hm)
      split at h
      · rename_i c' e2 s hcap hps
        split at h
        · rename_i hb
          cases h
          simp only [Bool.and_eq_true] at hb
          obtain ⟨⟨b1, b2⟩, b3⟩ := hb
          have b1 := Nat.eq_of_beq_eq_true b1
          have b2 := Nat.eq_of_beq_eq_true b2
          have b3 := Nat.eq_of_beq_eq_true b3
          subst b1 b2 b3
          obtain ⟨n, o, hn, ho, hle, hsl, hq⟩ := winE_holds hes hk hl
          obtain ⟨ob, hob, rest, fz, rfl, hroom⟩ := hM.cells b m hmm
          have hroom : (densP ρ β m.ps).length + rest.length = (β c - 1) * e := by
            unfold MB.room at hroom; rw [hcap] at hroom; exact hroom.1
          rw [hps, hsl] at hroom
          have hcn : n ≤ β c - 1 := Nat.le_of_mul_le_mul_right (by omega) he
          have hden : (SW.one (.cell (.win b c L e off M))).den ρ β = winV (Nat.beq (β c) 0 && intBeq (L.i ρ) 0) (β b) 0 (β c - 1) e o k := by
            simp only [SW.den, SV.den, Cell.den, ho, hk, Int.toNat_natCast]
          rw [hden]
          by_cases hc : β c = 0
          · have n0 : n = 0 := by omega
            have k0 : k = 0 := by omega
            have e1 : (Nat.beq (β c) 0 && intBeq (L.i ρ) 0) = true := by rw [Bool.and_eq_true]; exact ⟨by rw [hc]; rfl, by rw [hn, n0]; rfl⟩
            rw [e1]
            refine .inl ⟨rfl, k0, List.eq_nil_of_length_eq_zero (by rw [hl, k0, Nat.zero_mul])⟩
          · have hlive : m.live β = true := by
              unfold MB.live; rw [hcap]
              simpa [Bool.not_eq_true', ← Bool.not_eq_true, Nat.beq_eq] using hc
            have e1 : (Nat.beq (β c) 0 && intBeq (L.i ρ) 0) = false := by
              rw [Bool.eq_false_iff]
              intro h9
              rw [Bool.and_eq_true] at h9
              exact hc (Nat.eq_of_beq_eq_true h9.1)
            rw [e1, winV_live]
            refine .inr ⟨_, _, _, rfl, hl, fun j u hj => ?_⟩
            have hj2 : j < k * e := by rw [← hl]; exact (List.getElem?_eq_some_iff.1 hj).1
            have hk0 : 0 < k := by
              rcases Nat.eq_zero_or_pos k with h0 | h0
              · rw [h0, Nat.zero_mul] at hj2; omega
              · exact h0
            have e2 : Nat.beq (β c - 1) o = false := by
              rw [Bool.eq_false_iff]
              intro h9
              have := Nat.eq_of_beq_eq_true h9
              omega
            rw [e2]
            simp only [cond, Addr.add_lit, Nat.zero_add]
            rw [cell_of_row w (β b) (o * e + j) _ _ fz (hob hlive)]
            have := row_part hq (row := densP ρ β m.ps ++ rest) (rest := rest) (by rw [hps]) j u hj
            simpa using this
        · cases h
      · cases h
    · cases h
  · rename_i b n0 e' off len
    split at h
    · rename_i m hm
      have hmm := hpre _ (lookMB_mem hm)
      split at h
      · rename_i s hcap hps
        split at h
        · rename_i hb
          cases h
          have b3 := Nat.eq_of_beq_eq_true hb
          subst b3
          obtain ⟨n, o, hn, ho, hle, hsl, hq⟩ := winE_holds hes hk hl
          have hn0 : n0 = n := by simp only [Tm.i, Tm.den] at hn; omega
          subst hn0
          obtain ⟨ob, hob, rest, fz, rfl, hroom⟩ := hM.cells b m hmm
          have hlive : m.live β = true := by unfold MB.live; rw [hcap]
          have hden : (SW.one (.cell (.awin b 0 n0 e off M))).den ρ β = winV false (β b) 0 n0 e o k := by
            simp only [SW.den, SV.den, Cell.den, ho, hk, Int.toNat_natCast]
          rw [hden, winV_live]
          refine .inr ⟨_, _, _, rfl, hl, fun j u hj => ?_⟩
          have hj2 : j < k * e := by rw [← hl]; exact (List.getElem?_eq_some_iff.1 hj).1
          have hk0 : 0 < k := by
            rcases Nat.eq_zero_or_pos k with h0 | h0
            · rw [h0, Nat.zero_mul] at hj2; omega
            · exact h0
          have e2 : Nat.beq n0 o = false := by
            rw [Bool.eq_false_iff]
            intro h9
            have := Nat.eq_of_beq_eq_true h9
            omega
          rw [e2]
          simp only [cond, Addr.add_lit, Nat.zero_add]
          rw [cell_of_row w (β b) (o * e + j) _ _ fz (hob hlive)]
          have := row_part hq (row := densP ρ β m.ps ++ rest) (rest := rest) (by rw [hps]) j u hj
          simpa using this
        · cases h
      · cases h
    · cases h
  · split at h
    · rename_i ps L ob hx
      cases h
      exact (rowV_at hM hpre hx he hk hl).1.src
    · cases h
theorem Mrel.regrown [Outer] (h : Mrel ρ β inh w0 mm w) {g : Nat} (hos : w'.os = w.os) (ht : w'.tape = w.tape) (hou : w'.output = w.output) (hs : w.heap.size ≤ w'.heap.size) (hg : w0.heap.size ≤ g ∨ g ∈ inh)
    (hk : ∀ j, j < w.heap.size → j ≠ g → w'.heap[j]? = w.heap[j]?) (hne : ∀ i m, mm i = some m → m.live β = true → β i ≠ g) : Mrel ρ β inh w0 mm w' :=
  ⟨hos.trans h.os, ht.trans h.tape, hou.trans h.output, Nat.le_trans h.size hs, fun k hk' hi => by
      rw [hk k (Nat.lt_of_lt_of_le hk' h.size) fun e => ?_]
      · exact h.old k hk' hi
      · subst e
        rcases hg with hg | hg
        · omega
        · exact hi hg,
    fun i m hm => by
      obtain ⟨o, ho, hf⟩ := h.cells i m hm
      exact ⟨o, fun hl => by rw [hk _ (h.lt hm hl) (hne i m hm hl)]; exact ho hl, hf⟩, h.own, h.inj, h.ro⟩
theorem dropB_some {ob : Option Nat} {i : Nat} {m : MB} (h : setFs mm (dropB ob) i = some m) : mm i = some m ∧ ∀ b, ob = some b → i ≠ b := by
  cases ob with
  | none => exact ⟨h, fun b e => by cases e⟩
  | some b =>
    simp only [dropB, setFs, setF] at h
    split at h
    · cases h
    · rename_i hi; exact ⟨h, fun b' e => by cases e; exact hi⟩
theorem hAppend_run [Outer] {own : Nat} {t ty : TypeId} {s x : SW} {ids : List Nat} {nv : Nat} {res : OpRes} {evs : List Ev} (hM : Mrel ρ β inh w0 mm w) (hF : FreshM mm res.news) (h : hAppend P own t s x ids (ids.map mm) nv = .ok res evs) (hev : Holds P ρ evs) :
    ∃ v w' β', (∀ i, i ∉ res.news → β' i = β i) ∧ (Builtin.append_ #[t, t] ty #[s.den ρ β, x.den ρ β]).run P w = .ok v w' ∧ v = res.val.den ρ β' ∧ Mrel ρ β' inh w0 (setFs mm res.upd) w' := by
  unfold hAppend at h
  split at h
  · rename_i et hu
    split at h
    · rename_i ie pre hie hpre
      split at h
      · rename_i z ps L ob qs M es nv hz hs hx
        split at h
        · rename_i hok
          cases h
          simp only [Bool.and_eq_true, Nat.blt_eq] at hok
          obtain ⟨⟨h0, hby⟩, hzs⟩ := hok
          have hzs := Nat.eq_of_beq_eq_true hzs
          obtain ⟨_, e2⟩ := withIds_eq hpre
          have hes : Holds P ρ es := fun y hy => hev y (List.mem_append_left _ hy)
          have hj := hev _ (List.mem_append_right es (.head _))
          have hn := hev _ (List.mem_append_right es (.tail _ (.head _)))
          simp only [Ev.holds] at hj hn
          obtain ⟨hjd, hjp⟩ := hj β
          obtain ⟨k, hk, hkl⟩ := hjp _ (.head _)
          obtain ⟨l, hl, hll⟩ := hjp _ (.tail _ (.head _))
          obtain ⟨rs, ids1⟩ := rowV_at hM e2 hs h0 hk hkl
          have rx := srcV_at hM e2 hx h0 hes hl hll
          have hkl2 : (mkAdd L M).i ρ = ((k + l : Nat) : Int) := by rw [mkAdd_den, hk, hl]; omega
          have hbound : (k + l) * ie.bytes ≤ 140737488355328 := by
            rw [mkNo_den, mkLt_den] at hn
            have h1 : ¬ (Tm.lit ((140737488355328 / ie.bytes : Nat) : Int)).i ρ < (mkAdd L M).i ρ := by
              simpa using hn
            rw [hkl2, show (Tm.lit ((140737488355328 / ie.bytes : Nat) : Int)).i ρ = ((140737488355328 / ie.bytes : Nat) : Int) from rfl] at h1
            have h2 : k + l ≤ 140737488355328 / ie.bytes := by omega
            calc (k + l) * ie.bytes ≤ 140737488355328 / ie.bytes * ie.bytes := Nat.mul_le_mul_right _ h2
              _ ≤ 140737488355328 := Nat.div_mul_le_self _ _
          obtain ⟨v, w', hr, hv, o1, o2, o3, o4, o5⟩ := append_row (P := P) w t ty et ie z hu hie hz hzs hby rs rx (densP_one ρ β qs) hbound
          have hcat : densP ρ β [.all nv] = densP ρ β ps ++ densP ρ β qs := by rw [hjd]; simp [denJ]
          -- what is left of the memory
          have hM1 : Mrel ρ β inh w0 (setFs mm (dropB ob)) w := hM.less fun i m hm => (dropB_some hm).1
          have fresh : ∀ i m, setFs mm (dropB ob) i = some m → (i ≠ own ∧ i ≠ own + 1) ∧ ∀ j ∈ m.ids, j ≠ own ∧ j ≠ own + 1 := fun i m hm => by
            obtain ⟨f1, f2⟩ := hF i m (dropB_some hm).1
            exact ⟨⟨fun e => f1 (by simp [e]), fun e => f1 (by simp [e])⟩, fun j hj => ⟨fun e => f2 j hj (by simp [e]), fun e => f2 j hj (by simp [e])⟩⟩
          have fin : ∀ (g cp : Nat) (fz : Nat × Nat), v = (SW.one (.cell (.sl own (own + 1) (mkAdd L M)))).den ρ (ext (ext β own g) (own + 1) cp) → ∀ cur : Array Value, (cp ≠ 0 → w'.heap[g]? = some (.cells cur et fz)) → okFz fz cur.size → cur.size = (cp - 1) * ie.size → (densP ρ β [.all nv]).length ≤ cur.size → cur.toList.take (densP ρ β [.all nv]).length = densP ρ β [.all nv] →
              (cp ≠ 0 → w0.heap.size ≤ g ∨ g ∈ inh) → (∀ j, j < w.heap.size → j ≠ g → w'.heap[j]? = w.heap[j]?) ∨ w' = w → (cp ≠ 0 → ∀ i m, setFs mm (dropB ob) i = some m → m.live β = true → β i ≠ g) → (cp = 0 → w' = w) →
              ∃ v w' β', (∀ i, i ∉ [own, own + 1] → β' i = β i) ∧ (Builtin.append_ #[t, t] ty #[s.den ρ β, x.den ρ β]).run P w = .ok v w' ∧ v = (SW.one (.cell (.sl own (own + 1) (mkAdd L M)))).den ρ β' ∧ Mrel ρ β' inh w0 (setFs mm (dropB ob ++ [(own, some ⟨et, [.all nv], some (own + 1, ie.size)⟩)])) w' := by
            intro g cp fz hvd cur hg hfz hcs hle htk hgo hkeep hne hz0
            obtain ⟨β', hβ'⟩ : ∃ b, b = ext (ext β own g) (own + 1) cp := ⟨_, rfl⟩
            have b1 : β' own = g := by rw [hβ']; simp [ext]
            have b2 : β' (own + 1) = cp := by rw [hβ']; simp [ext]
            have b3 : ∀ i, i ≠ own → i ≠ own + 1 → β' i = β i := fun i h1 h2 => by rw [hβ']; simp [ext, h1, h2]
            have hM2 : Mrel ρ β inh w0 (setFs mm (dropB ob)) w' := by
              by_cases hc : cp = 0
              · rw [hz0 hc]; exact hM1
              · rcases hkeep with hkeep | e
                · exact hM1.regrown o1 o2 o3 o4 (hgo hc) hkeep (hne hc)
                · rw [e]; exact hM1
            have hM3 : Mrel ρ β' inh w0 (setFs mm (dropB ob)) w' := hM2.names fun i m hm => ⟨b3 i (fresh i m hm).1.1 (fresh i m hm).1.2, fun j hj => b3 j ((fresh i m hm).2 j hj).1 ((fresh i m hm).2 j hj).2⟩
            refine ⟨v, w', β', fun i hi => b3 i (fun e => hi (by simp [e])) (fun e => hi (by simp [e])), hr, by rw [hvd, hβ'], ?_⟩
            rw [setFs_append]
            have hlv : ∀ hl : MB.live β' ⟨et, [.all nv], some (own + 1, ie.size)⟩ = true, cp ≠ 0 := fun hl e => by
              unfold MB.live at hl
              simp only [b2, e] at hl
              exact absurd hl (by decide)
            refine hM3.add (o := .cells cur et fz) ?_ (fun hl => by rw [b1]; exact hg (hlv hl)) ⟨cur.toList.drop (densP ρ β [.all nv]).length, fz, ?_, ?_⟩ (fun hl => by rw [b1]; exact hgo (hlv hl)) (fun hl i m hm hm2 => ?_)
            · cases hn : setFs mm (dropB ob) own with
              | none => rfl
              | some m => exact absurd rfl (fresh own m hn).1.1
            · have e : densP ρ β' [.all nv] = densP ρ β [.all nv] := rfl
              rw [e]
              conv => lhs; rw [← Array.toArray_toList (xs := cur), ← List.take_append_drop (densP ρ β [.all nv]).length cur.toList, htk]
            · have e : densP ρ β' [.all nv] = densP ρ β [.all nv] := rfl
              have h9 : cur.toList.length = cur.size := Array.length_toList
              have h8 : (densP ρ β [.all nv]).length + (cur.toList.drop (densP ρ β [.all nv]).length).length = cur.size := by rw [List.length_drop]; omega
              show (densP ρ β' [.all nv]).length + _ = (β' (own + 1) - 1) * ie.size ∧ okFz fz ((densP ρ β' [.all nv]).length + _)
              rw [e, h8, b2, ← hcs]; exact ⟨rfl, hfz⟩
            · rw [b1, b3 i (fresh i m hm).1.1 (fresh i m hm).1.2]
              refine hne (hlv hl) i m hm ?_
              rw [← hm2]; exact (MB.live_names fun j hj => b3 j ((fresh i m hm).2 j hj).1 ((fresh i m hm).2 j hj).2).symm
          rcases o5 with ⟨rfl, rfl⟩ | ⟨g, cap, rfl, hgo, hkeep⟩
          · rcases hv with ⟨_, hk0, hx0⟩ | ⟨_, _, _, _, e, _⟩
            · have hd0 : densP ρ β [.all nv] = [] := by rw [hcat]; exact hx0
              exact fin 0 0 (0, 0) (by rw [sl_none (by rw [hkl2, hk0]; rfl) (by simp [ext])]) #[] (fun h => absurd rfl h) (okFz_zero _) (by simp) (by rw [hd0]; simp) (by rw [hd0]; rfl) (fun h => absurd rfl h) (.inr rfl) (fun h => absurd rfl h) (fun _ => rfl)
            · cases e
          · rcases hv with ⟨e, _, _⟩ | ⟨g', cap', cur, fz, e, ⟨hg, hfz⟩, hc, hcs, hlen, htk⟩
            · cases e
            · cases e
              have hd : densP ρ β [.all nv] = densP ρ β ps ++ densP ρ β qs := hcat
              have hown : w0.heap.size ≤ g ∨ g ∈ inh := by
                rcases hgo with rfl | ⟨c, hs'⟩
                · exact .inl hM.size
                · obtain ⟨b, m, _, hm, hlv, rfl⟩ := ids1 g c hs'
                  exact hM.own b m hm hlv
              refine fin g (cap + 1) fz (by rw [sl_some (.inr (by simp [ext])), hkl2, Int.toNat_natCast]; simp [ext]) cur (fun _ => hg) hfz (by simpa using hcs) ?_ ?_ (fun _ => hown) (.inl hkeep) (fun _ i m hm hlv => ?_) (fun h => absurd h (by omega))
              · rw [hd, hlen, hcs]; exact Nat.mul_le_mul_right _ hc
              · rw [hd, hlen]; exact htk
              · rcases hgo with rfl | ⟨c, hs'⟩
                · have := hM1.lt hm hlv; omega
                · obtain ⟨b, m', hob, hm', hlv', rfl⟩ := ids1 g c hs'
                  obtain ⟨d1, d2⟩ := dropB_some hm
                  exact fun e => d2 b hob (hM.inj i b m m' d1 hm' hlv hlv' e)
        · cases h
      · cases h
    · cases h
  · cases h
theorem Mrel.add2 [Outer] (h : Mrel ρ β inh w0 mm w) {own : Nat} (hF : FreshM mm [own, own + 1]) {et e : Nat} {ps : List Piece} {cap : Nat} {cur : Array Value} {fz : Nat × Nat} (hw : Below w.heap.size w w')
    (hg : w'.heap[w.heap.size]? = some (.cells cur et fz)) (hfz : okFz fz cur.size) (hcs : cur.size = cap * e) (hps : ∀ β', densP ρ β' ps = densP ρ β ps) (hle : (densP ρ β ps).length ≤ cur.size) (htk : cur.toList.take (densP ρ β ps).length = densP ρ β ps) :
    Mrel ρ (ext (ext β own w.heap.size) (own + 1) (cap + 1)) inh w0 (setF mm own (some ⟨et, ps, some (own + 1, e)⟩)) w' := by
  obtain ⟨β', hβ'⟩ : ∃ b, b = ext (ext β own w.heap.size) (own + 1) (cap + 1) := ⟨_, rfl⟩
  rw [← hβ']
  have b1 : β' own = w.heap.size := by rw [hβ']; simp [ext]
  have b2 : β' (own + 1) = cap + 1 := by rw [hβ']; simp [ext]
  have b3 : ∀ i, i ≠ own → i ≠ own + 1 → β' i = β i := fun i h1 h2 => by rw [hβ']; simp [ext, h1, h2]
  have fresh : ∀ i m, mm i = some m → (i ≠ own ∧ i ≠ own + 1) ∧ ∀ j ∈ m.ids, j ≠ own ∧ j ≠ own + 1 := fun i m hm => by
    obtain ⟨f1, f2⟩ := hF i m hm
    exact ⟨⟨fun e => f1 (by simp [e]), fun e => f1 (by simp [e])⟩, fun j hj => ⟨fun e => f2 j hj (by simp [e]), fun e => f2 j hj (by simp [e])⟩⟩
  have h2 : Mrel ρ β' inh w0 mm w' := (h.later hw).names fun i m hm => ⟨b3 i (fresh i m hm).1.1 (fresh i m hm).1.2, fun j hj => b3 j ((fresh i m hm).2 j hj).1 ((fresh i m hm).2 j hj).2⟩
  have h9 : cur.toList.length = cur.size := Array.length_toList
  refine h2.add (o := .cells cur et fz) ?_ (fun _ => by rw [b1]; exact hg) ⟨cur.toList.drop (densP ρ β ps).length, fz, ?_, ?_⟩ (fun _ => by rw [b1]; exact .inl h.size) (fun _ i m hm hl => ?_)
  · cases hn : mm own with
    | none => rfl
    | some m => exact absurd rfl (fresh own m hn).1.1
  · rw [hps β']
    conv => lhs; rw [← Array.toArray_toList (xs := cur), ← List.take_append_drop (densP ρ β ps).length cur.toList, htk]
  · show (densP ρ β' ps).length + _ = (β' (own + 1) - 1) * e ∧ okFz fz ((densP ρ β' ps).length + _)
    have h8 : (densP ρ β ps).length + (cur.toList.drop (densP ρ β ps).length).length = cur.size := by rw [List.length_drop]; omega
    rw [hps β', h8, b2]
    exact ⟨by simpa using hcs, hfz⟩
  · rw [b1, b3 i (fresh i m hm).1.1 (fresh i m hm).1.2]
    have := h.lt hm (by rw [← hl]; exact (MB.live_names fun j hj => b3 j ((fresh i m hm).2 j hj).1 ((fresh i m hm).2 j hj).2).symm)
    omega
end

def hText (P : Program) (e : TypeId) (x : SW) (ids : List Nat) (mbs : List (Option MB)) (nv : Nat) : R OpRes :=
  match P.underlying e, withIds ids mbs with
  | some (.int .u8), some pre => match srcV x e 1 pre nv with
    | some (ps, L, es, nv) => .ok ⟨.one (.cell (.str (.v nv))), [], [], nv + 1⟩ (es ++ [.join [.bytes (.v nv)] [(ps, L)] 1 1])
    | none => .bad "text: list"
  | _, _ => .bad "text: type"
def hBytes (P : Program) (own : Nat) (e : TypeId) (x : SW) (nv : Nat) : R OpRes :=
  match P.underlying e, x with
  | some (.int .u8), .one (.cell (.str s)) => .ok ⟨.one (.cell (.sl own (own + 1) (mkLen s))), [(own, some ⟨e, [.bytes s], some (own + 1, 1)⟩)], [own, own + 1], nv⟩ []
  | _, _ => .bad "bytes"
def hConvR (P : Program) (nowrap : Bool) (own : Nat) (src dst : TypeId) (x : SW) (ids : List Nat) (mbs : List (Option MB)) (nv : Nat) : R OpRes :=
  match P.underlying src, P.underlying dst with
  | some (.slice e), some .string => hText P e x ids mbs nv
  | some .string, some (.slice e) => hBytes P own e x nv
  | _, _ => hConv P nowrap src dst x nv
section
variable {P : Program} {ρ : Nat → Value} {β β' : Nat → Nat} {inh : List Nat} {w0 w w' : World} {mm : Nat → Option MB}
theorem byteCells_length (s : ByteArray) : (byteCells s).length = s.size := by simp [byteCells]
theorem hText_run [Outer] {src dst e : TypeId} {x : SW} {ids : List Nat} {nv : Nat} {res : OpRes} {evs : List Ev} (hs : P.underlying src = some (.slice e)) (hd : P.underlying dst = some .string) (hM : Mrel ρ β inh w0 mm w) (h : hText P e x ids (ids.map mm) nv = .ok res evs) (hev : Holds P ρ evs) :
    (convert src dst (x.den ρ β)).run P w = .ok (res.val.den ρ β) w ∧ res.upd = [] ∧ res.news = [] := by
  unfold hText at h
  split at h
  · rename_i pre he hpre
    split at h
    · rename_i ps L es nv hx
      cases h
      refine ⟨?_, rfl, rfl⟩
      obtain ⟨_, e2⟩ := withIds_eq hpre
      have hes : Holds P ρ es := fun y hy => hev y (List.mem_append_left _ hy)
      have hj := hev _ (List.mem_append_right es (.head _))
      simp only [Ev.holds] at hj
      obtain ⟨hjd, hjp⟩ := hj β
      obtain ⟨k, hk, hkl⟩ := hjp _ (.head _)
      have rx := srcV_at hM e2 hx (by omega) hes hk hkl
      have hb : byteCells (vStr (ρ nv)) = densP ρ β ps := by simpa [densP, Piece.den, denJ, Tm.s, Tm.den] using hjd
      show _ = Result.ok (Value.string (vStr (ρ nv))) w
      rcases rx with ⟨hn, hk0, hp⟩ | ⟨g, o, cap, hv, hlen, hcells⟩
      · rw [hn, run_convert_bytes_nil w src e hs he 0 0 dst hd]
        rw [hp] at hb
        have : (vStr (ρ nv)).data.toList = [] := by simpa [byteCells] using hb
        congr 2
        exact byteArray_ext (by rw [this]; rfl)
      · have hk2 : k = (vStr (ρ nv)).data.toList.length := by
          have := congrArg List.length hb
          rw [hlen, byteCells, List.length_map] at this; omega
        rw [hv, hk2, run_convert_bytes_back w src dst e ⟨g, o, none⟩ cap (vStr (ρ nv)).data.toList hs he hd fun j hj => ?_]
        have h1 := hcells j (.int .u8 ((((vStr (ρ nv)).data.toList[j]).toNat : Nat) : Int)) (by rw [← hb, byteCells, List.getElem?_map, List.getElem?_eq_getElem hj]; rfl)
        exact h1
    · cases h
  · cases h
theorem hBytes_run [Outer] {own : Nat} {src dst e : TypeId} {x : SW} {nv : Nat} {res : OpRes} {evs : List Ev} (hs : P.underlying src = some .string) (hd : P.underlying dst = some (.slice e)) (hM : Mrel ρ β inh w0 mm w) (hF : FreshM mm res.news) (h : hBytes P own e x nv = .ok res evs) :
    ∃ v w' β', (∀ i, i ∉ res.news → β' i = β i) ∧ (convert src dst (x.den ρ β)).run P w = .ok v w' ∧ v = res.val.den ρ β' ∧ Mrel ρ β' inh w0 (setFs mm res.upd) w' := by
  unfold hBytes at h
  split at h
  · rename_i s he
    cases h
    have hr := Lib.run_convert_string_bytes (P := P) w src dst e (s.s ρ) hs hd he
    have hge := grownCap_ge w (s.s ρ).size 0 e
    have hlen : (densP ρ β [.bytes s]).length = (s.s ρ).size := by simp [densP, Piece.den, byteCells_length]
    have hcs : (Lib.bytesCells w e (s.s ρ)).size = grownCap w (s.s ρ).size 0 e := by
      simp only [Lib.bytesCells, Array.size_append, Array.size_map, Array.size_replicate]
      have : (s.s ρ).data.size = (s.s ρ).size := rfl
      omega
    refine ⟨_, _, ext (ext β own w.heap.size) (own + 1) (grownCap w (s.s ρ).size 0 e + 1), fun i hi => ?_, hr, ?_, ?_⟩
    · simp only [List.mem_cons, List.not_mem_nil, or_false, not_or] at hi
      simp [ext, hi.1, hi.2]
    · rw [sl_some (.inr (by simp [ext])), mkLen_den, Int.toNat_natCast]
      simp [ext]
    · refine hM.add2 (cap := grownCap w (s.s ρ).size 0 e) hF ⟨rfl, rfl, rfl, by rw [Lib.bytesWorld_size]; omega, fun k hk => Lib.bytesWorld_at_old w e _ k hk⟩ (Lib.bytesWorld_at_new w e _) (fun j hj h => by have := h.1; omega) (by rw [hcs]; simp) (fun _ => rfl) (by rw [hlen, hcs]; exact hge) ?_
      rw [hlen]
      simp only [Lib.bytesCells, Array.toList_append, Array.toList_map]
      have e1 : (s.s ρ).size = ((s.s ρ).data.toList.map fun b => Value.int .u8 ((b.toNat : Nat) : Int)).length := by simp
      rw [e1, List.take_left]
      simp [densP, Piece.den, byteCells]
  · cases h
end

def bndT (d : Tm) : Option SW → Option Tm
  | none => some d
  | some (.one (.cell (.int _ a))) => some a
  | some _ => none
def mkSub (a b : Tm) : Tm :=
  match a, b with
  | x, .lit (.ofNat 0) => x
  | .lit x, .lit y => .lit (x - y)
  | x, y => .ex .sub x y
theorem mkSub_den (ρ : Nat → Value) (a b : Tm) : (mkSub a b).i ρ = a.i ρ - b.i ρ := by
  unfold mkSub
  split <;> simp [Tm.i, Tm.den, exI]
def winN (a h L : Tm) : List Ev := [.need (mkNo (mkLt a (.lit 0))), .need (mkNo (mkLt h a)), .need (mkNo (mkLt L h))]
def hWin (P : Program) (t : TypeId) (x : SW) (lo hi : Option SW) (ids : List Nat) (mbs : List (Option MB)) (nv : Nat) : R OpRes :=
  match P.underlying t, x with
  | some (.slice et), .one (.cell (.sl b c L)) => match bndT (.lit 0) lo, bndT L hi, P.info? et, withIds ids mbs with
    | some a, some h, some ie, some pre => match rowV (.one (.cell (.sl b c L))) et ie.size pre with
      | some (ps, L', _) => match Nat.blt 0 ie.size with
        | true => .ok ⟨.one (.cell (.win b c L ie.size a (mkSub h a))), [], [], nv⟩ (.join ps [(ps, L')] ie.size 0 :: winN a h L)
        | false => .bad "window: size"
      | none => .bad "window: list"
    | _, _, _, _ => .bad "window: bounds"
  | some (.slice et), .one (.cell (.slice b off n k)) => match bndT (.lit 0) lo, bndT (.lit ((n : Nat) : Int)) hi, P.info? et with
    | some a, some h, some ie => match Nat.ble n k with
      | true => .ok ⟨.one (.cell (.awin b off k ie.size a (mkSub h a))), [], [], nv⟩ (winN a h (.lit ((n : Nat) : Int)))
      | false => .bad "window: capacity"
    | _, _, _ => .bad "window: bounds"
  | some (.array n et), .one (.cell (.ptr b off)) => match bndT (.lit 0) lo, bndT (.lit ((n : Nat) : Int)) hi, P.info? et with
    | some a, some h, some ie => .ok ⟨.one (.cell (.awin b off n ie.size a (mkSub h a))), [], [], nv⟩ (winN a h (.lit ((n : Nat) : Int)))
    | _, _, _ => .bad "window: bounds"
  | _, _ => .bad "window: type"
section
variable {P : Program} {ρ : Nat → Value} {β β' : Nat → Nat} {inh : List Nat} {w0 w w' : World} {mm : Nat → Option MB}
theorem winN_holds [Outer] {a h L : Tm} (hh : ∀ y ∈ winN a h L, y.holds P ρ) : 0 ≤ a.i ρ ∧ a.i ρ ≤ h.i ρ ∧ h.i ρ ≤ L.i ρ := by
  have h1 := hh _ (.head _)
  have h2 := hh _ (.tail _ (.head _))
  have h3 := hh _ (.tail _ (.tail _ (.head _)))
  simp only [Ev.holds] at h1 h2 h3
  rw [mkNo_den, mkLt_den] at h1 h2 h3
  have h1 : ¬ a.i ρ < (Tm.lit 0).i ρ := by simpa using h1
  have h2 : ¬ h.i ρ < a.i ρ := by simpa using h2
  have h3 : ¬ L.i ρ < h.i ρ := by simpa using h3
  rw [show (Tm.lit 0).i ρ = 0 from rfl] at h1
  omega
theorem bndT_den {d a : Tm} {o : Option SW} (h : bndT d o = some a) : (o = none ∧ a = d) ∨ ∃ k, o.map (·.den ρ β) = some (.int k (a.i ρ)) := by
  unfold bndT at h
  split at h
  · cases h; exact .inl ⟨rfl, rfl⟩
  · cases h; exact .inr ⟨_, rfl⟩
  · cases h
theorem run_bounds (s : Bool) (len cap : Nat) {lo hi : Option SW} {a h d : Tm} (ha : bndT (.lit 0) lo = some a) (hh : bndT d hi = some h) (hd : d.i ρ = ((len : Nat) : Int)) (h0 : 0 ≤ a.i ρ) (h1 : a.i ρ ≤ h.i ρ) (h2 : h.i ρ ≤ len) (h3 : len ≤ cap) :
    (Instr.sliceBounds s len cap (lo.map (·.den ρ β)) (hi.map (·.den ρ β)) none).run P w = .ok ((a.i ρ).toNat, (h.i ρ).toNat, cap) w := by
  have e2 : (((h.i ρ).toNat : Nat) : Int) = h.i ρ := Int.toNat_of_nonneg (by omega)
  have b2 : ∀ k c, (Instr.sliceBound (.int k (h.i ρ)) cap c).run P w = .ok (h.i ρ).toNat w := fun k c => by
    unfold Instr.sliceBound
    simp only [asIntOf, Sem.run_bind, Sem.run_pure, Result.andThen_ok]
    rw [if_pos ⟨by omega, by omega⟩]; rfl
  have b1 : ∀ k c, (Instr.sliceBound (.int k (a.i ρ)) (h.i ρ).toNat c).run P w = .ok (a.i ρ).toNat w := fun k c => by
    unfold Instr.sliceBound
    simp only [asIntOf, Sem.run_bind, Sem.run_pure, Result.andThen_ok]
    rw [if_pos ⟨h0, by omega⟩]; rfl
  unfold Instr.sliceBounds
  rcases bndT_den (ρ := ρ) (β := β) hh with ⟨rfl, rfl⟩ | ⟨k2, hk2⟩
  · have e3 : (h.i ρ).toNat = len := by omega
    rcases bndT_den (ρ := ρ) (β := β) ha with ⟨rfl, rfl⟩ | ⟨k1, hk1⟩
    · simp only [Option.map_none, Sem.run_bind, Sem.run_pure, Result.andThen_ok, e3]; rfl
    · rw [hk1]
      rw [e3] at b1
      simp only [Option.map_none, Sem.run_bind, Sem.run_pure, Result.andThen_ok, b1, e3]
  · rw [hk2]
    rcases bndT_den (ρ := ρ) (β := β) ha with ⟨rfl, rfl⟩ | ⟨k1, hk1⟩
    · simp only [Option.map_none, Sem.run_bind, Sem.run_pure, Result.andThen_ok, b2]; rfl
    · rw [hk1]
      simp only [Sem.run_bind, Sem.run_pure, Result.andThen_ok, b1, b2]
theorem beq_no {n o : Nat} (h : ¬ n = o) : Nat.beq n o = false := by
  rw [Bool.eq_false_iff]
  exact fun h9 => h (Nat.eq_of_beq_eq_true h9)
theorem win_base2 (g base n e o : Nat) : (if n = o then (⟨g, base, none⟩ : Addr) else (⟨g, base, none⟩ : Addr).add (o * e)) = ⟨g, cond (Nat.beq n o) base (base + o * e), none⟩ := by
  by_cases h : n = o
  · subst h; rw [if_pos rfl, Nat.beq_refl]; rfl
  · rw [if_neg h, beq_no h]; simp [Addr.add_lit]
theorem win_base (g base n e o : Nat) : (if n = o then some (⟨g, base, none⟩ : Addr) else (some (⟨g, base, none⟩ : Addr)).map (·.add (o * e))) = some ⟨g, cond (Nat.beq n o) base (base + o * e), none⟩ := by
  rw [← win_base2]; split <;> rfl
theorem hWin_run [Outer] {t : TypeId} {x : SW} {lo hi : Option SW} {ids : List Nat} {nv : Nat} {res : OpRes} {evs : List Ev} (hM : Mrel ρ β inh w0 mm w) (h : hWin P t x lo hi ids (ids.map mm) nv = .ok res evs) (hev : Holds P ρ evs) :
    (Instr.sliceAt t (x.den ρ β) (lo.map (·.den ρ β)) (hi.map (·.den ρ β)) none).run P w = .ok (res.val.den ρ β) w ∧ res.upd = [] := by
  unfold hWin at h
  split at h
  · rename_i et b c L hu
    split at h
    · rename_i a u ie pre ha hh hie hpre
      split at h
      · rename_i ps L' ob hx
        split at h
        · rename_i h0
          cases h
          refine ⟨?_, rfl⟩
          obtain ⟨_, e2⟩ := withIds_eq hpre
          have h0 : 0 < ie.size := by simpa [Nat.blt_eq] using h0
          have hj := hev _ (.head _)
          simp only [Ev.holds] at hj
          obtain ⟨k, hk, hkl⟩ := (hj β).2 _ (.head _)
          have hr := (rowV_at hM e2 hx h0 hk hkl).1
          have hL : L' = L := by
            simp only [rowV] at hx
            split at hx
            · split at hx
              · split at hx
                · cases hx; rfl
                · cases hx
              · cases hx
            · cases hx
          subst hL
          obtain ⟨n1, n2, n3⟩ := winN_holds (P := P) (ρ := ρ) fun y hy => hev y (.tail _ hy)
          rw [hk] at n3
          have hs : (sizeOf et).run P w = .ok ie.size w := by simp [sizeOf, typeInfo, hie]
          have hval : (SW.one (.cell (.win b c L' ie.size a (mkSub u a)))).den ρ β = winV (Nat.beq (β c) 0 && intBeq (L'.i ρ) 0) (β b) 0 (β c - 1) ie.size (a.i ρ).toNat ((u.i ρ).toNat - (a.i ρ).toNat) := by
            have e3 : ((mkSub u a).i ρ).toNat = (u.i ρ).toNat - (a.i ρ).toNat := by rw [mkSub_den]; omega
            simp only [SW.den, SV.den, Cell.den, e3]
          rw [hval]
          have hsl : (SW.one (.cell (.sl b c L'))).den ρ β = cond (Nat.beq (β c) 0 && intBeq (L'.i ρ) 0) (.slice none 0 0) (.slice (some ⟨β b, 0, none⟩) (L'.i ρ).toNat (β c - 1)) := rfl
          rw [hsl] at hr ⊢
          generalize (Nat.beq (β c) 0 && intBeq (L'.i ρ) 0) = B at hr ⊢
          cases B with
          | true =>
            have k0 : k = 0 := by
              rcases hr with ⟨_, h9, _⟩ | ⟨g, cap, cur, fz, hv, _⟩
              · exact h9
              · cases hv
            subst k0
            have a0 : (a.i ρ).toNat = 0 := by omega
            have u0 : (u.i ρ).toNat = 0 := by omega
            simp only [cond, Instr.sliceAt, Instr.slice, Sem.run_bind, run_underlying hu, Result.andThen_ok]
            rw [run_bounds true 0 0 ha hh (by rw [hk]) n1 n2 n3 (Nat.le_refl _)]
            simp only [Result.andThen_ok, Sem.run_pure, hs, a0, u0]
            rfl
          | false =>
            have hc : k ≤ β c - 1 := by
              rcases hr with ⟨h9, _⟩ | ⟨g, cap, cur, fz, hv, _, hkc, _⟩
              · cases h9
              · cases hv; exact hkc
            simp only [cond, Instr.sliceAt, Instr.slice, Sem.run_bind, run_underlying hu, Result.andThen_ok]
            rw [run_bounds true (L'.i ρ).toNat (β c - 1) ha hh (by rw [hk]; simp) n1 n2 (by rw [hk]; simpa using n3) (by rw [hk]; simpa using hc)]
            simp only [Result.andThen_ok, Sem.run_pure, hs]
            rw [winV_live, win_base]
        · cases h
      · cases h
    · cases h
  · rename_i et b off n k hu
    split at h
    · rename_i a u ie ha hh hie
      split at h
      · rename_i hnk
        cases h
        refine ⟨?_, rfl⟩
        have hnk : n ≤ k := by simpa [Nat.ble_eq] using hnk
        obtain ⟨n1, n2, n3⟩ := winN_holds (P := P) (ρ := ρ) hev
        rw [show (Tm.lit ((n : Nat) : Int)).i ρ = ((n : Nat) : Int) from rfl] at n3
        have hs : (sizeOf et).run P w = .ok ie.size w := by simp [sizeOf, typeInfo, hie]
        have e3 : ((mkSub u a).i ρ).toNat = (u.i ρ).toNat - (a.i ρ).toNat := by rw [mkSub_den]; omega
        have v1 : (SW.one (.cell (.slice b off n k))).den ρ β = .slice (some ⟨β b, off, none⟩) n k := rfl
        have v2 : (SW.one (.cell (.awin b off k ie.size a (mkSub u a)))).den ρ β = winV false (β b) off k ie.size (a.i ρ).toNat ((u.i ρ).toNat - (a.i ρ).toNat) := by rw [← e3]; rfl
        rw [v1, v2]
        simp only [Instr.sliceAt, Instr.slice, Sem.run_bind, run_underlying hu, Result.andThen_ok]
        rw [run_bounds true n k ha hh rfl n1 n2 n3 hnk]
        simp only [Result.andThen_ok, Sem.run_pure, hs]
        rw [winV_live, win_base]
      · cases h
    · cases h
  · rename_i n et b off hu
    split at h
    · rename_i a u ie ha hh hie
      cases h
      refine ⟨?_, rfl⟩
      obtain ⟨n1, n2, n3⟩ := winN_holds (P := P) (ρ := ρ) hev
      rw [show (Tm.lit ((n : Nat) : Int)).i ρ = ((n : Nat) : Int) from rfl] at n3
      have hs : (sizeOf et).run P w = .ok ie.size w := by simp [sizeOf, typeInfo, hie]
      have e3 : ((mkSub u a).i ρ).toNat = (u.i ρ).toNat - (a.i ρ).toNat := by rw [mkSub_den]; omega
      have v1 : (SW.one (.cell (.ptr b off))).den ρ β = .pointer (some ⟨β b, off, none⟩) := rfl
      have v2 : (SW.one (.cell (.awin b off n ie.size a (mkSub u a)))).den ρ β = winV false (β b) off n ie.size (a.i ρ).toNat ((u.i ρ).toNat - (a.i ρ).toNat) := by rw [← e3]; rfl
      rw [v1, v2]
      have e4 : (Instr.sureAddr (Value.pointer (some ⟨β b, off, none⟩))).run P w = .ok ⟨β b, off, none⟩ w := by simp [Instr.sureAddr]
      simp only [Instr.sliceAt, Sem.run_bind, run_underlying hu, Result.andThen_ok, Sem.run_pure, e4]
      rw [run_bounds false n n ha hh rfl n1 n2 n3 (Nat.le_refl _)]
      simp only [Result.andThen_ok, hs]
      rw [winV_live, win_base2]
    · cases h
  · cases h
end
end Go.Proofs.Ytlccefdjhiedcaa.Sx
end
