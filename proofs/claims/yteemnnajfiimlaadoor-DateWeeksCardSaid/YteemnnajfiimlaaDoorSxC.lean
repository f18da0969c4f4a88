/- Symbolic execution: the operations of a function. No program is named here. -/
import Derived.Test.YteemnnajfiimlaaDoorSxB
namespace Go.Proofs.YteemnnajfiimlaaDoor.Sx
open Go.RowKit

structure OpRes where
  val : SW
  upd : Mem
  news : List Nat
  nv : Nat

def okV (v : SW) (nv : Nat) : R OpRes := .ok ⟨v, [], [], nv⟩ []
def okC (c : Cell) (nv : Nat) : R OpRes := .ok ⟨.one (.cell c), [], [], nv⟩ []

def pcs : SV → List Piece
  | .cell c => [.one c]
  | .agg ps => ps
def sizeP : List Piece → Option Nat
  | [] => some 0
  | p :: ps => match p.size? with
    | none => none
    | some k => match sizeP ps with
      | none => none
      | some n => some (k + n)
theorem SW.den_one (v : SV) (ρ : Nat → Value) (β : Nat → Nat) : (SW.one v).den ρ β = v.den ρ β := rfl
theorem pcs_den (v : SV) (ρ : Nat → Value) (β : Nat → Nat) : (v.den ρ β).cells = (densP ρ β (pcs v)).toArray := by
  cases v with
  | cell c =>
    have h := Cell.den_one c ρ β
    simp only [SV.den, pcs, densP, Piece.den, List.append_nil]
    generalize c.den ρ β = x at *
    cases x <;> first | rfl | cases h
  | agg ps => rfl
theorem sizeP_den (ρ : Nat → Value) (β : Nat → Nat) : ∀ {ps : List Piece} {n : Nat}, sizeP ps = some n → (densP ρ β ps).length = n
  | [], n, h => by cases h; rfl
  | p :: ps, n, h => by
    simp only [sizeP] at h
    split at h
    · cases h
    · rename_i k hk
      split at h
      · cases h
      · rename_i m hm
        cases h
        simp only [densP, List.length_append, Piece.den_length hk, sizeP_den ρ β hm]
theorem idsP_pcs (v : SV) : idsP (pcs v) = v.ids := by
  cases v <;> simp [pcs, idsP, SV.ids, Piece.ids]

/-! ### The shape of what is read or given -/
def shP (sh : Sh) (nv : Nat) : Piece :=
  match sh with
  | .bool => .one (.bool (.v nv))
  | .int k => .one (.int k (.v nv))
  | .str => .one (.str (.v nv))
  | .row n => .row nv n
  | .all => .all nv
  | .any => .one (.v nv)
  | .list _ _ => .one (.v nv)
def shPs : List Sh → Nat → List Piece
  | [], _ => []
  | s :: ss, nv => shP s nv :: shPs ss (nv + 1)
def lookSh (t : TypeId) : List (TypeId × List Sh) → Option (List Sh)
  | [] => none
  | (u, s) :: rest => if Nat.beq t u then some s else lookSh t rest
mutual
def shapeT (P : Program) (cfg : Cfg) : Nat → TypeId → Option (List Sh)
  | 0, _ => none
  | n + 1, t => match lookSh t cfg.shapes with
    | some s => some s
    | none => match P.underlying t with
      | some .bool => some [.bool]
      | some (.int k) => some [.int k]
      | some .string => some [.str]
      | some (.struct fields) => shapeFs P cfg n fields.toList
      | some (.array m e) => match shapeT P cfg n e with
        | some s => some (List.replicate m s).flatten
        | none => none
      | _ => none
def shapeFs (P : Program) (cfg : Cfg) : Nat → List Field → Option (List Sh)
  | 0, _ => none
  | _ + 1, [] => some []
  | n + 1, f :: fs => match shapeT P cfg n f.type with
    | none => none
    | some s => match shapeFs P cfg n fs with
      | none => none
      | some s' => some (s ++ s')
end
def shapeV (P : Program) (cfg : Cfg) (t : TypeId) (nv : Nat) : Option (SV × Nat) :=
  match shapeT P cfg 12 t, P.underlying t with
  | some s, some d => match d.isRow with
    | true => some (.agg (shPs s nv), nv + s.length)
    | false => match shPs s nv with
      | [.one c] => some (.cell c, nv + 1)
      | _ => none
  | _, _ => none

/-! ### Loads and stores -/
def asCell : List Piece → Option Cell
  | [.one c] => some c
  | [.rep k v n] => if Nat.beq n 1 then some (.int k (.lit v)) else none
  | _ => none
theorem asCell_den {ps : List Piece} {c : Cell} (h : asCell ps = some c) (ρ : Nat → Value) (β : Nat → Nat) : densP ρ β ps = [c.den ρ β] := by
  unfold asCell at h
  split at h
  · cases h; rfl
  · split at h
    · rename_i hb
      cases h
      rw [Nat.eq_of_beq_eq_true hb]; rfl
    · cases h
  · cases h
/-- The row or list that begins at a place, with what is before and behind it. -/
def pieceAt (ps : List Piece) (base : Nat) : Option (List Piece × Piece × List Piece) :=
  match cut ps base with
  | some (x, .row i n :: y) => some (x, .row i n, y)
  | some (x, .all i :: y) => some (x, .all i, y)
  | some (x, .bytes t :: y) => some (x, .bytes t, y)
  | _ => none
theorem pieceAt_den {ps x y : List Piece} {p : Piece} {base : Nat} (h : pieceAt ps base = some (x, p, y)) (ρ : Nat → Value) (β : Nat → Nat) : densP ρ β ps = densP ρ β x ++ (p.den ρ β ++ densP ρ β y) ∧ (densP ρ β x).length = base := by
  unfold pieceAt at h
  split at h
  · rename_i x' i n y' hc
    cases h
    exact cut_den ρ β hc
  · rename_i x' i y' hc
    cases h
    exact cut_den ρ β hc
  · rename_i x' i y' hc
    cases h
    exact cut_den ρ β hc
  · cases h
def hLoad (P : Program) (t : TypeId) (x : SW) (mb : Option MB) (nv : Nat) : R OpRes :=
  match x, mb with
  | .one (.cell (.ptr _ off)), some m =>
    match m.cap, P.underlying t with
    | some _, _ => .bad "load: room"
    | none, none => .bad "load: type"
    | none, some d => match d.isRow with
      | true => match P.info? t with
        | none => .bad "load: info"
        | some i => match slice m.ps off i.size with
          | none => .bad "load: cut"
          | some ps => okV (.one (.agg ps)) nv
      | false => match slice m.ps off 1 with
        | some ps => match asCell ps with
          | some c => okC c nv
          | none => .bad "load: cell"
        | none => .bad "load: place"
  | _, _ => .bad "load: address"
/-- The element of a row or list, at a place that is a term. -/
def hLoadE (P : Program) (cfg : Cfg) (t : TypeId) (x : SW) (mb : Option MB) (nv : Nat) : R OpRes :=
  match x, mb with
  | .one (.cell (.eptr _ base e idx fo)), some m => match pieceAt m.ps base, shapeV P cfg t nv, P.info? t with
    | some (_, src, _), some (v, nv'), some i => match sizeP (pcs v) with
      | some n => match Nat.beq n i.size && Nat.blt 0 i.size with
        | true => .ok ⟨.one v, [], [], nv'⟩ [.elem src idx e fo (pcs v) (nv' - nv)]
        | false => .bad "element: size"
      | none => .bad "element: shape"
    | _, _, _ => .bad "element: piece"
  | _, _ => .bad "element"
def hStore (P : Program) (t : TypeId) (x v : SW) (mb : Option MB) (nv : Nat) : R OpRes :=
  match x, v, mb with
  | .one (.cell (.ptr b off)), .one v, some m =>
    match m.cap, P.info? t, sizeP (pcs v) with
    | none, some i, some n => if Nat.beq n i.size then match splice m.ps off n (pcs v) with
        | none => .bad "store: cut"
        | some ps => .ok ⟨.undef, [(b, some ⟨m.ty, ps, m.cap⟩)], [], nv⟩ []
      else .bad "store: size"
    | _, _, _ => .bad "store: info"
  | _, _, _ => .bad "store: address"
def renew (p : Piece) (nv : Nat) : Piece :=
  match p with
  | .row _ n => .row nv n
  | _ => .all nv
def noIds : List Nat → Bool
  | [] => true
  | _ => false
def hStoreE (P : Program) (t : TypeId) (x v : SW) (mb : Option MB) (nv : Nat) : R OpRes :=
  match x, v, mb with
  | .one (.cell (.eptr b base e idx fo)), .one v, some m =>
    match P.info? t, sizeP (pcs v), pieceAt m.ps base with
    | some i, some n, some (x, src, y) => match Nat.beq n i.size && Nat.blt 0 n, noIds v.ids with
      | true, true => .ok ⟨.undef, [(b, some ⟨m.ty, x ++ renew src nv :: y, m.cap⟩)], [], nv + 1⟩ [.put src idx e fo (pcs v) (renew src nv) 1]
      | _, _ => .bad "store: element"
    | _, _, _ => .bad "store: piece"
  | _, _, _ => .bad "store: element's address"

section
variable {P : Program} {ρ : Nat → Value} {β : Nat → Nat} {inh : List Nat} {w0 w : World} {mm : Nat → Option MB}

theorem load_row {b off : Nat} {t ty : TypeId} {d : TypeDesc} {i : TypeInfo} {cs sub : List Value} {fz : Nat × Nat} (hc : w.heap[b]? = some (.cells cs.toArray ty fz)) (hu : P.underlying t = some d) (hd : d.isRow = true) (hi : P.info? t = some i) (hn : sub.length = i.size)
    (hsub : ∀ k, k < sub.length → cs[off + k]? = sub[k]?) : (loadVar t ⟨b, off, none⟩).run P w = .ok (.agg sub.toArray) w := by
  have hr : w.rangeAt b off sub := fun k v hv => by
    have hk : k < sub.length := (List.getElem?_eq_some_iff.1 hv).1
    rw [cell_of_row w b (off + k) _ _ fz hc]
    simpa [hsub k hk] using hv
  rw [run_loadVar_mid w b off t _ d hr hu hd (by rw [hi, hn]; rfl)]
theorem load_cell {b off : Nat} {t ty : TypeId} {d : TypeDesc} {cs : List Value} {v : Value} {fz : Nat × Nat} (hc : w.heap[b]? = some (.cells cs.toArray ty fz)) (hu : P.underlying t = some d) (hd : d.isRow = false) (hv : cs[off]? = some v) : (loadVar t ⟨b, off, none⟩).run P w = .ok v w := by
  have hcell : w.cell? ⟨b, off, none⟩ = some v := by
    rw [cell_of_row w b off _ _ fz hc]; simpa using hv
  have hagg : (isAgg t).run P w = .ok false w := by
    unfold isAgg
    rw [Sem.run_bind, run_underlying hu w]
    cases d <;> simp_all
  simp [Sem.run_bind, loadVar, hagg, hcell]

theorem hLoad_run [Outer] {t : TypeId} {x : SW} {b : Nat} {nv : Nat} {res : OpRes} {evs : List Ev} (hM : Mrel ρ β inh w0 mm w) (hx : ∀ b' off, x = .one (.cell (.ptr b' off)) → b' = b)
    (h : hLoad P t x (mm b) nv = .ok res evs) : (Instr.loadAt t (x.den ρ β)).run P w = .ok (res.val.den ρ β) w ∧ res.upd = [] ∧ res.news = [] := by
  unfold hLoad at h
  split at h
  · rename_i b' off m hm
    cases hx _ _ rfl
    obtain ⟨o, hc, rest, fz, rfl, _⟩ := hM.cells b m hm
    split at h
    · cases h
    · cases h
    · rename_i d hcap hu
      have hc := hc (by unfold MB.live; rw [hcap])
      split at h
      · rename_i hd
        split at h
        · cases h
        · rename_i i hi
          split at h
          · cases h
          · rename_i ps hs
            simp only [okV] at h
            cases h
            obtain ⟨e1, e2, e3⟩ := slice_den hs ρ β
            refine ⟨?_, rfl, rfl⟩
            simp only [SW.den, SV.den, Cell.den, Instr.loadAt, Instr.sureAddr, Sem.run_bind, Sem.run_pure, Result.andThen_ok]
            refine load_row hc hu hd hi e3 fun k hk => ?_
            rw [e1, List.getElem?_take, if_pos (by omega), List.getElem?_drop, List.getElem?_append_left (by omega)]
      · rename_i hd
        split at h
        · rename_i ps hs
          split at h
          · rename_i c hac
            simp only [okC] at h
            cases h
            obtain ⟨e1, e2, e3⟩ := slice_den hs ρ β
            rw [asCell_den hac] at e1
            refine ⟨?_, rfl, rfl⟩
            have hv : (densP ρ β m.ps)[off]? = some (c.den ρ β) := by
              have : (((densP ρ β m.ps).drop off).take 1)[0]? = some (c.den ρ β) := by rw [← e1]; rfl
              simpa [List.getElem?_take, List.getElem?_drop] using this
            simp only [SW.den, SV.den, Cell.den, Instr.loadAt, Instr.sureAddr, Sem.run_bind, Sem.run_pure, Result.andThen_ok]
            exact load_cell hc hu (by simpa using hd) (by rw [List.getElem?_append_left (by omega)]; exact hv)
          · cases h
        · cases h
  · cases h

theorem shapeV_row {cfg : Cfg} {t : TypeId} {nv nv' : Nat} {v : SV} (h : shapeV P cfg t nv = some (v, nv')) : ∃ d, P.underlying t = some d ∧ ((d.isRow = true ∧ ∃ ps, v = .agg ps) ∨ (d.isRow = false ∧ ∃ c, v = .cell c)) := by
  unfold shapeV at h
  split at h
  · rename_i s d _ hu
    split at h
    · rename_i hd; cases h; exact ⟨d, hu, .inl ⟨hd, _, rfl⟩⟩
    · rename_i hd
      split at h
      · cases h; exact ⟨d, hu, .inr ⟨by simpa using hd, _, rfl⟩⟩
      · cases h
  · cases h

theorem hLoadE_run [Outer] {cfg : Cfg} {t : TypeId} {x : SW} {b : Nat} {nv : Nat} {res : OpRes} {evs : List Ev} (hM : Mrel ρ β inh w0 mm w) (hx : ∀ b' base e idx fo, x = .one (.cell (.eptr b' base e idx fo)) → b' = b)
    (h : hLoadE P cfg t x (mm b) nv = .ok res evs) (hev : Holds P ρ evs) : (Instr.loadAt t (x.den ρ β)).run P w = .ok (res.val.den ρ β) w ∧ res.upd = [] ∧ res.news = [] := by
  unfold hLoadE at h
  split at h
  · rename_i b' base e idx fo m hm
    cases hx _ _ _ _ _ rfl
    obtain ⟨o, hc, rest, fz, rfl, hroom⟩ := hM.cells b m hm
    split at h
    · rename_i y src z v nv' i hp hs hi
      split at h
      · rename_i n hn
        split at h
        · rename_i hsz
          rw [Bool.and_eq_true, Nat.blt_eq] at hsz
          obtain ⟨hsz, h0⟩ := hsz
          have hsz := Nat.eq_of_beq_eq_true hsz
          cases h
          have he := hev _ (.head _)
          simp only [Ev.holds] at he
          have he := he β
          obtain ⟨p1, p2⟩ := pieceAt_den hp ρ β
          have hl := sizeP_den ρ β hn
          obtain ⟨d, hu, hd⟩ := shapeV_row hs
          have hpos : 0 < (densP ρ β (pcs v)).length := by
            rcases hd with ⟨hd, ps, rfl⟩ | ⟨hd, c, rfl⟩
            · rw [hl, hsz]; exact h0
            · simp [pcs, densP, Piece.den]
          have hc := hc (MB.live_fits ⟨rest, fz, rfl, hroom⟩ (by
            intro e0
            rw [p1] at e0
            have e1 := congrArg List.length e0
            have e2 := congrArg List.length he
            simp only [List.length_append, List.length_take, List.length_drop, List.length_nil] at e1 e2
            omega))
          refine ⟨?_, rfl, rfl⟩
          have hsub : ∀ k, k < (densP ρ β (pcs v)).length → (densP ρ β m.ps ++ rest)[base + (idx.i ρ).toNat * e + fo + k]? = (densP ρ β (pcs v))[k]? := fun k hk => by
            have hlen : (idx.i ρ).toNat * e + fo + (densP ρ β (pcs v)).length ≤ (src.den ρ β).length := by
              have := congrArg List.length he
              simp only [List.length_take, List.length_drop] at this
              omega
            rw [p1, List.append_assoc, List.getElem?_append_right (by omega), p2]
            have e1 : base + (idx.i ρ).toNat * e + fo + k - base = (idx.i ρ).toNat * e + fo + k := by omega
            rw [e1, List.append_assoc, List.getElem?_append_left (by omega), ← List.getElem?_drop]
            conv => rhs; rw [← he]
            rw [List.getElem?_take, if_pos hk]
          have ex : (SW.one (.cell (.eptr b base e idx fo))).den ρ β = .pointer (some ⟨β b, base + (idx.i ρ).toNat * e + fo, none⟩) := rfl
          rw [ex]
          simp only [Instr.loadAt, Instr.sureAddr, Sem.run_bind, Sem.run_pure, Result.andThen_ok]
          rcases hd with ⟨hd, ps, rfl⟩ | ⟨hd, c, rfl⟩
          · have hl' : (densP ρ β ps).length = i.size := by rw [← hsz]; exact hl
            exact load_row hc hu hd hi hl' hsub
          · refine load_cell hc hu hd ?_
            have := hsub 0 (by simp [pcs, densP, Piece.den])
            simpa [pcs, densP, Piece.den, SW.den_one, SV.den] using this
        · cases h
      · cases h
    · cases h
  · cases h

/-- Cells are written where nothing is frozen. -/
theorem storeCells_ok (P : Program) (g o : Nat) (t : TypeId) (fz : Nat × Nat) : ∀ (vs : List Value) (i : Nat) (cur : Array Value) (w : World), w.heap[g]? = some (.cells cur t fz) → okFz fz cur.size → o + i + vs.length ≤ cur.size → (∀ v ∈ vs, v.oneCell' = true) →
    (storeCells ⟨g, o, none⟩ vs i).run P w = .ok () (w.setRow g (cur.toList.take (o + i) ++ vs ++ cur.toList.drop (o + i + vs.length)).toArray)
  | [], i, cur, w, hg, _, _, _ => by
    simp only [storeCells, List.append_nil, List.length_nil, Nat.add_zero, List.take_append_drop, Array.toArray_toList]
    rw [setRow_self w g cur t fz hg]
    rfl
  | v :: rest, i, cur, w, hg, hfz, hl, h1 => by
    have hi : o + i < cur.size := by simp at hl; omega
    have hadd : (⟨g, o, none⟩ : Addr).add i = ⟨g, o + i, none⟩ := by unfold Addr.add; split <;> simp_all
    have hcell : w.cell? ⟨g, o + i, none⟩ = some cur[o + i] := by simp [World.cell?, hg, hi]
    have hfro : w.frozen? ⟨g, o + i, none⟩ = false := by
      have := hfz (o + i) hi
      obtain ⟨lo, hi'⟩ := fz
      simp only [World.frozen?, hg]
      rw [Bool.eq_false_iff]
      intro hc
      simp only [Bool.and_eq_true, decide_eq_true_eq] at hc
      exact this hc
    have hst : (store ((⟨g, o, none⟩ : Addr).add i) v).run P w = .ok () (w.setRow g (cur.setIfInBounds (o + i) v)) := by
      rw [hadd, run_store P w _ v _ (h1 v (by simp)), hcell]
      simp [hfro, setCell_eq_setRow w g (o + i) cur t fz v hg]
    have ih := storeCells_ok P g o t fz rest (i + 1) (cur.setIfInBounds (o + i) v) (w.setRow g (cur.setIfInBounds (o + i) v)) (setRow_heap w g cur _ t _ hg) (by simpa using hfz) (by simp at hl ⊢; omega) (fun x hx => h1 x (by simp [hx]))
    simp only [storeCells, Sem.run_bind, hst, Result.andThen_ok, ih, setRow_setRow]
    congr 3
    have e := list_seg_step cur.toList (o + i) v rest (by simp at hl ⊢; omega)
    simpa [Array.toList_setIfInBounds, Nat.add_assoc] using e
theorem store_run {b off : Nat} {t ty : TypeId} {i : TypeInfo} {cs : List Value} {vv : Value} {vs : List Value} {fz : Nat × Nat} (hfz : okFz fz cs.length) (hc : w.heap[b]? = some (.cells cs.toArray ty fz)) (hi : P.info? t = some i) (hvv : vv.cells = vs.toArray) (hn : vs.length = i.size) (hle : off + vs.length ≤ cs.length) (h1 : ∀ v ∈ vs, v.oneCell' = true) :
    (storeVar t ⟨b, off, none⟩ vv).run P w = .ok () (w.setRow b (cs.take off ++ vs ++ cs.drop (off + vs.length)).toArray) := by
  have hrun := storeCells_ok P b off ty fz vs 0 cs.toArray w hc (by simpa using hfz) (by simpa using hle) h1
  have hs' : (sizeOf t).run P w = .ok i.size w := by simp [sizeOf, typeInfo, hi]
  simp only [storeVar, Sem.run_bind, hs', Result.andThen_ok, hvv, List.size_toArray, hn, ne_eq, not_true, if_false]
  rw [← hn]
  simpa using hrun

theorem hStore_run [Outer] {t : TypeId} {x v : SW} {b : Nat} {nv : Nat} {res : OpRes} {evs : List Ev} (hM : Mrel ρ β inh w0 mm w) (hx : ∀ b' off, x = .one (.cell (.ptr b' off)) → b' = b)
    (h : hStore P t x v (mm b) nv = .ok res evs) : ∃ w', (Instr.storeAt t (x.den ρ β) (v.den ρ β)).run P w = .ok () w' ∧ res.val = .undef ∧ res.news = [] ∧ Mrel ρ β inh w0 (setFs mm res.upd) w' := by
  unfold hStore at h
  split at h
  · rename_i b' off v m hm
    cases hx _ _ rfl
    obtain ⟨o, hc, rest, fz, rfl, hroom⟩ := hM.cells b m hm
    split at h
    · rename_i i n hcap hi hn
      have hlive : m.live β = true := by unfold MB.live; rw [hcap]
      have hc := hc hlive
      split at h
      · rename_i hsz
        have hsz := Nat.eq_of_beq_eq_true hsz
        split at h
        · cases h
        · rename_i ps hs
          cases h
          obtain ⟨e1, e2⟩ := splice_den hs ρ β
          have hl := sizeP_den ρ β hn
          have hrun := store_run (P := P) (w := w) (off := off) (by simpa using MB.room_fz hroom) hc hi (pcs_den v ρ β) (by rw [hl, hsz]) (by rw [hl]; simp; omega) (densP_one ρ β (pcs v))
          refine ⟨_, hrun, rfl, rfl, ?_⟩
          simp only [setFs]
          refine hM.write (m' := ⟨m.ty, ps, m.cap⟩) hm hlive rfl rfl rfl rfl (by simp) (setRow_heap w (β b) _ _ m.ty fz hc) ⟨rest, fz, ?_, ?_⟩ (fun k hk => setRow_other w (β b) k _ hk)
          · congr 2
            rw [e1, hl, List.take_append_of_le_length (by omega), List.drop_append_of_le_length (by omega)]
            simp
          · have : (densP ρ β ps).length = (densP ρ β m.ps).length := by rw [e1]; simp [hl]; omega
            rw [this]; exact hroom
      · cases h
    · cases h
  · cases h

theorem hStoreE_run [Outer] {t : TypeId} {x v : SW} {b : Nat} {nv : Nat} {res : OpRes} {evs : List Ev} (hM : Mrel ρ β inh w0 mm w) (hx : ∀ b' base e idx fo, x = .one (.cell (.eptr b' base e idx fo)) → b' = b)
    (h : hStoreE P t x v (mm b) nv = .ok res evs) (hev : Holds P ρ evs) : ∃ w', (Instr.storeAt t (x.den ρ β) (v.den ρ β)).run P w = .ok () w' ∧ res.val = .undef ∧ res.news = [] ∧ Mrel ρ β inh w0 (setFs mm res.upd) w' := by
  unfold hStoreE at h
  split at h
  · rename_i b' base e idx fo v m hm
    cases hx _ _ _ _ _ rfl
    obtain ⟨o, hc, rest, fz, rfl, hroom⟩ := hM.cells b m hm
    split at h
    · rename_i i n y src z hi hn hp
      split at h
      · rename_i hsz _
        rw [Bool.and_eq_true, Nat.blt_eq] at hsz
        obtain ⟨hsz, h0⟩ := hsz
        have hsz := Nat.eq_of_beq_eq_true hsz
        cases h
        have he := hev _ (.head _)
        simp only [Ev.holds] at he
        obtain ⟨he, hle⟩ := he β
        obtain ⟨p1, p2⟩ := pieceAt_den hp ρ β
        have hl := sizeP_den ρ β hn
        have hlive : m.live β = true := MB.live_fits ⟨rest, fz, rfl, hroom⟩ (by
          intro e0
          rw [p1] at e0
          have e1 := congrArg List.length e0
          simp only [List.length_append, List.length_nil] at e1
          omega)
        have hc := hc hlive
        have hrun := store_run (P := P) (w := w) (off := base + (idx.i ρ).toNat * e + fo) (by simpa using MB.room_fz hroom) hc hi (pcs_den v ρ β) (by rw [hl, hsz]) (by rw [p1]; simp; omega) (densP_one ρ β (pcs v))
        refine ⟨_, hrun, rfl, rfl, ?_⟩
        simp only [setFs]
        have hnew : densP ρ β (y ++ renew src nv :: z) = densP ρ β y ++ ((renew src nv).den ρ β ++ densP ρ β z) := by rw [densP_append]; rfl
        have hnl : ((renew src nv).den ρ β).length = (src.den ρ β).length := by rw [he]; simp; omega
        refine hM.write (m' := ⟨m.ty, y ++ renew src nv :: z, m.cap⟩) hm hlive rfl rfl rfl rfl (by simp) (setRow_heap w (β b) _ _ m.ty fz hc) ⟨rest, fz, ?_, ?_⟩ (fun k hk => setRow_other w (β b) k _ hk)
        · congr 2
          rw [hnew, he, p1]
          have a1 : base + (idx.i ρ).toNat * e + fo = (densP ρ β y).length + ((idx.i ρ).toNat * e + fo) := by omega
          have a2 : (densP ρ β y).length + ((idx.i ρ).toNat * e + fo) + (densP ρ β (pcs v)).length = (densP ρ β y).length + ((idx.i ρ).toNat * e + fo + (densP ρ β (pcs v)).length) := by omega
          rw [a1, a2, List.append_assoc (densP ρ β y), List.take_length_add_append, List.drop_length_add_append]
          rw [List.append_assoc (src.den ρ β), List.take_append_of_le_length (by omega), List.drop_append_of_le_length (by omega)]
          simp
        · have : (densP ρ β (y ++ renew src nv :: z)).length = (densP ρ β m.ps).length := by rw [hnew, p1]; simp [hnl]
          rw [this]; exact hroom
      · cases h
    · cases h
  · cases h
end

/-! ### New blocks -/
def hAlloc (P : Program) (own : Nat) (t : TypeId) (nv : Nat) : R OpRes :=
  match P.info? t with
  | none => .bad "alloc: info"
  | some i => match i.zero with
    | none => .bad "alloc: zero"
    | some z => match SV.ofValue z with
      | none => .bad "alloc: value"
      | some v => .ok ⟨.one (.cell (.ptr own 0)), [(own, some ⟨t, pcs v, none⟩)], [own], nv⟩ []
def hBox (own : Nat) (t : TypeId) (x : SW) (nv : Nat) : R OpRes :=
  match x with
  | .one v => .ok ⟨.one (.cell (.ptr own 0)), [(own, some ⟨t, pcs v, none⟩)], [own], nv⟩ []
  | _ => .bad "box"
section
variable {P : Program} {ρ : Nat → Value} {β : Nat → Nat} {inh : List Nat} {w0 w : World} {mm : Nat → Option MB}

theorem pushRun_ids (c : Cell) (ps : List Piece) : idsP (pushRun c ps) = c.ids ++ idsP ps := by
  unfold pushRun
  split
  · split <;> rfl
  · split <;> rfl
  · rfl
theorem cellsOf_ids [Outer] : ∀ {vs : List Value} {ps : List Piece}, cellsOf vs = some ps → idsP ps = []
  | [], ps, h => by cases h; rfl
  | v :: vs, ps, h => by
    simp only [cellsOf] at h
    split at h
    · cases h
    · rename_i c hc
      split at h
      · cases h
      · rename_i qs hq
        cases h
        have : c.ids = [] := by
          cases v <;> simp only [Cell.ofValue, Option.some.injEq, reduceCtorEq] at hc <;> subst hc <;> rfl
        rw [pushRun_ids, this, cellsOf_ids hq]; rfl
theorem ofValue_ids [Outer] {v : Value} {s : SV} (h : SV.ofValue v = some s) : s.ids = [] := by
  cases v
  case agg cs =>
    simp only [SV.ofValue, Option.map_eq_some_iff] at h
    obtain ⟨ps, hp, rfl⟩ := h
    exact cellsOf_ids hp
  all_goals
    simp only [SV.ofValue, Option.map_eq_some_iff] at h
    obtain ⟨c, hc, rfl⟩ := h
    simp only [Cell.ofValue, Option.some.injEq, reduceCtorEq] at hc
  all_goals (subst hc; rfl)

theorem new_run [Outer] {own : Nat} {t : TypeId} {v : SV} (hM : Mrel ρ β inh w0 mm w) (hF : FreshM mm [own]) (hv : own ∉ v.ids) (z : Value) (hz : z.cells = (v.den ρ β).cells) :
    ∃ w' β', (∀ i, i ∉ [own] → β' i = β i) ∧ (newVar t z).run P w = .ok ⟨β' own, 0, none⟩ w' ∧ Mrel ρ β' inh w0 (setF mm own (some ⟨t, pcs v, none⟩)) w' := by
  have hd : densP ρ (ext β own w.heap.size) (pcs v) = densP ρ β (pcs v) := densP_names fun i hi => ext_ne fun e => hv (by rw [← idsP_pcs, ← e]; exact hi)
  refine ⟨w.alloc (.cells (densP ρ β (pcs v)).toArray t), ext β own w.heap.size, fun i hi => ext_ne (by simpa using hi), ?_, hM.alloc hF ⟨t, pcs v, none⟩ _ ⟨[], (0, 0), ?_, rfl, rfl⟩⟩
  · rw [ext_self]
    simp [newVar, newRow, hz, pcs_den]
  · rw [hd]; simp
end

/-! ### Composite values -/
def fillP (place : Nat → Option (Nat × Nat)) (ps : List Piece) : List (Nat × SW) → Option (List Piece)
  | [] => some ps
  | (i, x) :: rest =>
    match x, place i with
    | .one v, some (off, size) =>
      match sizeP (pcs v) with
      | none => none
      | some n => if Nat.beq n size then match splice ps off n (pcs v) with
          | none => none
          | some ps' => fillP place ps' rest
        else none
    | _, _ => none
def hBuild (P : Program) (t : TypeId) (parts : List (Nat × SW)) (nv : Nat) : R OpRes :=
  match P.info? t, P.underlying t with
  | some it, some (.array _ e) =>
    match it.zero, P.info? e with
    | some z, some ie => match SV.ofValue z with
      | none => .bad "build: zero"
      | some zv => match fillP (fun i => some (i * ie.size, ie.size)) (pcs zv) parts with
        | none => .bad "build: fill"
        | some ps => okV (.one (.agg ps)) nv
    | _, _ => .bad "build: array"
  | some it, some (.struct fields) =>
    match it.zero, fields.toList.mapM (fun f => (P.info? f.type).map fun i => (f.offset, i.size)) with
    | some z, some places => match SV.ofValue z with
      | none => .bad "build: zero"
      | some zv => match fillP (places.toArray[·]?) (pcs zv) parts with
        | none => .bad "build: fill"
        | some ps => okV (.one (.agg ps)) nv
    | _, _ => .bad "build: struct"
  | _, _ => .bad "build: type"
theorem fold_set (off : Nat) : ∀ (vs : List Value) (k : Nat) (cs : Array Value), off + k + vs.length ≤ cs.size →
    (vs.zipIdx k).foldl (fun cs (x : Value × Nat) => cs.setIfInBounds (off + x.2) x.1) cs = (cs.toList.take (off + k) ++ vs ++ cs.toList.drop (off + k + vs.length)).toArray
  | [], k, cs, _ => by simp
  | v :: vs, k, cs, h => by
    simp only [List.length_cons] at h
    rw [List.zipIdx_cons, List.foldl_cons, fold_set off vs (k + 1) _ (by simp; omega)]
    congr 1
    simp only [Array.toList_setIfInBounds, List.length_cons]
    have h1 : off + (k + 1) = (off + k) + 1 := by omega
    have h2 : off + k + (vs.length + 1) = off + k + 1 + vs.length := by omega
    have hlt : off + k < cs.toList.length := by simp; omega
    rw [h1, h2, List.take_succ_eq_append_getElem (by simpa using hlt), List.take_set_of_le (by omega), List.drop_set_of_lt (by omega)]
    simp
theorem fillP_den [Outer] (ρ : Nat → Value) (β : Nat → Nat) (place : Nat → Option (Nat × Nat)) : ∀ {parts : List (Nat × SW)} {ps qs : List Piece}, fillP place ps parts = some qs →
    Instr.fill place (densP ρ β ps).toArray (parts.map fun x => (x.1, x.2.den ρ β)) = some (densP ρ β qs).toArray
  | [], ps, qs, h => by cases h; rfl
  | (i, x) :: rest, ps, qs, h => by
    simp only [fillP] at h
    split at h
    · rename_i v off size hp
      split at h
      · cases h
      · rename_i n hn
        split at h
        · rename_i hsz
          have hsz := Nat.eq_of_beq_eq_true hsz
          subst hsz
          split at h
          · cases h
          · rename_i ps' hs
            obtain ⟨e1, e2⟩ := splice_den hs ρ β
            have hl := sizeP_den ρ β hn
            have ih := fillP_den ρ β place h
            simp only [List.map_cons, Instr.fill, hp, SW.den_one, pcs_den]
            rw [if_neg (by simp [hl]; exact e2)]
            rw [← Array.foldl_toList, Array.toList_zipIdx]
            have := fold_set off (densP ρ β (pcs v)) 0 (densP ρ β ps).toArray (by simp [hl]; exact e2)
            simp only [Nat.add_zero] at this
            rw [this, ← ih, e1, hl]
        · cases h
    · cases h
theorem hBuild_built [Outer] {P : Program} {t : TypeId} {parts : List (Nat × SW)} {nv : Nat} {res : OpRes} {evs : List Ev} (h : hBuild P t parts nv = .ok res evs) (ρ : Nat → Value) (β : Nat → Nat) :
    ∃ cs, P.built t (parts.map fun x => (x.1, x.2.den ρ β)) = some cs ∧ res.val.den ρ β = .agg cs ∧ res.upd = [] ∧ res.news = [] := by
  have hz : ∀ {z : Value} {zv : SV}, SV.ofValue z = some zv → z.cells = (densP ρ β (pcs zv)).toArray := fun {z zv} hv => by rw [← pcs_den, SV.ofValue_den hv]
  unfold hBuild at h
  unfold Program.built
  split at h
  · rename_i it n e hi hu
    split at h
    · rename_i z ie hzz hie
      split at h
      · cases h
      · rename_i zv hv
        split at h
        · cases h
        · rename_i ps hp
          simp only [okV] at h
          cases h
          refine ⟨_, ?_, rfl, rfl, rfl⟩
          simp only [hi, hu, hzz, hie, hz hv]
          exact fillP_den ρ β _ hp
    · cases h
  · rename_i it fs hi hu
    split at h
    · rename_i z places hzz hpl
      split at h
      · cases h
      · rename_i zv hv
        split at h
        · cases h
        · rename_i ps hp
          simp only [okV] at h
          cases h
          refine ⟨_, ?_, rfl, rfl, rfl⟩
          simp only [hi, hu, hzz, hpl, hz hv]
          exact fillP_den ρ β _ hp
    · cases h
  · cases h
end Go.Proofs.YteemnnajfiimlaaDoor.Sx
