/- Symbolic execution: calls. No program is named here. -/
import Derived.Test.YteemnnajfiimlaaDoorSxF
namespace Go.Proofs.YteemnnajfiimlaaDoor.Sx
open Go.RowKit

def someM (l : List (Nat × MB)) : Mem := l.map fun x => (x.1, some x.2)
theorem setFs_append : ∀ (a b : Mem) (g : Nat → Option MB), setFs g (a ++ b) = setFs (setFs g a) b
  | [], _, _ => rfl
  | (i, m) :: a, b, g => by simp only [List.cons_append, setFs, setFs_append a b]
theorem setFs_some : ∀ (l : List (Nat × MB)) (g : Nat → Option MB) (i : Nat) (m : MB), (l.map (·.1)).Nodup → setFs g (someM l) i = some m → (i, m) ∈ l ∨ (i ∉ l.map (·.1) ∧ g i = some m) := by
  intro l
  induction l with
  | nil => intro g i m _ hs; exact .inr ⟨by simp, hs⟩
  | cons x l ih =>
    intro g i m hn hs
    simp only [List.map_cons, List.nodup_cons] at hn
    rcases ih (setF g x.1 (some x.2)) i m hn.2 hs with h' | ⟨h1, h2⟩
    · exact .inl (.tail _ h')
    · unfold setF at h2
      split at h2
      · rename_i hi; cases h2; subst hi; exact .inl (.head _)
      · rename_i hi; exact .inr ⟨by simp [hi]; simpa using h1, h2⟩

/-- Turned blocks, by number: what becomes of the named memory. -/
theorem Mrel.turned [Outer] {ρ : Nat → Value} {β : Nat → Nat} {inh : List Nat} {w0 w w' : World} {mm : Nat → Option MB} (h : Mrel ρ β inh w0 mm w) {pre post : List (Nat × MB)} (hpre : ∀ x ∈ pre, mm x.1 = some x.2)
    (hids : post.map (fun x => (x.1, x.2.cap)) = pre.map (fun x => (x.1, x.2.cap))) (hnd : (pre.map (·.1)).Nodup) (ht : Turned (liveIds β pre) w w') (hpost : ∀ x ∈ post, ∃ o, (x.2.live β = true → w'.heap[β x.1]? = some o) ∧ x.2.fits ρ β o) : Mrel ρ β inh w0 (setFs mm (someM post)) w' := by
  have hmem : ∀ x ∈ post, ∃ m, mm x.1 = some m ∧ m.live β = x.2.live β := fun x hx => by
    have : (x.1, x.2.cap) ∈ pre.map (fun x => (x.1, x.2.cap)) := by rw [← hids]; exact List.mem_map_of_mem (f := fun x : Nat × MB => (x.1, x.2.cap)) hx
    obtain ⟨y, hy, e⟩ := List.mem_map.1 this
    cases Prod.mk.inj e with
    | intro e1 e2 => exact ⟨y.2, e1 ▸ hpre y hy, by unfold MB.live; rw [e2]⟩
  have hid1 : post.map (·.1) = pre.map (·.1) := by
    have := congrArg (List.map Prod.fst) hids
    simpa [List.map_map, Function.comp_def] using this
  have hndp : (post.map (·.1)).Nodup := by rw [hid1]; exact hnd
  have hold : ∀ i m, setFs mm (someM post) i = some m → ∃ m0, mm i = some m0 ∧ m0.live β = m.live β := fun i m hm => by
    rcases setFs_some post mm i m hndp hm with h' | ⟨_, h'⟩
    · exact hmem _ h'
    · exact ⟨m, h', rfl⟩
  refine ⟨ht.os.trans h.os, ht.tape.trans h.tape, ht.output.trans h.output, Nat.le_trans h.size ht.size, fun k hk hi => ?_, fun i m hm => ?_, fun i m hm hl => ?_, fun i j m m' hm hm' l l' e => ?_, h.ro⟩
  · rw [ht.block k (Nat.lt_of_lt_of_le hk h.size) fun hc => ?_]
    · exact h.old k hk hi
    · obtain ⟨x, hx, hl, rfl⟩ := liveIds_mem.1 hc
      rcases h.own _ _ (hpre x hx) hl with ho | ho
      · omega
      · exact hi ho
  · rcases setFs_some post mm i m hndp hm with h' | ⟨hn, h'⟩
    · exact hpost (i, m) h'
    · obtain ⟨o, ho, hf⟩ := h.cells i m h'
      refine ⟨o, fun hl => ?_, hf⟩
      rw [ht.block _ (h.lt h' hl) fun hc' => ?_]
      · exact ho hl
      · obtain ⟨x, hx, hlx, e⟩ := liveIds_mem.1 hc'
        have := h.inj _ _ _ _ (hpre x hx) h' hlx hl e
        exact hn (by rw [hid1]; exact List.mem_map.2 ⟨x, hx, this⟩)
  · obtain ⟨m0, h0, e0⟩ := hold i m hm
    exact h.own i m0 h0 (by rw [e0]; exact hl)
  · obtain ⟨m0, h0, e0⟩ := hold i m hm
    obtain ⟨m1, h1, e1⟩ := hold j m' hm'
    exact h.inj i j m0 m1 h0 h1 (by rw [e0]; exact l) (by rw [e1]; exact l') e

/-- New blocks are named. -/
theorem Mrel.adds [Outer] {ρ : Nat → Value} {β : Nat → Nat} {inh : List Nat} {w0 w : World} (n : Nat) (hn : w0.heap.size ≤ n) : ∀ (news : List (Nat × MB)) (mm : Nat → Option MB), Mrel ρ β inh w0 mm w → (news.map (·.1)).Nodup → (∀ x ∈ news, mm x.1 = none) →
    (∀ i m, mm i = some m → m.live β = true → ∀ x ∈ news, x.2.live β = true → β i ≠ β x.1) → (∀ x ∈ news, (x.2.live β = true → n ≤ β x.1) ∧ ∃ o, (x.2.live β = true → w.heap[β x.1]? = some o) ∧ x.2.fits ρ β o) → (∀ x ∈ news, ∀ y ∈ news, x.2.live β = true → y.2.live β = true → β x.1 = β y.1 → x.1 = y.1) → Mrel ρ β inh w0 (setFs mm (someM news)) w
  | [], mm, h, _, _, _, _, _ => h
  | (i, m) :: news, mm, h, hnd, hno, hne, hf, hinj => by
    simp only [List.map_cons, List.nodup_cons] at hnd
    obtain ⟨hge, o, ho, hfit⟩ := hf (i, m) (.head _)
    have h1 := h.add (n := i) (m := m) (o := o) (hno (i, m) (.head _)) ho hfit (fun hl => .inl (Nat.le_trans hn (hge hl))) (fun hl j x hx hlx => hne j x hx hlx (i, m) (.head _) hl)
    refine Mrel.adds n hn news (setF mm i (some m)) h1 hnd.2 (fun x hx => ?_) (fun j x hx hlx y hy hly => ?_) (fun x hx => hf x (.tail _ hx)) (fun x hx y hy => hinj x (.tail _ hx) y (.tail _ hy))
    · unfold setF
      split
      · rename_i e; exact absurd (by rw [← e]; exact List.mem_map_of_mem hx) hnd.1
      · exact hno x (.tail _ hx)
    · unfold setF at hx
      split at hx
      · rename_i e
        subst e
        cases hx
        intro hb
        have := hinj (j, m) (.head _) y (.tail _ hy) hlx hly hb
        exact hnd.1 (by rw [show j = y.1 from this]; exact List.mem_map_of_mem hy)
      · exact hne j x hx hlx y (.tail _ hy) hly

/-! ### The shape of what a call gives -/
def sliceOf (P : Program) (t : TypeId) : Option Nat :=
  match P.underlying t with
  | some (.slice e) => match P.info? e with
    | some i => some i.size
    | none => none
  | _ => none
def elemT (P : Program) (t : TypeId) : TypeId :=
  match P.underlying t with
  | some (.slice e) => e
  | _ => 0
/-- Results: a list is a new block of unknown cells. -/
def shapeVs (P : Program) (cfg : Cfg) : List TypeId → Nat → Nat → Option (List SV × List (Nat × MB) × Nat × Nat)
  | [], nv, nx => some ([], [], nv, nx)
  | t :: ts, nv, nx => match sliceOf P t with
    | some e => match shapeVs P cfg ts (nv + 2) (nx + 2) with
      | none => none
      | some (vs, ms, nv', nx') => some (.cell (.sl nx (nx + 1) (.v nv)) :: vs, (nx, ⟨elemT P t, [.all (nv + 1)], some (nx + 1, e)⟩) :: ms, nv', nx')
    | none => match shapeV P cfg t nv with
      | none => none
      | some (v, nv1) => match shapeVs P cfg ts nv1 nx with
        | none => none
        | some (vs, ms, nv', nx') => some (v :: vs, ms, nv', nx')
def tupled : List SV → SW
  | [v] => .one v
  | vs => .tuple vs

/-! ### Calls -/
def svsOf : List SW → Option (List SV)
  | [] => some []
  | .one v :: rest => match svsOf rest with
    | some vs => some (v :: vs)
    | none => none
  | _ :: _ => none
def capsV (caps : List (Nat × Nat)) : List SV := caps.map fun c => .cell (.ptr c.1 c.2)
def lookEff (f : FuncId) : List (FuncId × List (Nat × List (Nat × Sh))) → Option (List (Nat × List (Nat × Sh)))
  | [] => none
  | (g, s) :: rest => if Nat.beq f g then some s else lookEff f rest
def memN (i : Nat) : List Nat → Bool
  | [] => false
  | j :: l => Nat.beq i j || memN i l
def dedup : List Nat → List Nat
  | [] => []
  | i :: l => if memN i l then dedup l else i :: dedup l
def withIds : List Nat → List (Option MB) → Option (List (Nat × MB))
  | [], [] => some []
  | i :: is, some m :: ms => match withIds is ms with
    | some l => some ((i, m) :: l)
    | none => none
  | _, _ => none
def turnCells : List (Nat × Sh) → List Piece → Nat → Option (List Piece × Nat)
  | [], ps, nv => some (ps, nv)
  | (off, sh) :: rest, ps, nv => match splice ps off 1 [shP sh nv] with
    | none => none
    | some ps' => turnCells rest ps' (nv + 1)
def turnOne (id : Nat) (cs : List (Nat × Sh)) : List (Nat × MB) → Nat → Option (List (Nat × MB) × Nat)
  | [], _ => none
  | (i, m) :: rest, nv => if Nat.beq i id then match turnCells cs m.ps nv with
      | none => none
      | some (ps, nv') => some ((i, ⟨m.ty, ps, m.cap⟩) :: rest, nv')
    else match turnOne id cs rest nv with
      | none => none
      | some (rest', nv') => some ((i, m) :: rest', nv')
def turnMem (args : List SV) : List (Nat × List (Nat × Sh)) → List (Nat × MB) → Nat → Option (List (Nat × MB) × Nat)
  | [], mem, nv => some (mem, nv)
  | (p, cs) :: rest, mem, nv => match args[p]? with
    | some (.cell (.ptr b _)) => match turnOne b cs mem nv with
      | none => none
      | some (mem', nv') => turnMem args rest mem' nv'
    | _ => none
def isNil : List Nat → Bool
  | [] => true
  | _ => false
/-- All names are below n, or among the k new ones. -/
def ltAll (n : Nat) : List Nat → Bool
  | [] => true
  | i :: l => Nat.blt i n && ltAll n l
def idsMs : List (Nat × MB) → List Nat
  | [] => []
  | (i, m) :: l => i :: (m.ids ++ idsMs l)
def nodupN : List Nat → Bool
  | [] => true
  | i :: l => !memN i l && nodupN l
def hCall (P : Program) (cfg : Cfg) (own : Nat) (f : FuncId) (caps : List (Nat × Nat)) (args : List SW) (ids : List Nat) (mbs : List (Option MB)) (nv : Nat) : R OpRes :=
  match P.funcs[f]?, svsOf args with
  | some fn, some vs => match fn.body.isSome, shapeVs P cfg fn.resultTypes.toList nv own with
    | true, some (rs, news, nv', nx') => match lookEff f cfg.eff with
      | none => match isNil (idsV (vs ++ capsV caps)) && Nat.beq nx' own with
        | true => .ok ⟨tupled rs, [], [], nv'⟩ [.call f (vs ++ capsV caps) (tupled rs) (nv' - nv)]
        | false => .bad "call: pointers"
      | some spec => match withIds ids mbs with
        | none => .bad "call: memory"
        | some pre => match turnMem (vs ++ capsV caps) spec pre nv' with
          | none => .bad "call: turn"
          | some (post, nv'') => match ltAll nx' ((tupled rs).ids ++ idsMs post ++ idsMs news) && ltAll own (idsMs pre ++ idsMs post) && nodupN (news.map (·.1)) && Nat.ble own nx' && (news.map (·.1)).all (Nat.ble own) with
            | true => .ok ⟨tupled rs, someM post ++ someM news, List.range' own (nx' - own), nv''⟩ [.turn own f (vs ++ capsV caps) pre post news (tupled rs) (nv'' - nv)]
            | false => .bad "call: names"
    | _, _ => .bad "call: shape"
  | _, _ => .bad "call"

section
variable {P : Program} {ρ : Nat → Value} {β : Nat → Nat} {inh : List Nat} {w0 w : World} {mm : Nat → Option MB}

theorem svsOf_den : ∀ {l : List SW} {vs : List SV}, svsOf l = some vs → l.map (·.den ρ β) = vs.map (·.den ρ β)
  | [], vs, h => by cases h; rfl
  | x :: l, vs, h => by
    unfold svsOf at h
    split at h
    · rename_i heq; cases heq
    · rename_i v rest heq
      cases heq
      split at h
      · rename_i qs hq
        cases h
        simp only [List.map_cons, svsOf_den hq, SW.den_one]
      · cases h
    · cases h
theorem capsV_den (caps : List (Nat × Nat)) : (capsV caps).map (·.den ρ β) = caps.map fun c => Value.pointer (some ⟨β c.1, c.2, none⟩) := by
  simp only [capsV, List.map_map]; rfl
theorem memN_iff {i : Nat} : ∀ {l : List Nat}, memN i l = true ↔ i ∈ l
  | [] => by simp [memN]
  | j :: l => by simp [memN, memN_iff (l := l)]
theorem nodupN_iff [Outer] : ∀ {l : List Nat}, nodupN l = true → l.Nodup
  | [], _ => .nil
  | i :: l, h => by
    simp only [nodupN, Bool.and_eq_true, Bool.not_eq_true'] at h
    exact List.nodup_cons.2 ⟨fun hc => (by have := h.1; rw [memN_iff.2 hc] at this; cases this), nodupN_iff h.2⟩
theorem ltAll_iff {n : Nat} : ∀ {l : List Nat}, ltAll n l = true → ∀ i ∈ l, i < n
  | [], _, i, hi => by cases hi
  | j :: l, h, i, hi => by
    simp only [ltAll, Bool.and_eq_true, Nat.blt_eq] at h
    rcases List.mem_cons.1 hi with rfl | hi
    · exact h.1
    · exact ltAll_iff h.2 i hi
theorem idsMs_mem {i : Nat} {m : MB} : ∀ {l : List (Nat × MB)}, (i, m) ∈ l → i ∈ idsMs l ∧ ∀ j ∈ m.ids, j ∈ idsMs l
  | (k, m') :: l, h => by
    rcases List.mem_cons.1 h with h | h
    · cases h
      exact ⟨by simp [idsMs], fun j hj => by simp [idsMs, hj]⟩
    · obtain ⟨h1, h2⟩ := idsMs_mem h
      exact ⟨by simp [idsMs, h1], fun j hj => by simp [idsMs, h2 j hj]⟩
  | [], h => by cases h
theorem mem_dedup [Outer] {i : Nat} : ∀ {l : List Nat}, i ∈ dedup l ↔ i ∈ l
  | [] => by simp [dedup]
  | j :: l => by
    simp only [dedup]
    split
    · rename_i h
      have h := memN_iff.1 h
      rw [mem_dedup (l := l)]
      constructor
      · exact .tail _
      · intro h'; rcases List.mem_cons.1 h' with rfl | h'
        · exact h
        · exact h'
    · simp [mem_dedup (l := l)]
theorem dedup_nodup [Outer] : ∀ (l : List Nat), (dedup l).Nodup
  | [] => .nil
  | j :: l => by
    simp only [dedup]
    split
    · exact dedup_nodup l
    · rename_i h
      refine List.nodup_cons.2 ⟨fun hc => h (memN_iff.2 (mem_dedup.1 hc)), dedup_nodup l⟩
theorem withIds_eq : ∀ {ids : List Nat} {pre : List (Nat × MB)}, withIds ids (ids.map mm) = some pre → pre.map (·.1) = ids ∧ ∀ x ∈ pre, mm x.1 = some x.2
  | [], pre, h => by cases h; exact ⟨rfl, by simp⟩
  | i :: ids, pre, h => by
    simp only [List.map_cons] at h
    cases hm : mm i with
    | none => rw [hm] at h; cases h
    | some m =>
      rw [hm] at h
      simp only [withIds] at h
      split at h
      · rename_i l hl
        cases h
        obtain ⟨e1, e2⟩ := withIds_eq hl
        refine ⟨by simp [e1], fun x hx => ?_⟩
        rcases List.mem_cons.1 hx with rfl | hx
        · exact hm
        · exact e2 x hx
      · cases h
theorem turnOne_ids {id : Nat} {cs : List (Nat × Sh)} : ∀ {mem : List (Nat × MB)} {nv : Nat} {mem' : List (Nat × MB)} {nv' : Nat}, turnOne id cs mem nv = some (mem', nv') → mem'.map (fun x => (x.1, x.2.cap)) = mem.map (fun x => (x.1, x.2.cap))
  | [], _, _, _, h => by cases h
  | (i, m) :: rest, nv, mem', nv', h => by
    simp only [turnOne] at h
    split at h
    · split at h
      · cases h
      · cases h; rfl
    · split at h
      · cases h
      · rename_i hr
        cases h
        simp only [List.map_cons, turnOne_ids hr]
theorem turnMem_ids [Outer] {args : List SV} : ∀ {spec : List (Nat × List (Nat × Sh))} {mem : List (Nat × MB)} {nv : Nat} {mem' : List (Nat × MB)} {nv' : Nat}, turnMem args spec mem nv = some (mem', nv') → mem'.map (fun x => (x.1, x.2.cap)) = mem.map (fun x => (x.1, x.2.cap))
  | [], _, _, _, _, h => by cases h; rfl
  | (p, cs) :: rest, mem, nv, mem', nv', h => by
    simp only [turnMem] at h
    split at h
    · split at h
      · cases h
      · rename_i ho
        rw [turnMem_ids h, turnOne_ids ho]
    · cases h

theorem turnMem_ids1 [Outer] {args : List SV} {spec : List (Nat × List (Nat × Sh))} {mem : List (Nat × MB)} {nv : Nat} {mem' : List (Nat × MB)} {nv' : Nat} (h : turnMem args spec mem nv = some (mem', nv')) : mem'.map (·.1) = mem.map (·.1) := by
  have := congrArg (List.map Prod.fst) (turnMem_ids h)
  simpa [List.map_map, Function.comp_def] using this
theorem hCall_run [Outer] {cfg : Cfg} {own : Nat} {f : FuncId} {caps : List (Nat × Nat)} {args : List SW} {ids : List Nat} {nv : Nat} {res : OpRes} {evs : List Ev} (hnd : ids.Nodup)
    (h : hCall P cfg own f caps args ids (ids.map mm) nv = .ok res evs) (hev : Holds P ρ evs) (hM : Mrel ρ β inh w0 mm w) (hF : FreshM mm res.news) :
    ∃ fn, P.funcs[f]? = some fn ∧ fn.body.isSome = true ∧
      Calls P f ((args.map (·.den ρ β)).toArray ++ (caps.map fun c => Value.pointer (some ⟨β c.1, c.2, none⟩)).toArray) w fun e w' => ∃ β', (∀ i, i ∉ res.news → β' i = β i) ∧ e = .returned (res.val.den ρ β') ∧ Mrel ρ β' inh w0 (setFs mm res.upd) w' := by
  unfold hCall at h
  split at h
  · rename_i fn vs hfn hvs
    have hargs : (args.map (·.den ρ β)).toArray ++ (caps.map fun c => Value.pointer (some ⟨β c.1, c.2, none⟩)).toArray = denV ρ β (vs ++ capsV caps) := by
      simp only [denV, List.map_append, svsOf_den hvs, capsV_den]
      simp
    rw [hargs]
    split at h
    · rename_i rs news nv' nx' hb hsh
      split at h
      · split at h
        · cases h
          have hc := hev _ (.head _)
          simp only [Ev.holds] at hc
          exact ⟨fn, hfn, hb, (hc β w).mono fun e w' ⟨he, hbw⟩ => ⟨β, fun _ _ => rfl, he, hM.later hbw⟩⟩
        · cases h
      · split at h
        · cases h
        · rename_i pre hpre
          split at h
          · cases h
          · rename_i post nv'' hpost
            split at h
            · rename_i hok
              cases h
              simp only [Bool.and_eq_true, Nat.ble_eq] at hok
              obtain ⟨⟨⟨⟨ok1, ok2⟩, ok3⟩, ok4⟩, ok5⟩ := hok
              have hc := hev _ (.head _)
              simp only [Ev.holds] at hc
              obtain ⟨e1, e2⟩ := withIds_eq hpre
              have hinj : ∀ x ∈ pre, ∀ y ∈ pre, x.2.live β = true → y.2.live β = true → β x.1 = β y.1 → x.1 = y.1 := fun x hx y hy l l' e => hM.inj _ _ _ _ (e2 x hx) (e2 y hy) l l' e
              have hw : ∀ x ∈ pre, ∃ o, (x.2.live β = true → w.heap[β x.1]? = some o) ∧ x.2.fits ρ β o := fun x hx => hM.cells _ _ (e2 x hx)
              have hro : ∀ x ∈ Outer.r, w.heap[x.1]? = some x.2 ∧ ∀ y ∈ pre, y.2.live β = true → β y.1 ≠ x.1 := fun x hx => hM.outer hx fun y hy => e2 y hy
              have hin : ∀ i, i ∈ List.range' own (nx' - own) ↔ own ≤ i ∧ i < nx' := fun i => by rw [List.mem_range'_1]; omega
              refine ⟨fn, hfn, hb, (hc β hinj w hro hw).mono fun e w' ⟨β', hβ, he, ht, hp, hn, hd⟩ => ?_⟩
              -- the same names elsewhere
              let γ : Nat → Nat := fun i => if own ≤ i ∧ i < nx' then β' i else β i
              have hγ' : ∀ i, i < nx' → γ i = β' i := fun i hi => by
                simp only [γ]
                split
                · rfl
                · exact (hβ i (by omega)).symm
              have hγ : ∀ i, i ∉ List.range' own (nx' - own) → γ i = β i := fun i hi => by
                simp only [γ]
                rw [if_neg fun hc => hi ((hin i).2 hc)]
              have hlo : ∀ i, i < own → γ i = β i := fun i hi => hγ i fun hc => by have := (hin i).1 hc; omega
              have hval : (tupled rs).den ρ γ = (tupled rs).den ρ β' := SW.den_names fun i hi => hγ' i (ltAll_iff ok1 i (by simp [hi]))
              refine ⟨γ, hγ, by rw [hval]; exact he, ?_⟩
              rw [setFs_append]
              have hM1 : Mrel ρ γ inh w0 mm w := hM.names fun i m hm => ⟨hγ i (hF i m hm).1, fun j hj => hγ j ((hF i m hm).2 j hj)⟩
              have hM2 : Mrel ρ γ inh w0 (setFs mm (someM post)) w' := by
                refine hM1.turned e2 (turnMem_ids hpost) (by rw [e1]; exact hnd) ?_ fun x hx => ?_
                · have : liveIds γ pre = liveIds β pre := liveIds_congr fun x hx => by
                    have hxi := idsMs_mem (i := x.1) (m := x.2) hx
                    exact ⟨hlo _ (ltAll_iff ok2 _ (by simp [hxi.1])), MB.live_names fun j hj => hlo _ (ltAll_iff ok2 _ (by simp [hxi.2 j hj]))⟩
                  rw [this]; exact ht
                · obtain ⟨o, ho, hf⟩ := hp x hx
                  have hxi := idsMs_mem (i := x.1) (m := x.2) hx
                  exact ⟨o, by rw [hlo _ (ltAll_iff ok2 _ (by simp [hxi.1])), MB.live_names (fun j hj => hγ' j (ltAll_iff ok1 j (by simp [hxi.2 j hj])))]; exact ho, MB.fits_names (fun j hj => hγ' j (ltAll_iff ok1 j (by simp [hxi.2 j hj]))) hf⟩
              have hlive : ∀ x ∈ news, x.2.live γ = x.2.live β' := fun x hx => MB.live_names fun j hj => hγ' j (ltAll_iff ok1 j (by simp [(idsMs_mem (i := x.1) (m := x.2) hx).2 j hj]))
              refine Mrel.adds w.heap.size hM.size news _ hM2 (nodupN_iff ok3) (fun x hx => ?_) (fun i m hm hlm x hx hlx => ?_) (fun x hx => ?_) (fun x hx y hy lx ly e => ?_)
              · have hge : own ≤ x.1 := by simpa [Nat.ble_eq] using List.all_eq_true.1 ok5 x.1 (List.mem_map_of_mem hx)
                have hlt : x.1 < nx' := ltAll_iff ok1 _ (by simp [(idsMs_mem (i := x.1) (m := x.2) hx).1])
                cases hs : setFs mm (someM post) x.1 with
                | none => rfl
                | some m =>
                  exfalso
                  rcases setFs_some post mm x.1 m (by rw [turnMem_ids1 hpost, e1]; exact hnd) hs with h' | ⟨_, h'⟩
                  · have := ltAll_iff ok2 _ (List.mem_append_right _ (idsMs_mem h').1); omega
                  · exact (hF x.1 m h').1 ((hin _).2 ⟨hge, hlt⟩)
              · have hlt : x.1 < nx' := ltAll_iff ok1 _ (by simp [(idsMs_mem (i := x.1) (m := x.2) hx).1])
                have h1 := (hn x hx).1 (by rw [← hlive x hx]; exact hlx)
                rw [← hγ' _ hlt] at h1
                have h2 : γ i < w.heap.size := by
                  rcases setFs_some post mm i m (by rw [turnMem_ids1 hpost, e1]; exact hnd) hm with h' | ⟨_, h'⟩
                  · have : (i, m.cap) ∈ pre.map (fun x => (x.1, x.2.cap)) := by rw [← turnMem_ids hpost]; exact List.mem_map.2 ⟨_, h', rfl⟩
                    obtain ⟨y, hy, e⟩ := List.mem_map.1 this
                    obtain ⟨a1, a2⟩ := Prod.mk.inj e
                    rw [← a1]
                    exact hM1.lt (e2 y hy) (by unfold MB.live at hlm ⊢; rw [a2]; exact hlm)
                  · exact hM1.lt h' hlm
                omega
              · have hxi := idsMs_mem (i := x.1) (m := x.2) hx
                obtain ⟨h1, o, ho, hf⟩ := hn x hx
                have hlt : x.1 < nx' := ltAll_iff ok1 _ (by simp [hxi.1])
                rw [hγ' _ hlt, hlive x hx]
                exact ⟨h1, o, ho, MB.fits_names (fun j hj => hγ' j (ltAll_iff ok1 j (by simp [hxi.2 j hj]))) hf⟩
              · rw [hγ' _ (ltAll_iff ok1 _ (by simp [(idsMs_mem (i := x.1) (m := x.2) hx).1])), hγ' _ (ltAll_iff ok1 _ (by simp [(idsMs_mem (i := y.1) (m := y.2) hy).1]))] at e
                exact hd x hx y hy (by rw [← hlive x hx]; exact lx) (by rw [← hlive y hy]; exact ly) e
            · cases h
    · cases h
  · cases h
end
end Go.Proofs.YteemnnajfiimlaaDoor.Sx
