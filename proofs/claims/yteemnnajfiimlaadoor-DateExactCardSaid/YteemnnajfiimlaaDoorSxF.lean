/- Symbolic execution: places, parts, conversions. No program is named here. -/
import Derived.Test.YteemnnajfiimlaaDoorSxE
namespace Go.Proofs.YteemnnajfiimlaaDoor.Sx
open Go.RowKit

def hUn (nowrap : Bool) (op : UnOp) (x : SW) (nv : Nat) : R OpRes :=
  match op, x with
  | .neg, .one (.cell (.int k a)) => .ok ⟨.one (.cell (.int k (arT (nowrap && k.signed) .sub k (.lit 0) a))), [], [], nv⟩ (arE (nowrap && k.signed) .sub k (.lit 0) a)
  | .xor, .one (.cell (.int k a)) => okC (.int k (arT false .xor k (.lit (if k.signed then -1 else k.max)) a)) nv
  | .not, .one (.cell (.bool b)) => okC (.bool (mkNo b)) nv
  | _, _ => .bad "unary"
/-- Conversions that are exact but for a known range. -/
def mayFit (k0 k : IntKind) : Bool := Nat.ble k0.bits k.bits && (k0.signed || !k.signed || !(Nat.beq k0.bits k.bits))
def cvT (nowrap : Bool) (k : IntKind) (a : Tm) : Tm :=
  match litT a with
  | some m => .lit (k.wrap m)
  | none => match nowrap with
    | true => a
    | false => .cnv k a
def cvE (nowrap : Bool) (k : IntKind) (a : Tm) : List Ev :=
  match litT a with
  | some _ => []
  | none => match nowrap with
    | true => [.fits k a]
    | false => []
def hConv (P : Program) (nowrap : Bool) (src dst : TypeId) (x : SW) (nv : Nat) : R OpRes :=
  match P.underlying src, P.underlying dst with
  | some _, some (.int k) => match x with
    | .one (.cell (.int k0 a)) => .ok ⟨.one (.cell (.int k (cvT (nowrap && mayFit k0 k) k a))), [], [], nv⟩ (cvE (nowrap && mayFit k0 k) k a)
    | _ => .bad "convert: int"
  | some _, some .string => match x with
    | .one (.cell (.str s)) => okC (.str s) nv
    | _ => .bad "convert: string"
  | _, _ => .bad "convert"
def fieldOf (P : Program) (t : TypeId) (f : Nat) : Option (Field × Nat) :=
  match P.underlying t with
  | some (.struct fields) => match fields[f]? with
    | some fd => match P.info? fd.type with
      | some i => some (fd, i.size)
      | none => none
    | none => none
  | _ => none
def hFieldAddr (P : Program) (t : TypeId) (x : SW) (f nv : Nat) : R OpRes :=
  match x, fieldOf P t f with
  | .one (.cell (.ptr b off)), some (fd, n) => match Nat.beq n 0 with
    | true => .bad "field: empty"
    | false => okC (.ptr b (off + fd.offset)) nv
  | .one (.cell (.eptr b base e idx fo)), some (fd, n) => match Nat.beq n 0 with
    | true => .bad "field: empty"
    | false => okC (.eptr b base e idx (fo + fd.offset)) nv
  | _, _ => .bad "fieldAddr"
/-- A part of type t from place off on of a composite value. -/
def partP (P : Program) (t : TypeId) (n : Nat) (ps : List Piece) (off : Nat) : Option SV :=
  match P.underlying t with
  | none => none
  | some d => match d.isRow with
    | true => match slice ps off n with
      | some qs => some (.agg qs)
      | none => none
    | false => match slice ps off 1 with
      | some qs => match asCell qs with
        | some c => some (.cell c)
        | none => none
      | none => none
def hField (P : Program) (t : TypeId) (x : SW) (f nv : Nat) : R OpRes :=
  match x, fieldOf P t f with
  | .one (.agg ps), some (fd, n) => match partP P fd.type n ps fd.offset with
    | some v => okV (.one v) nv
    | none => .bad "field: part"
  | _, _ => .bad "field"
def inE (a len : Tm) : List Ev := [.need (mkNo (mkLt a (.lit 0))), .need (mkLt a len)]
def hIndexAddr (P : Program) (t : TypeId) (x ix : SW) (nv : Nat) : R OpRes :=
  match ix with
  | .one (.cell (.int _ a)) => match P.underlying t, x with
    | some (.array len e), .one (.cell (.ptr b off)) => match P.info? e with
      | some ie => match litT a with
        | some (.ofNat i) => match Nat.blt i len with
          | true => okC (.ptr b (off + i * ie.size)) nv
          | false => .bad "indexAddr: range"
        | some (.negSucc _) => .bad "indexAddr: range"
        | none => .ok ⟨.one (.cell (.eptr b off ie.size a 0)), [], [], nv⟩ (inE a (.lit ((len : Nat) : Int)))
      | none => .bad "indexAddr: array"
    | some (.slice e), .one (.cell (.slice b off len _)) => match P.info? e with
      | some ie => match litT a with
        | some (.ofNat i) => match Nat.blt i len with
          | true => okC (.ptr b (off + i * ie.size)) nv
          | false => .bad "indexAddr: range"
        | some (.negSucc _) => .bad "indexAddr: range"
        | none => .ok ⟨.one (.cell (.eptr b off ie.size a 0)), [], [], nv⟩ (inE a (.lit ((len : Nat) : Int)))
      | none => .bad "indexAddr: slice"
    | some (.slice e), .one (.cell (.sl b _ len)) => match P.info? e with
      | some ie => .ok ⟨.one (.cell (.eptr b 0 ie.size a 0)), [], [], nv⟩ (inE a len)
      | none => .bad "indexAddr: list"
    | _, _ => .bad "indexAddr: type"
  | _ => .bad "indexAddr"
def hIndex (P : Program) (cfg : Cfg) (t : TypeId) (x ix : SW) (nv : Nat) : R OpRes :=
  match ix with
  | .one (.cell (.int _ a)) => match P.underlying t, x with
    | some (.array len e), .one (.agg ps) => match P.info? e with
      | some ie => match litT a with
        | some (.ofNat i) => match Nat.blt i len with
          | true => match partP P e ie.size ps (i * ie.size) with
            | some v => okV (.one v) nv
            | none => .bad "index: part"
          | false => .bad "index: range"
        | some (.negSucc _) => .bad "index: range"
        | none => match pieceAt ps 0, shapeV P cfg e nv with
          | some (_, src, _), some (v, nv') => match sizeP (pcs v) with
            | some n => match Nat.beq n ie.size && Nat.ble 1 n with
              | true => .ok ⟨.one v, [], [], nv'⟩ (inE a (.lit ((len : Nat) : Int)) ++ [.elem src a ie.size 0 (pcs v) (nv' - nv)])
              | false => .bad "index: size"
            | none => .bad "index: shape"
          | _, _ => .bad "index: piece"
      | none => .bad "index: array"
    | some .string, .one (.cell (.str s)) => .ok ⟨.one (.cell (.int .u8 (.byte s a))), [], [], nv⟩ [.need (mkNo (mkLt a (.lit 0))), .need (mkLt a (mkLen s))]
    | _, _ => .bad "index: type"
  | _ => .bad "index"
def hExtract (x : SW) (i nv : Nat) : R OpRes :=
  match x with
  | .tuple vs => match vs[i]? with
    | some v => okV (.one v) nv
    | none => .bad "extract: place"
  | _ => .bad "extract"
def ptrsOf : List SW → Option (List (Nat × Nat))
  | [] => some []
  | .one (.cell (.ptr b off)) :: rest => match ptrsOf rest with
    | some l => some ((b, off) :: l)
    | none => none
  | _ :: _ => none
def Piece.toBP : Piece → Option BP
  | .one (.bool b) => some (.bool b)
  | .one (.int k t) => some (.int k t)
  | .one (.str t) => some (.str t)
  | .row i n => some (.row i n)
  | .rep k v n => some (.rep k v n)
  | _ => none
def BP.toP : BP → Piece
  | .bool b => .one (.bool b)
  | .int k t => .one (.int k t)
  | .str t => .one (.str t)
  | .row i n => .row i n
  | .rep k v n => .rep k v n
def bpsOf : List Piece → Option (List BP)
  | [] => some []
  | p :: ps => match p.toBP with
    | some b => match bpsOf ps with
      | some bs => some (b :: bs)
      | none => none
    | none => none
theorem toP_den (b : BP) (ρ : Nat → Value) (β : Nat → Nat) : b.toP.den ρ β = b.den ρ := by cases b <;> rfl
theorem bps_den (ρ : Nat → Value) (β : Nat → Nat) : ∀ (bs : List BP), densP ρ β (bs.map BP.toP) = densB ρ bs
  | [] => rfl
  | b :: bs => by simp only [List.map_cons, densP, densB, toP_den, bps_den ρ β bs]
theorem bpsOf_den (ρ : Nat → Value) (β : Nat → Nat) : ∀ {ps : List Piece} {bs : List BP}, bpsOf ps = some bs → densB ρ bs = densP ρ β ps
  | [], bs, h => by cases h; rfl
  | p :: ps, bs, h => by
    simp only [bpsOf] at h
    split at h
    · rename_i b hb
      split at h
      · rename_i cs hc
        cases h
        simp only [densB, densP, bpsOf_den ρ β hc]
        congr 1
        unfold Piece.toBP at hb
        split at hb <;> cases hb <;> rfl
      · cases h
    · cases h
def hMakeFunc (fn : Fn) (first : Nat) (caps : List SW) (nv : Nat) : R OpRes :=
  match fn, first, caps with
  | .func f, 1, [.one (.agg ps)] => match bpsOf ps with
    | some bs => okC (.meth f bs) nv
    | none => .bad "makeFunc: receiver"
  | .func f, 0, caps => match ptrsOf caps with
    | some l => okC (.func f l) nv
    | none => .bad "makeFunc"
  | _, _, _ => .bad "makeFunc"
def hPick (asm : Asm) (c a b : SW) (nv : Nat) : R OpRes :=
  match c with
  | .one (.cell (.bool p)) => match decideB asm p with
    | some true => okV a nv
    | some false => okV b nv
    | none => .split (atomB p) []
  | _ => .bad "pick"
def hNil (x : SW) (nv : Nat) : R OpRes :=
  match x with
  | .one (.cell (.ptr b off)) => okC (.ptr b off) nv
  | .one (.cell (.func f l)) => okC (.func f l) nv
  | .one (.cell (.meth f l)) => okC (.meth f l) nv
  | _ => .bad "nilCheck"
def hLen (P : Program) (t : TypeId) (x : SW) (nv : Nat) : R OpRes :=
  match P.underlying t, x with
  | some .string, .one (.cell (.str s)) => okC (.int .i64 (mkLen s)) nv
  | some (.slice _), .one (.cell (.slice _ _ len _)) => okC (.int .i64 (.lit ((len : Nat) : Int))) nv
  | some (.slice _), .one (.cell (.sl _ _ len)) => .ok ⟨.one (.cell (.int .i64 len)), [], [], nv⟩ (nonnegT len)
  | some (.array n _), .one _ => okC (.int .i64 (.lit ((n : Nat) : Int))) nv
  | _, _ => .bad "len"

section
variable {P : Program} {ρ : Nat → Value} {β : Nat → Nat} {w : World} {asm : Asm} {nv : Nat} {res : OpRes} {evs : List Ev}

theorem arE_false {op : BinOp} {k : IntKind} {a b : Tm} : arE false op k a b = [] := by unfold arE; cases litT a <;> cases litT b <;> rfl
theorem hUn_run [Outer] {nowrap : Bool} {op : UnOp} {x : SW} (h : hUn nowrap op x nv = .ok res evs) (hev : Holds P ρ evs) :
    (Op.unary op (x.den ρ β)).run P w = .ok (res.val.den ρ β) w ∧ res.upd = [] ∧ res.news = [] := by
  unfold hUn at h
  split at h
  · cases h
    refine ⟨?_, rfl, rfl⟩
    simp only [SW.den, SV.den, Cell.den, arT_den (.inl rfl) hev]
    simp [Op.unary, Op.intArith, ariI, Tm.i, Tm.den]
  · simp only [okC] at h
    cases h
    refine ⟨?_, rfl, rfl⟩
    rename_i k a
    have he : Holds P ρ (arE false .xor k (.lit (if k.signed then -1 else k.max)) a) := by rw [arE_false]; exact fun _ h => by cases h
    simp only [SW.den, SV.den, Cell.den, arT_den (.inr (.inr rfl)) he]
    simp [Op.unary, Op.intBits, ariI, Tm.i, Tm.den]
  · simp only [okC] at h
    cases h
    refine ⟨?_, rfl, rfl⟩
    simp only [SW.den, SV.den, Cell.den, mkNo_den]
    simp [Op.unary]
  · cases h
theorem cvT_den [Outer] {nowrap : Bool} {k : IntKind} {a : Tm} (h : Holds P ρ (cvE nowrap k a)) : (cvT nowrap k a).i ρ = k.wrap (a.i ρ) := by
  unfold cvT
  unfold cvE at h
  cases ha : litT a with
  | some m => rw [litT_eq ha]; rfl
  | none =>
    simp only [ha] at h
    cases nowrap with
    | false => rfl
    | true => exact (wrap_in k _ (h _ (.head _))).symm
theorem hConv_run [Outer] {nowrap : Bool} {src dst : TypeId} {x : SW} (h : hConv P nowrap src dst x nv = .ok res evs) (hev : Holds P ρ evs) :
    (convert src dst (x.den ρ β)).run P w = .ok (res.val.den ρ β) w ∧ res.upd = [] ∧ res.news = [] := by
  unfold hConv at h
  split at h
  · rename_i d k hs hd
    split at h
    · cases h
      refine ⟨?_, rfl, rfl⟩
      simp only [SW.den, SV.den, Cell.den, cvT_den hev, convert, Sem.run_bind, run_underlying hs, run_underlying hd, Result.andThen_ok]
      rfl
    · cases h
  · rename_i d hs hd
    split at h
    · simp only [okC] at h
      cases h
      refine ⟨?_, rfl, rfl⟩
      simp only [SW.den, SV.den, Cell.den, convert, Sem.run_bind, run_underlying hs, run_underlying hd, Result.andThen_ok]
      cases d <;> rfl
    · cases h
  · cases h
theorem fieldOf_eq {t : TypeId} {f : Nat} {fd : Field} {n : Nat} (h : fieldOf P t f = some (fd, n)) : ∃ fs i, P.underlying t = some (.struct fs) ∧ fs[f]? = some fd ∧ P.info? fd.type = some i ∧ i.size = n := by
  unfold fieldOf at h
  split at h
  · rename_i fs hu
    split at h
    · rename_i fd' hf
      split at h
      · rename_i i hi
        cases h
        exact ⟨fs, i, hu, hf, hi, rfl⟩
      · cases h
    · cases h
  · cases h
theorem hFieldAddr_run [Outer] {t : TypeId} {x : SW} {f : Nat} (h : hFieldAddr P t x f nv = .ok res evs) :
    (Instr.fieldAt t (x.den ρ β) f).run P w = .ok (res.val.den ρ β) w ∧ res.upd = [] ∧ res.news = [] := by
  unfold hFieldAddr at h
  split at h
  · rename_i b off fd n hf
    obtain ⟨fs, i, hu, hfd, hi, rfl⟩ := fieldOf_eq hf
    split at h
    · cases h
    · rename_i hn
      simp only [okC] at h
      cases h
      have hn' : i.size ≠ 0 := fun e => by rw [e] at hn; cases hn
      refine ⟨?_, rfl, rfl⟩
      have hs : (sizeOf fd.type).run P w = .ok i.size w := by simp [sizeOf, typeInfo, hi]
      simp only [SW.den, SV.den, Cell.den, Instr.fieldAt, Sem.run_bind, run_underlying hu, Result.andThen_ok, hfd, Instr.sureAddr, Sem.run_pure, fieldPlace, hs, if_neg hn']
      unfold Addr.add
      split
      · rename_i h0; simp [h0]
      · rfl
  · rename_i b base e idx fo fd n hf
    obtain ⟨fs, i, hu, hfd, hi, rfl⟩ := fieldOf_eq hf
    split at h
    · cases h
    · rename_i hn
      simp only [okC] at h
      cases h
      have hn' : i.size ≠ 0 := fun e => by rw [e] at hn; cases hn
      refine ⟨?_, rfl, rfl⟩
      have hs : (sizeOf fd.type).run P w = .ok i.size w := by simp [sizeOf, typeInfo, hi]
      simp only [SW.den, SV.den, Cell.den, Instr.fieldAt, Sem.run_bind, run_underlying hu, Result.andThen_ok, hfd, Instr.sureAddr, Sem.run_pure, fieldPlace, hs, if_neg hn']
      unfold Addr.add
      split
      · rename_i h0; simp [h0]
      · simp [Nat.add_assoc]
  · cases h
theorem partP_run {t : TypeId} {n off : Nat} {ps : List Piece} {v : SV} {i : TypeInfo} (hi : P.info? t = some i) (hn : i.size = n) (h : partP P t n ps off = some v) :
    (part t (densP ρ β ps).toArray off).run P w = .ok (v.den ρ β) w := by
  subst hn
  unfold partP at h
  split at h
  · cases h
  · rename_i d hu
    split at h
    · rename_i hd
      split at h
      · rename_i qs hs
        cases h
        obtain ⟨e1, e2, e3⟩ := slice_den hs ρ β
        have hagg : (isAgg t).run P w = .ok true w := by
          unfold isAgg
          rw [Sem.run_bind, run_underlying hu w]
          cases d <;> simp_all
        have hsz : (sizeOf t).run P w = .ok i.size w := by simp [sizeOf, typeInfo, hi]
        simp only [part, Sem.run_bind, hagg, hsz, Result.andThen_ok, if_true, Sem.run_pure, SV.den]
        congr 2
        rw [e1]
        apply Array.toList_inj.1
        simp [List.extract_eq_take_drop]
      · cases h
    · rename_i hd
      split at h
      · rename_i qs hs
        split at h
        · rename_i c hac
          cases h
          obtain ⟨e1, e2, e3⟩ := slice_den hs ρ β
          rw [asCell_den hac] at e1
          have hv : (densP ρ β ps)[off]? = some (c.den ρ β) := by
            have : (((densP ρ β ps).drop off).take 1)[0]? = some (c.den ρ β) := by rw [← e1]; rfl
            simpa [List.getElem?_take, List.getElem?_drop] using this
          have hagg : (isAgg t).run P w = .ok false w := by
            unfold isAgg
            rw [Sem.run_bind, run_underlying hu w]
            cases d <;> simp_all
          simp [part, Sem.run_bind, hagg, hv, SV.den]
        · cases h
      · cases h
theorem hField_run [Outer] {t : TypeId} {x : SW} {f : Nat} (h : hField P t x f nv = .ok res evs) :
    (Instr.field t (x.den ρ β) f).run P w = .ok (res.val.den ρ β) w ∧ res.upd = [] ∧ res.news = [] := by
  unfold hField at h
  split at h
  · rename_i ps fd n hf
    obtain ⟨fs, i, hu, hfd, hi, hn⟩ := fieldOf_eq hf
    split at h
    · rename_i v hv
      simp only [okV] at h
      cases h
      refine ⟨?_, rfl, rfl⟩
      simp only [SW.den, SV.den, Instr.field, Sem.run_bind, run_underlying hu, Result.andThen_ok, hfd, asAgg, Sem.run_pure]
      exact partP_run hi hn hv
    · cases h
  · cases h
theorem inE_den [Outer] {a len : Tm} (h : Holds P ρ (inE a len)) : 0 ≤ a.i ρ ∧ a.i ρ < len.i ρ := by
  have h1 := h _ (.head _)
  have h2 := h _ (.tail _ (.head _))
  simp only [Ev.holds, mkNo_den, mkLt_den, Bool.not_eq_true', decide_eq_false_iff_not, decide_eq_true_eq] at h1 h2
  exact ⟨Int.not_lt.1 h1, h2⟩
theorem index_run {t : TypeId} {k : IntKind} {i : Int} {base : Addr} {len : Nat} {e : TypeId} {ie : TypeInfo} {x : Value} (hie : P.info? e = some ie) (h0 : 0 ≤ i) (h1 : i < ((len : Nat) : Int)) (hs : base.spot = none)
    (hx : (P.underlying t = some (.array len e) ∧ x = .pointer (some base)) ∨ (P.underlying t = some (.slice e) ∧ ∃ cap, x = .slice (some base) len cap)) :
    (Instr.indexAt t x (.int k i)).run P w = .ok (.pointer (some ⟨base.block, base.off + i.toNat * ie.size, none⟩)) w := by
  have hsz : (sizeOf e).run P w = .ok ie.size w := by simp [sizeOf, typeInfo, hie]
  have hadd : base.add (i.toNat * ie.size) = ⟨base.block, base.off + i.toNat * ie.size, none⟩ := by
    unfold Addr.add
    split
    · rename_i hz; rw [hz]; cases base; simp at hs; simp [hs]
    · rfl
  rcases hx with ⟨hu, rfl⟩ | ⟨hu, cap, rfl⟩
  · simp only [Instr.indexAt, asIntOf, Sem.run_bind, Sem.run_pure, Result.andThen_ok, run_underlying hu, Instr.sureAddr]
    rw [if_pos ⟨h0, h1⟩]
    simp only [Sem.run_bind, hsz, Result.andThen_ok, Sem.run_pure, hadd]
  · simp only [Instr.indexAt, asIntOf, Sem.run_bind, Sem.run_pure, Result.andThen_ok, run_underlying hu]
    rw [if_pos ⟨h0, h1⟩]
    simp only [Sem.run_bind, hsz, Result.andThen_ok, Sem.run_pure, hadd]
theorem intBeq_iff2 {a b : Int} : intBeq a b = true ↔ a = b := ⟨intBeq_eq, fun h => by subst h; cases a <;> simp [intBeq]⟩
theorem sl_some {b c : Nat} {len : Tm} (h : len.i ρ ≠ 0 ∨ β c ≠ 0) : (SW.one (.cell (.sl b c len))).den ρ β = .slice (some ⟨β b, 0, none⟩) (len.i ρ).toNat (β c - 1) := by
  have : (Nat.beq (β c) 0 && intBeq (len.i ρ) 0) = false := by
    rw [Bool.eq_false_iff]
    intro e
    rw [Bool.and_eq_true] at e
    rcases h with h | h
    · exact h (intBeq_eq e.2)
    · exact h (Nat.eq_of_beq_eq_true e.1)
  simp only [SW.den, SV.den, Cell.den, this, cond]
theorem sl_none {b c : Nat} {len : Tm} (h : len.i ρ = 0) (h2 : β c = 0) : (SW.one (.cell (.sl b c len))).den ρ β = .slice none 0 0 := by
  have : (Nat.beq (β c) 0 && intBeq (len.i ρ) 0) = true := by
    rw [Bool.and_eq_true]; exact ⟨by rw [h2]; rfl, intBeq_iff2.2 h⟩
  simp only [SW.den, SV.den, Cell.den, this, cond]
theorem hIndexAddr_run [Outer] {t : TypeId} {x ix : SW} (h : hIndexAddr P t x ix nv = .ok res evs) (hev : Holds P ρ evs) :
    (Instr.indexAt t (x.den ρ β) (ix.den ρ β)).run P w = .ok (res.val.den ρ β) w ∧ res.upd = [] ∧ res.news = [] := by
  unfold hIndexAddr at h
  split at h
  · rename_i k a
    split at h
    · rename_i len e b off hu
      split at h
      · rename_i ie hie
        split at h
        · rename_i i ha
          have ha := litT_eq ha
          subst ha
          split at h
          · rename_i hlt
            simp only [okC] at h
            cases h
            have hlt : i < len := by simpa [Nat.blt_eq] using hlt
            exact ⟨index_run (base := ⟨β b, off, none⟩) hie (by simp [Tm.i, Tm.den]) (by simp only [Tm.i, Tm.den]; exact Int.ofNat_lt.2 hlt) rfl (.inl ⟨hu, rfl⟩), rfl, rfl⟩
          · cases h
        · cases h
        · cases h
          obtain ⟨h0, h1⟩ := inE_den hev
          exact ⟨index_run (base := ⟨β b, off, none⟩) hie h0 h1 rfl (.inl ⟨hu, rfl⟩), rfl, rfl⟩
      · cases h
    · rename_i e b off len cap hu
      split at h
      · rename_i ie hie
        split at h
        · rename_i i ha
          have ha := litT_eq ha
          subst ha
          split at h
          · rename_i hlt
            simp only [okC] at h
            cases h
            have hlt : i < len := by simpa [Nat.blt_eq] using hlt
            exact ⟨index_run (base := ⟨β b, off, none⟩) hie (by simp [Tm.i, Tm.den]) (by simp only [Tm.i, Tm.den]; exact Int.ofNat_lt.2 hlt) rfl (.inr ⟨hu, cap, rfl⟩), rfl, rfl⟩
          · cases h
        · cases h
        · cases h
          obtain ⟨h0, h1⟩ := inE_den hev
          exact ⟨index_run (base := ⟨β b, off, none⟩) hie h0 h1 rfl (.inr ⟨hu, cap, rfl⟩), rfl, rfl⟩
      · cases h
    · rename_i e b c len hu
      split at h
      · rename_i ie hie
        cases h
        obtain ⟨h0, h1⟩ := inE_den hev
        exact ⟨index_run (P := P) (w := w) (k := k) (t := t) (base := ⟨β b, 0, none⟩) hie h0 (len := (len.i ρ).toNat) (by omega) rfl (.inr ⟨hu, β c - 1, sl_some (by omega)⟩), rfl, rfl⟩
      · cases h
    · cases h
  · cases h
theorem hIndex_run [Outer] {cfg : Cfg} {t : TypeId} {x ix : SW} (h : hIndex P cfg t x ix nv = .ok res evs) (hev : Holds P ρ evs) :
    (Instr.index t (x.den ρ β) (ix.den ρ β)).run P w = .ok (res.val.den ρ β) w ∧ res.upd = [] ∧ res.news = [] := by
  unfold hIndex at h
  split at h
  · rename_i k a
    split at h
    · rename_i len e ps hu
      split at h
      · rename_i ie hie
        have hs : (sizeOf e).run P w = .ok ie.size w := by simp [sizeOf, typeInfo, hie]
        split at h
        · rename_i i ha
          have ha := litT_eq ha
          subst ha
          split at h
          · rename_i hlt
            have hlt : i < len := by simpa [Nat.blt_eq] using hlt
            split at h
            · rename_i v hv
              simp only [okV] at h
              cases h
              refine ⟨?_, rfl, rfl⟩
              simp only [SW.den, SV.den, Cell.den, Instr.index, asIntOf, Sem.run_bind, Sem.run_pure, Result.andThen_ok, run_underlying hu, Tm.i, Tm.den]
              rw [if_pos (by constructor <;> simp <;> omega)]
              simp only [Sem.run_bind, hs, Result.andThen_ok, Int.ofNat_eq_natCast, Int.toNat_natCast]
              exact partP_run hie rfl hv
            · cases h
          · cases h
        · cases h
        · split at h
          · rename_i y src z v nv' hp hsh
            split at h
            · rename_i n hn
              split at h
              · rename_i hsz
                simp only [Bool.and_eq_true, Nat.ble_eq] at hsz
                obtain ⟨hsz, hn1⟩ := hsz
                have hsz := Nat.eq_of_beq_eq_true hsz
                cases h
                obtain ⟨h0, h1⟩ := inE_den (P := P) (ρ := ρ) (a := a) (len := .lit ((len : Nat) : Int)) fun e he => hev e (List.mem_append_left _ he)
                have he := hev (.elem src a ie.size 0 (pcs v) (nv' - nv)) (List.mem_append_right _ (.head _))
                simp only [Ev.holds] at he
                have he := he β
                obtain ⟨p1, p2⟩ := pieceAt_den hp ρ β
                have hl := sizeP_den ρ β hn
                have hlen : (a.i ρ).toNat * ie.size + (densP ρ β (pcs v)).length ≤ (src.den ρ β).length := by
                  have := congrArg List.length he
                  simp only [List.length_take, List.length_drop] at this
                  omega
                have hy : densP ρ β y = [] := List.length_eq_zero_iff.1 p2
                rw [hy, List.nil_append] at p1
                have hsub : ((densP ρ β ps).drop ((a.i ρ).toNat * ie.size)).take (densP ρ β (pcs v)).length = densP ρ β (pcs v) := by
                  rw [p1, List.drop_append_of_le_length (by omega), List.take_append_of_le_length (by simp; omega)]
                  exact he
                refine ⟨?_, rfl, rfl⟩
                have ex : (SW.one (.agg ps)).den ρ β = .agg (densP ρ β ps).toArray := rfl
                have ey : (SW.one (.cell (.int k a))).den ρ β = .int k (a.i ρ) := rfl
                rw [ex, ey]
                simp only [Instr.index, asIntOf, Sem.run_bind, Sem.run_pure, Result.andThen_ok, run_underlying hu]
                rw [if_pos ⟨h0, h1⟩]
                simp only [Sem.run_bind, hs, Result.andThen_ok]
                obtain ⟨d, hud, hd⟩ := shapeV_row hsh
                rcases hd with ⟨hd, qs, rfl⟩ | ⟨hd, c, rfl⟩
                · have hagg : (isAgg e).run P w = .ok true w := by
                    unfold isAgg
                    rw [Sem.run_bind, run_underlying hud w]
                    cases d <;> simp_all
                  simp only [part, Sem.run_bind, hagg, hs, Result.andThen_ok, if_true, Sem.run_pure, SW.den_one, SV.den]
                  congr 2
                  apply Array.toList_inj.1
                  rw [hl, hsz] at hsub
                  simp only [Array.toList_extract, List.extract_eq_take_drop]
                  rw [Nat.add_sub_cancel_left]
                  exact hsub
                · have hagg : (isAgg e).run P w = .ok false w := by
                    unfold isAgg
                    rw [Sem.run_bind, run_underlying hud w]
                    cases d <;> simp_all
                  have hv : (densP ρ β ps)[(a.i ρ).toNat * ie.size]? = some (c.den ρ β) := by
                    have : (((densP ρ β ps).drop ((a.i ρ).toNat * ie.size)).take (densP ρ β (pcs (.cell c))).length)[0]? = some (c.den ρ β) := by rw [hsub]; rfl
                    simpa [pcs, densP, Piece.den, List.getElem?_take, List.getElem?_drop] using this
                  simp [part, Sem.run_bind, hagg, hv, SW.den_one, SV.den]
              · cases h
            · cases h
          · cases h
      · cases h
    · rename_i s hu
      cases h
      have h1 := hev _ (.head _)
      have h2 := hev _ (.tail _ (.head _))
      simp only [Ev.holds, mkNo_den, mkLt_den, mkLen_den, Bool.not_eq_true', decide_eq_false_iff_not, decide_eq_true_eq] at h1 h2
      have h0 : 0 ≤ a.i ρ := Int.not_lt.1 h1
      refine ⟨?_, rfl, rfl⟩
      have hsz : (a.i ρ).toNat < (s.s ρ).size := by omega
      have hb : (s.s ρ)[(a.i ρ).toNat]? = some (s.s ρ)[(a.i ρ).toNat] := by simp [hsz]
      simp only [SW.den, SV.den, Cell.den, Instr.index, asIntOf, Sem.run_bind, Sem.run_pure, Result.andThen_ok, run_underlying hu]
      rw [if_pos h0, hb]
      have : byteI (s.s ρ) (a.i ρ) = (((s.s ρ)[(a.i ρ).toNat].toNat : Nat) : Int) := by
        unfold byteI
        rw [List.getD_eq_getElem?_getD]
        simp [ByteArray.getElem_eq_getElem_data, hsz]
      simp only [Sem.run_pure]
      show _ = Result.ok (Value.int .u8 (byteI (s.s ρ) (a.i ρ))) w
      rw [this]
    · cases h
  · cases h
theorem hExtract_run {x : SW} {i : Nat} (h : hExtract x i nv = .ok res evs) :
    (Instr.extract (x.den ρ β) i).run P w = .ok (res.val.den ρ β) w ∧ res.upd = [] ∧ res.news = [] := by
  unfold hExtract at h
  split at h
  · rename_i vs
    split at h
    · rename_i v hv
      simp only [okV] at h
      cases h
      refine ⟨?_, rfl, rfl⟩
      have : ((vs.map (·.den ρ β)).toArray)[i]? = some (v.den ρ β) := by simp [hv]
      simp only [SW.den, Instr.extract, this, Sem.run_pure]
    · cases h
  · cases h
theorem ptrsOf_den : ∀ {l : List SW} {ps : List (Nat × Nat)}, ptrsOf l = some ps → l.map (·.den ρ β) = ps.map fun c => .pointer (some ⟨β c.1, c.2, none⟩)
  | [], ps, h => by cases h; rfl
  | x :: l, ps, h => by
    unfold ptrsOf at h
    split at h
    · rename_i heq; cases heq
    · rename_i b off rest heq
      cases heq
      split at h
      · rename_i qs hq
        cases h
        simp only [List.map_cons, ptrsOf_den hq]
        rfl
      · cases h
    · cases h
theorem hPick_run [Outer] {c a b : SW} (hasm : Asm.den ρ asm) (h : hPick asm c a b nv = .ok res evs) :
    ∃ t, c.den ρ β = .bool t ∧ (if t then a.den ρ β else b.den ρ β) = res.val.den ρ β ∧ res.upd = [] ∧ res.news = [] := by
  unfold hPick at h
  split at h
  · rename_i p
    split at h
    · rename_i hp
      simp only [okV] at h
      cases h
      exact ⟨true, by simp only [SW.den, SV.den, Cell.den, decideB_den hasm hp], rfl, rfl, rfl⟩
    · rename_i hp
      simp only [okV] at h
      cases h
      exact ⟨false, by simp only [SW.den, SV.den, Cell.den, decideB_den hasm hp], rfl, rfl, rfl⟩
    · cases h
  · cases h
theorem hLen_run [Outer] {t : TypeId} {x : SW} (h : hLen P t x nv = .ok res evs) (hev : Holds P ρ evs) (ty : TypeId) (ts : Array TypeId) (ht : ts[0]? = some t) :
    (Builtin.len_ ts ty #[x.den ρ β]).run P w = .ok (res.val.den ρ β) w ∧ res.upd = [] ∧ res.news = [] := by
  unfold hLen at h
  split at h
  · rename_i s hu
    simp only [okC] at h
    cases h
    refine ⟨?_, rfl, rfl⟩
    simp [Builtin.len_, ht, run_underlying hu, SW.den, SV.den, Cell.den, mkLen_den, goInt]
  · rename_i hu
    simp only [okC] at h
    cases h
    refine ⟨?_, rfl, rfl⟩
    simp [Builtin.len_, ht, run_underlying hu, SW.den, SV.den, Cell.den, goInt, Tm.i, Tm.den]
  · rename_i b c len hu
    cases h
    have h0 := nonnegT_den hev
    refine ⟨?_, rfl, rfl⟩
    have h1 : max (len.i ρ) 0 = len.i ρ := by omega
    by_cases hz : len.i ρ = 0 ∧ β c = 0
    · rw [sl_none hz.1 hz.2]
      simp [Builtin.len_, ht, run_underlying hu, goInt, SW.den, SV.den, Cell.den, hz.1]
    · rw [sl_some (by omega)]
      simp [Builtin.len_, ht, run_underlying hu, goInt, SW.den, SV.den, Cell.den, h1]
  · rename_i n el v hu
    simp only [okC] at h
    cases h
    refine ⟨?_, rfl, rfl⟩
    simp [Builtin.len_, ht, run_underlying hu, goInt, SW.den, SV.den, Cell.den, Tm.i, Tm.den]
  · cases h
end
end Go.Proofs.YteemnnajfiimlaaDoor.Sx
