/- Calls that read blocks of the callers; the table of the powers of ten; texts as lists of bytes. -/
import Derived.Test.YteemnnajfiimlaaDoorSxP
import Derived.Test.YteemnnajfiimlaaDoorSf
import Derived.LaidMore
import Derived.Stop.LaidErr
import Derived.Stop.Joined
namespace Go.Proofs.YteemnnajfiimlaaDoor
open Go.RowKit Go.Proofs.YteemnnajfiimlaaDoor.Sx
set_option linter.unusedSimpArgs false
set_option linter.unusedVariables false

/-- A call that reads blocks of the callers: what it gives. -/
def Reads [Outer] (P : Program) (f : FuncId) (args : Array Value) (v : Value) : Prop :=
  ∀ w : World, (∀ x ∈ Outer.r, w.heap[x.1]? = some x.2) → Calls P f args w fun e w' => e = .returned v ∧ Below w.heap.size w w'
theorem Reads.turns [Outer] {P : Program} {f : FuncId} {args : Array Value} {v : Value} (h : Reads P f args v) {ρ : Nat → Value} {β : Nat → Nat} {nx : Nat} {res : SW} (hr : res.den ρ β = v) : Turns P ρ β nx f args [] [] [] res := fun w hro _ =>
  (h w fun x hx => (hro x hx).1).mono fun e w' ⟨he, hb⟩ => ⟨β, fun _ _ => rfl, by rw [hr]; exact he, ⟨hb.os, hb.tape, hb.output, hb.size, fun k hk _ => hb.block k hk⟩, fun x hx => absurd hx (by simp), fun x hx => absurd hx (by simp), fun x hx => absurd hx (by simp)⟩
/-- The table of the powers of ten lies among the blocks of the callers. -/
def HasTab [Outer] : Prop := ∃ g o, (g, o) ∈ Outer.r ∧ ∀ w : World, w.heap[g]? = some o → Lib.TabIs Tryd.prog w "internal/strconv.uint64pow10" .u64 Lib.pow10Tab
theorem itoa_reads [Outer] (hT : HasTab) (n : Int) (h : -9223372036854775808 ≤ n ∧ n ≤ 9223372036854775807) : Reads Tryd.prog 45 #[.int .i64 n] (.string ⟨(Lib.itoa n).toArray⟩) := fun w hr => by
  obtain ⟨g, o, hm, hg⟩ := hT
  refine (Tryd.strconv_Itoa n h.1 h.2 w (hg w (hr _ hm))).mono fun e w' ⟨he, k, os, hw⟩ => ⟨he, ?_⟩
  subst hw
  exact ⟨rfl, rfl, rfl, by simp [Go.Sort.grow, World.drewN], fun k hk => by simp only [Go.Sort.grow, World.drewN]; rw [Array.getElem?_append_left hk]⟩
theorem Reads.ev [Outer] {P : Program} {f : FuncId} {args A : Array Value} {v : Value} (h : Reads P f args v) {ρ : Nat → Value} {β : Nat → Nat} {nx : Nat} {res : SW} (hA : A = args) (hr : res.den ρ β = v) : Turns P ρ β nx f A [] [] [] res := by
  subst hA; exact h.turns hr
theorem reads_gives [Outer] {f : FuncId} {args : Array Value} {v : Value} (h : Gives Tryd.prog f args v) : Reads Tryd.prog f args v := fun w _ => pure_gives h w
def bs (l : List UInt8) : ByteArray := ⟨l.toArray⟩
theorem bs_size (l : List UInt8) : (bs l).size = l.length := by simp [bs, ByteArray.size]
theorem L_bs (l : List UInt8) : (bs l).data.toList = l := by simp [bs]
theorem bs_L (s : ByteArray) : bs s.data.toList = s := byteArray_ext (L_bs _)
theorem bs_sub (l : List UInt8) (a b : Nat) : (bs l).extract a b = bs ((l.drop a).take (b - a)) := by
  refine byteArray_ext ?_
  rw [L_bs, ByteArray.data_extract, Array.toList_extract, L_bs]
theorem bs_cat (a b : List UInt8) : bs a ++ bs b = bs (a ++ b) := by
  refine byteArray_ext ?_
  rw [L_bs, ByteArray.data_append, Array.toList_append, L_bs, L_bs]
theorem toList_loop (s : ByteArray) : ∀ (n i : Nat) (r : List UInt8), s.size - i = n → ByteArray.toList.loop s i r = r.reverse ++ s.data.toList.drop i
  | 0, i, r, h => by
    unfold ByteArray.toList.loop
    rw [if_neg (by omega), List.drop_of_length_le (by have : s.data.toList.length = s.size := rfl; omega), List.append_nil]
  | n + 1, i, r, h => by
    have hl : s.data.toList.length = s.size := rfl
    unfold ByteArray.toList.loop
    rw [if_pos (by omega), toList_loop s n (i + 1) _ (by omega), List.drop_eq_getElem_cons (i := i) (by omega), List.reverse_cons, List.append_assoc]
    have hi : i < s.data.size := by have : s.data.size = s.size := rfl; omega
    have e : s.get! i = s.data.toList[i]'(by omega) := by
      show s.data[i]! = _
      rw [getElem!_pos s.data i hi, Array.getElem_toList]
    rw [e]; rfl
theorem bs_toList (l : List UInt8) : (bs l).toList = l := by
  unfold ByteArray.toList
  rw [toList_loop _ _ 0 [] rfl, L_bs]; rfl
theorem bs_byte (l : List UInt8) (i : Nat) : byteI (bs l) ((i : Nat) : Int) = ((l.getD i 0).toNat : Int) := by
  unfold byteI; rw [L_bs, Int.toNat_natCast]
theorem str1 (c : UInt8) : (⟨#[c]⟩ : ByteArray) = bs [c] := rfl
theorem str0 : (⟨#[]⟩ : ByteArray) = bs [] := rfl

theorem gPow : Tryd.prog.globalNamed "internal/strconv.uint64pow10" = some 2 := by kernel_rfl
theorem tPow : (Tryd.prog.globals[2]?).map (·.type) = some 79 := by kernel_rfl
theorem tab_obj {W : World} (h : Lib.TabIs Tryd.prog W "internal/strconv.uint64pow10" .u64 Lib.pow10Tab) :
    ∃ o, W.heap[2]? = some o ∧ ∀ w : World, w.heap[2]? = some o → Lib.TabIs Tryd.prog w "internal/strconv.uint64pow10" .u64 Lib.pow10Tab := by
  unfold Lib.TabIs World.var? at h
  rw [gPow, Option.bind_some] at h
  cases hh : W.heap[2]? with
  | none => rw [hh] at h; simp at h
  | some o =>
    refine ⟨o, rfl, fun w hw => ?_⟩
    unfold Lib.TabIs World.var?
    rw [gPow, Option.bind_some, hw]
    rw [hh] at h
    exact h
theorem hasTab_mk {o : Obj} {r : List (Nat × Obj)} (h : ∀ w : World, w.heap[2]? = some o → Lib.TabIs Tryd.prog w "internal/strconv.uint64pow10" .u64 Lib.pow10Tab) : @HasTab ⟨(2, o) :: r⟩ :=
  ⟨2, o, .head _, h⟩
end Go.Proofs.YteemnnajfiimlaaDoor
