/- Merged: SxP, Plus, Mul, Wa, Wb, Wc, Wd, Ra, Rb, Qb, We, Div, Wf, Qk, Qd, New, Wg, Sh, Wi, Kn, Gd, Ix, Ks, Kr, Qe. -/
import Derived.Test.YtkiefjbfepjcbaaGreatDoorDtc
import Derived.Test.YtkiefjbfepjcbaaGreatDoorDta
import Derived.Test.YtkiefjbfepjcbaaGreatDoorDtd
import Derived.OrdersHeld
import Derived.Deep.LoopGhost
import Derived.Shelf.Small.Bits
import Derived.Test.YtkiefjbfepjcbaaGreatDoorProg
import Derived.Lib.ItoaNum
section
namespace Go.Proofs.YtkiefjbfepjcbaaGreatDoor
open Go.Proofs.YtkiefjbfepjcbaaGreatDoor.Sx

namespace Sx
instance (priority := low) noOuter : Outer := ⟨[]⟩
theorem pure_of {P : Program} (hP : Plain P) {cfg : Cfg} {f : FuncId} {args : List SW} {T : Tree Out} (ρ : List Value) (hT : treeOf P cfg f args [] 0 ρ.length = T) (hu : argsUnder args [] ρ.length = true) (v : Value)
    (h : T.den P (fun ρ' ret => ∀ β, ret.val.den (env ρ') β = v) ρ) : Pure P f (denT (env ρ) (fun _ => 0) args) v :=
  fun w => reads_of hP ρ hT hu v h w fun x hx => by cases hx
end Sx
section
variable [Outer]
variable {P : Program} {K : List Value → Prop} {es : List Ev} {ρ ρ' : List Value}
theorem ev_nil (h : K ρ) : evDen P K [] ρ := h
theorem ev_need {b : BTm} (h : b.den (env ρ) = true) (hK : evDen P K es ρ) : evDen P K (.need b :: es) ρ := ⟨h, hK⟩
theorem ev_fits {k : IntKind} {t : Tm} (z : Int) (hz : t.i (env ρ) = z) (h : k.min ≤ z ∧ z ≤ k.max) (hK : evDen P K es ρ) : evDen P K (.fits k t :: es) ρ := ⟨by rw [hz]; exact h, hK⟩
theorem ev_same {t : TypeId} {x y : SV} {i : Nat} (b : Bool) (hρ : ρ ++ [.bool b] = ρ') {u v : Value} (hx : ∀ β, x.den (env ρ) β = u) (hy : ∀ β, y.den (env ρ) β = v) (h : SameFact P t u v b) (hK : evDen P K es ρ') : evDen P K (.same t x y i :: es) ρ :=
  ⟨b, fun β => by rw [hx, hy]; exact h, by rw [hρ]; exact hK⟩
theorem ev_call {f : FuncId} {xs : List SV} {r : SW} {n : Nat} (vs : List Value) (hl : vs.length = n) (hρ : ρ ++ vs = ρ') {args : Array Value} {v : Value} (h : Pure P f args v) (ha : ∀ β, denV (env ρ) β xs = args) (hv : ∀ β, r.den (env ρ') β = v) (hK : evDen P K es ρ') : evDen P K (.call f xs r n :: es) ρ :=
  ⟨vs, hl, fun β => by rw [ha, hρ, hv]; exact h, by rw [hρ]; exact hK⟩
theorem ev_elem {s : Piece} {i : Tm} {e fo : Nat} {ps : List Piece} {n : Nat} (vs : List Value) (hl : vs.length = n) (hρ : ρ ++ vs = ρ') {l m : List Value} {k : Nat} (hi : (i.i (env ρ')).toNat * e + fo = k) (hs : ∀ β, s.den (env ρ') β = l) (hp : ∀ β, densP (env ρ') β ps = m) (h : (l.drop k).take m.length = m) (hK : evDen P K es ρ') :
    evDen P K (.elem s i e fo ps n :: es) ρ :=
  ⟨vs, hl, fun β => by rw [hρ, hi, hs, hp]; exact h, by rw [hρ]; exact hK⟩
theorem ev_put {s : Piece} {i : Tm} {e fo : Nat} {ps : List Piece} {q : Piece} {n : Nat} (vs : List Value) (hl : vs.length = n) (hρ : ρ ++ vs = ρ') {l l' m : List Value} {k : Nat} (hi : (i.i (env ρ')).toNat * e + fo = k) (hs : ∀ β, s.den (env ρ') β = l) (hq : ∀ β, q.den (env ρ') β = l') (hp : ∀ β, densP (env ρ') β ps = m)
    (h : l' = l.take k ++ m ++ l.drop (k + m.length)) (hk : k + m.length ≤ l.length) (hK : evDen P K es ρ') : evDen P K (.put s i e fo ps q n :: es) ρ :=
  ⟨vs, hl, fun β => by rw [hρ, hi, hs, hp, hq]; exact ⟨h, hk⟩, by rw [hρ]; exact hK⟩
theorem ev_turn {nx : Nat} {f : FuncId} {xs : List SV} {p q m : List (Nat × MB)} {r : SW} {n : Nat} (vs : List Value) (hl : vs.length = n) (hρ : ρ ++ vs = ρ') (h : ∀ β, (∀ i ∈ p.map (·.1), ∀ j ∈ p.map (·.1), β i = β j → i = j) → Turns P (env ρ') β nx f (denV (env ρ) β xs) p q m r) (hK : evDen P K es ρ') :
    evDen P K (.turn nx f xs p q m r n :: es) ρ := ⟨vs, hl, fun β hβ => by rw [hρ]; exact h β hβ, by rw [hρ]; exact hK⟩
theorem ev_loop {f k : Nat} {st st' : Sx.St} {x : SExit} {alt : Option (Nat × SExit)} {n : Nat} (vs : List Value) (hl : vs.length = n) (hρ : ρ ++ vs = ρ') (h : Ev.holds P (env ρ') (.loop f k st st' x alt n)) (hK : evDen P K es ρ') : evDen P K (.loop f k st st' x alt n :: es) ρ :=
  ⟨vs, hl, by rw [hρ]; exact h, by rw [hρ]; exact hK⟩
theorem tree_leaf {α : Type} {Q : List Value → α → Prop} {ret : α} (h : evDen P (fun ρ' => Q ρ' ret) es ρ) : (Tree.leaf es ret).den P Q ρ := h
theorem tree_ite {α : Type} {Q : List Value → α → Prop} {c : BTm} {t e : Tree α} (h : evDen P (fun ρ' => (c.den (env ρ') = true → t.den P Q ρ') ∧ (c.den (env ρ') = false → e.den P Q ρ')) es ρ) : (Tree.ite es c t e).den P Q ρ := h
theorem way_true {α : Type} {Q : List Value → α → Prop} {c : BTm} {t e : Tree α} (hc : c.den (env ρ) = true) (h : t.den P Q ρ) : (c.den (env ρ) = true → t.den P Q ρ) ∧ (c.den (env ρ) = false → e.den P Q ρ) := ⟨fun _ => h, fun h2 => (by rw [hc] at h2; cases h2)⟩
theorem way_false {α : Type} {Q : List Value → α → Prop} {c : BTm} {t e : Tree α} (hc : c.den (env ρ) = false) (h : e.den P Q ρ) : (c.den (env ρ) = true → t.den P Q ρ) ∧ (c.den (env ρ) = false → e.den P Q ρ) := ⟨fun h2 => (by rw [hc] at h2; cases h2), fun _ => h⟩
end

theorem rng_i64 (z : Int) (h : -9223372036854775808 ≤ z ∧ z ≤ 9223372036854775807) : IntKind.i64.min ≤ z ∧ z ≤ IntKind.i64.max := by simpa [IntKind.min, IntKind.max, IntKind.signed, IntKind.bits] using h
theorem rng_u64 (z : Int) (h : 0 ≤ z ∧ z ≤ 18446744073709551615) : IntKind.u64.min ≤ z ∧ z ≤ IntKind.u64.max := by simpa [IntKind.min, IntKind.max, IntKind.signed, IntKind.bits] using h
theorem rng_u32 (z : Int) (h : 0 ≤ z ∧ z ≤ 4294967295) : IntKind.u32.min ≤ z ∧ z ≤ IntKind.u32.max := by simpa [IntKind.min, IntKind.max, IntKind.signed, IntKind.bits] using h
theorem wrap_u32 (n : Nat) : IntKind.u32.wrap ((n : Nat) : Int) = ((n % 4294967296 : Nat) : Int) := by rw [IntKind.wrap_u32]; omega

def mgl (k n : Nat) : List Value := (mgk k n).toList
theorem mgl_length (k n : Nat) : (mgl k n).length = k := by simp [mgl, mgk_size]
theorem fix_lv (n : Nat) : fix (lv n) = lv n := rfl
theorem rowCells_mgk (k n : Nat) : rowCells (.agg (mgk k n)) k = mgl k n := by
  unfold rowCells
  have : ((Value.agg (mgk k n)).cells.toList.map fix) = mgl k n := by
    show (mgk k n).toList.map fix = (mgk k n).toList
    rw [List.map_congr_left (g := id) fun x hx => ?_, List.map_id]
    have : x ∈ mgk k n := by simpa using hx
    obtain ⟨i, hi, rfl⟩ := Array.mem_iff_getElem.1 this
    simp [mgk, fix_lv]
  rw [this, List.take_append_of_le_length (by rw [mgl_length]; exact Nat.le_refl _), List.take_of_length_le (by rw [mgl_length]; exact Nat.le_refl _)]
theorem mgl_get {k n i : Nat} (h : i < k) : (mgl k n)[i]? = some (.int .u32 ((limb n i : Nat) : Int)) := by
  simp only [mgl, Array.getElem?_toList]; exact mgk_get' h
theorem take_one {l : List Value} {i : Nat} {v : Value} (h : l[i]? = some v) : (l.drop i).take 1 = [v] := by
  obtain ⟨hi, rfl⟩ := List.getElem?_eq_some_iff.1 h
  rw [List.drop_eq_getElem_cons hi]; rfl
theorem mgl_elem {k n i : Nat} (h : i < k) : ((mgl k n).drop i).take 1 = [.int .u32 ((limb n i : Nat) : Int)] := take_one (mgl_get h)
theorem mgl_put {k n i v : Nat} {z : Int} (h : i < k) (hz : z = ((v : Nat) : Int)) (hv : v < 4294967296) : mgl k (put n i v) = (mgl k n).take i ++ [.int .u32 z] ++ (mgl k n).drop (i + 1) := by
  have hk : i < (mgk k n).toList.length := by simp [mgk_size, h]
  rw [mgl, ← mgk_put' n v hz hv]
  simp only [Array.toList_setIfInBounds, mgl]
  rw [List.set_eq_take_append_cons_drop, if_pos hk]
  simp
theorem mgl_zero (k : Nat) : mgl k 0 = List.replicate k (.int .u32 0) := by simp [mgl, mgk_zero]
theorem mgl_agg (k n : Nat) : Value.agg (mgl k n).toArray = .agg (mgk k n) := by simp [mgl]
theorem iv_list (s : Bool) (n : Nat) : (Value.bool s :: mgl 32 n).toArray = iv s n := by
  apply Array.toList_inj.1; simp [iv, mgl]
theorem plain : Plain Tryz.prog where
  names := by
    intro f fn h
    have : (Tryz.prog.funcs.toList.all fun fn => !(fn.name == "runtime.NumGoroutine")) = true := by kernel_rfl
    have h2 := List.all_eq_true.1 this fn (by
      have := Array.mem_of_getElem? h
      simpa using this)
    simpa using h2
  order := by kernel_rfl
theorem pure_gives {f : FuncId} {args : Array Value} {v : Value} (h : Gives Tryz.prog f args v) : Pure Tryz.prog f args v := h
theorem gives_pure {f : FuncId} {args : Array Value} {v : Value} (h : Pure Tryz.prog f args v) : Gives Tryz.prog f args v := h
end Go.Proofs.YtkiefjbfepjcbaaGreatDoor

section
namespace Go.Proofs.YtkiefjbfepjcbaaGreatDoor.Sx
open Go.RowKit
theorem ev_zc [Outer] {P : Program} {K : List Value → Prop} {es : List Ev} {ρ : List Value} {f : FuncId} {xs : List SV} {r : SW} {n : Nat} (vs : List Value) {args : Array Value} {v : Value} (h : Pure P f args v) (hK : evDen P K es (ρ ++ vs)) (hl : vs.length = n := by rfl) (ha : ∀ β, denV (env ρ) β xs = args := by intro β; simp [BTm.den, Tm.i, Tm.s, Tm.den, env, vInt, vBool, vStr, exI, SW.den, SV.den, Cell.den, densP, Piece.den, denV, rowCells_mgk, iv_list, rv_list, ivZ, rvZ, mgl_agg]) (hv : ∀ β, r.den (env (ρ ++ vs)) β = v := by intro β; simp [BTm.den, Tm.i, Tm.s, Tm.den, env, vInt, vBool, vStr, exI, SW.den, SV.den, Cell.den, densP, Piece.den, denV, rowCells_mgk, iv_list, rv_list, ivZ, rvZ, mgl_agg]) : evDen P K (.call f xs r n :: es) ρ := ev_call vs hl rfl h ha hv hK
end Go.Proofs.YtkiefjbfepjcbaaGreatDoor.Sx
end
end
section
namespace Go.Proofs.YtkiefjbfepjcbaaGreatDoor

def psum (n m k : Nat) : Nat := (n % pw k + m % pw k) % pw k
def pcar (n m k : Nat) : Nat := (n % pw k + m % pw k) / pw k
theorem pcar_le (n m k : Nat) : pcar n m k ≤ 1 := by
  unfold pcar
  have h1 := Nat.mod_lt n (pw_pos k)
  have h2 := Nat.mod_lt m (pw_pos k)
  have : (n % pw k + m % pw k) / pw k < 2 := by rw [Nat.div_lt_iff_lt_mul (pw_pos k)]; omega
  omega
theorem psum_lt (n m k : Nat) : psum n m k < pw k := Nat.mod_lt _ (pw_pos k)
theorem p_split (n m k : Nat) : n % pw k + m % pw k = pcar n m k * pw k + psum n m k := by
  unfold pcar psum
  have := Nat.div_add_mod (n % pw k + m % pw k) (pw k)
  rw [Nat.mul_comm]; omega
theorem p_next (n m k : Nat) : n % pw (k + 1) + m % pw (k + 1) = (limb n k + limb m k + pcar n m k) * pw k + psum n m k := by
  have := p_split n m k
  rw [mod_pw, mod_pw, Nat.add_mul, Nat.add_mul]; omega
theorem split_next {t c k s : Nat} (h : t = c * pw k + s) (h1 : s < pw k) : t % pw (k + 1) = s + c % 4294967296 * pw k ∧ t / pw (k + 1) = c / 4294967296 := by
  subst h
  constructor
  · rw [pw_succ, Nat.mod_mul, Nat.add_comm (_ * pw k), Nat.add_mul_mod_self_right, Nat.mod_eq_of_lt h1, Nat.add_mul_div_right _ _ (pw_pos k), Nat.div_eq_of_lt h1, Nat.zero_add, Nat.mul_comm (pw k)]
  · rw [pw_succ, ← Nat.div_div_eq_div_mul, Nat.add_comm (_ * pw k), Nat.add_mul_div_right _ _ (pw_pos k), Nat.div_eq_of_lt h1, Nat.zero_add]
theorem psum_next (n m k : Nat) : psum n m (k + 1) = psum n m k + (limb n k + limb m k + pcar n m k) % 4294967296 * pw k :=
  (split_next (p_next n m k) (psum_lt n m k)).1
theorem pcar_next (n m k : Nat) : pcar n m (k + 1) = (limb n k + limb m k + pcar n m k) / 4294967296 :=
  (split_next (p_next n m k) (psum_lt n m k)).2
theorem psum_end {n m k : Nat} (hn : n < pw k) (hm : m < pw k) : psum n m k = (n + m) % pw k := by
  unfold psum; rw [Nat.mod_eq_of_lt hn, Nat.mod_eq_of_lt hm]
theorem pcar_end {n m k : Nat} (hn : n < pw k) (hm : m < pw k) : pcar n m k = 0 ↔ n + m < pw k := by
  unfold pcar; rw [Nat.mod_eq_of_lt hn, Nat.mod_eq_of_lt hm, Nat.div_eq_zero_iff_lt (pw_pos k)]
def addS (x y c : Nat) : Nat := (x + y + c) % 4294967296
def addC (x y c : Nat) : Nat := (x + y + c) / 4294967296
def subD (x y c : Nat) : Nat := (x + 4294967296 - y - c) % 4294967296
theorem addS_lt (x y c : Nat) : addS x y c < 4294967296 := Nat.mod_lt _ (by omega)
theorem subD_lt (x y c : Nat) : subD x y c < 4294967296 := Nat.mod_lt _ (by omega)
theorem pcar_zero (n m : Nat) : pcar n m 0 = 0 := by simp [pcar, mod_pw_zero]
theorem psum_zero (n m : Nat) : psum n m 0 = 0 := by simp [psum, mod_pw_zero]

def brw (x y c : Nat) : Nat := if x < y + c then 1 else 0
theorem brw_le (x y c : Nat) : brw x y c ≤ 1 := by unfold brw; split <;> omega
def mdif (n m k : Nat) : Nat := (n % pw k + pw k - m % pw k) % pw k
def mbrw (n m k : Nat) : Nat := if n % pw k < m % pw k then 1 else 0
theorem mbrw_le (n m k : Nat) : mbrw n m k ≤ 1 := by unfold mbrw; split <;> omega
theorem mdif_lt (n m k : Nat) : mdif n m k < pw k := Nat.mod_lt _ (pw_pos k)
theorem m_split (n m k : Nat) : n % pw k + mbrw n m k * pw k = m % pw k + mdif n m k := by
  have h1 := Nat.mod_lt n (pw_pos k)
  have h2 := Nat.mod_lt m (pw_pos k)
  unfold mdif mbrw
  generalize n % pw k = x at *
  generalize m % pw k = y at *
  split
  · rename_i h; rw [Nat.mod_eq_of_lt (by omega)]; omega
  · rename_i h
    rw [show x + pw k - y = x - y + pw k by omega, Nat.add_mod_right, Nat.mod_eq_of_lt (by omega)]; omega
theorem mbrw_next (n m k : Nat) : mbrw n m (k + 1) = brw (limb n k) (limb m k) (mbrw n m k) := by
  have h := m_split n m k
  have hb := mbrw_le n m k
  have hd := mdif_lt n m k
  have hp := pw_pos k
  have h1 := Nat.mod_lt n (pw_pos k)
  have h2 := Nat.mod_lt m (pw_pos k)
  unfold brw
  rw [mbrw, mod_pw, mod_pw]
  by_cases hc : limb n k < limb m k + mbrw n m k
  · rw [if_pos hc, if_pos]
    by_cases hm : mbrw n m k = 0
    · have : (limb n k + 1) * pw k ≤ limb m k * pw k := Nat.mul_le_mul_right _ (by omega)
      rw [Nat.add_mul] at this; omega
    · have e : mbrw n m k = 1 := by omega
      rw [e] at h hc
      have : limb n k * pw k ≤ limb m k * pw k := Nat.mul_le_mul_right _ (by omega)
      omega
  · rw [if_neg hc, if_neg]
    by_cases hm : mbrw n m k = 0
    · rw [hm] at h
      have : limb m k * pw k ≤ limb n k * pw k := Nat.mul_le_mul_right _ (by omega)
      omega
    · have e : mbrw n m k = 1 := by omega
      rw [e] at h hc
      have : (limb m k + 1) * pw k ≤ limb n k * pw k := Nat.mul_le_mul_right _ (by omega)
      rw [Nat.add_mul] at this; omega
theorem mdif_next (n m k : Nat) : mdif n m (k + 1) = mdif n m k + (limb n k + 4294967296 - limb m k - mbrw n m k) % 4294967296 * pw k := by
  have h := m_split n m k
  have h' := m_split n m (k + 1)
  have hb := mbrw_le n m k
  have e := mbrw_next n m k
  have hl := limb_lt n k
  have hl' := limb_lt m k
  have key : limb n k + brw (limb n k) (limb m k) (mbrw n m k) * 4294967296 = limb m k + mbrw n m k + (limb n k + 4294967296 - limb m k - mbrw n m k) % 4294967296 := by
    unfold brw; split <;> omega
  rw [e, mod_pw, mod_pw, pw_succ] at h'
  have k2 := congrArg (· * pw k) key
  simp only [Nat.add_mul] at k2
  rw [Nat.mul_assoc, Nat.mul_comm 4294967296] at k2
  omega
theorem mdif_end {n m k : Nat} (hn : n < pw k) (hm : m ≤ n) : mdif n m k = n - m := by
  unfold mdif; rw [Nat.mod_eq_of_lt hn, Nat.mod_eq_of_lt (show m < pw k by omega), show n + pw k - m = n - m + pw k by omega, Nat.add_mod_right, Nat.mod_eq_of_lt (by omega)]
theorem mbrw_zero (n m : Nat) : mbrw n m 0 = 0 := by simp [mbrw, mod_pw_zero]
theorem mdif_zero (n m : Nat) : mdif n m 0 = 0 := by simp [mdif, pw_zero, Nat.mod_one]

end Go.Proofs.YtkiefjbfepjcbaaGreatDoor
end
section
namespace Go.Proofs.YtkiefjbfepjcbaaGreatDoor

def mulV (a b i j : Nat) : Nat := (a % pw i) * b + limb a i * pw i * (b % pw j)
def mulT (a b i j W c : Nat) : Nat := c + (limb a i * limb b j + limb W (i + j))

theorem mulV_next (a b i j : Nat) : mulV a b i (j + 1) = mulV a b i j + limb a i * limb b j * pw (i + j) := by
  unfold mulV
  rw [mod_pw, Nat.mul_add, pw_add]
  have : limb a i * pw i * (limb b j * pw j) = limb a i * limb b j * (pw i * pw j) := by
    rw [Nat.mul_assoc, Nat.mul_assoc, Nat.mul_left_comm (pw i)]
  omega
theorem mulV_zero (a b i : Nat) : mulV a b i 0 = (a % pw i) * b := by unfold mulV; rw [mod_pw_zero]; simp
theorem mulV_round {a b i n : Nat} (hb : b < pw n) : mulV a b i n = (a % pw (i + 1)) * b := by
  unfold mulV
  rw [Nat.mod_eq_of_lt hb, mod_pw, Nat.add_mul]
theorem put_add (W j v : Nat) : put W j v + limb W j * pw j = W + v * pw j := by
  have h : limb W j * pw j ≤ W := by
    have := Nat.div_add_mod W (pw (j + 1))
    rw [mod_pw] at this; omega
  unfold put; omega
theorem mul_step {a b i j W c : Nat} (h : W + c * pw (i + j) = mulV a b i j) :
    put W (i + j) (mulT a b i j W c % 4294967296) + mulT a b i j W c / 4294967296 * pw (i + (j + 1)) = mulV a b i (j + 1) := by
  have h1 := put_add W (i + j) (mulT a b i j W c % 4294967296)
  have h2 : mulT a b i j W c % 4294967296 * pw (i + j) + mulT a b i j W c / 4294967296 * pw (i + (j + 1)) = mulT a b i j W c * pw (i + j) := by
    rw [show i + (j + 1) = i + j + 1 by omega, pw_succ, Nat.mul_comm (pw (i + j)) 4294967296, ← Nat.mul_assoc, ← Nat.add_mul]
    congr 1
    have := Nat.div_add_mod (mulT a b i j W c) 4294967296
    omega
  have h3 : mulT a b i j W c * pw (i + j) = c * pw (i + j) + limb a i * limb b j * pw (i + j) + limb W (i + j) * pw (i + j) := by
    unfold mulT; rw [Nat.add_mul, Nat.add_mul]; omega
  rw [mulV_next]
  omega
theorem mul_bound (x y : Nat) (hx : x < 4294967296) (hy : y < 4294967296) : x * y ≤ 18446744065119617025 := by
  have : x * y ≤ 4294967295 * 4294967295 := Nat.mul_le_mul (by omega) (by omega)
  omega
theorem mulT_lt {a b i j W c : Nat} (hc : c < 4294967296) : mulT a b i j W c ≤ 18446744073709551615 ∧ mulT a b i j W c / 4294967296 < 4294967296 := by
  have h1 := mul_bound _ _ (limb_lt a i) (limb_lt b j)
  have h2 := limb_lt W (i + j)
  unfold mulT
  omega
theorem mul_round {a b i n W c : Nat} (hb : b < pw n) (hW : W < pw (i + n)) (h : W + c * pw (i + n) = mulV a b i n) : put W (i + n) c = (a % pw (i + 1)) * b := by
  rw [put_low c hW, h, mulV_round hb]
theorem mul_small {a b i n : Nat} (hb : b < pw n) : (a % pw i) * b < pw (i + n) := by
  rw [pw_add]
  exact Nat.mul_lt_mul_of_lt_of_le (Nat.mod_lt _ (pw_pos i)) (Nat.le_of_lt hb) (Nat.lt_of_le_of_lt (Nat.zero_le _) hb)
theorem mul_end {a b m : Nat} (ha : a < pw m) : (a % pw m) * b = a * b := by rw [Nat.mod_eq_of_lt ha]

theorem limb_up (n i k : Nat) : limb n (k + i) = limb (n / pw k) i := by
  unfold limb; rw [pw_add, Nat.div_div_eq_div_mul]
theorem low_row {K k n i : Nat} (h : i < k) (hk : k ≤ K) : (mgk K n)[0 + i]? = (mgk k (n % pw k))[i]? := by
  rw [Nat.zero_add, mgk_get (by omega), mgk_get h, limb_mod h]
theorem up_row {K k n i : Nat} (h : i < k) (hK : k + k ≤ K) : (mgk K n)[k + i]? = (mgk k (n / pw k))[i]? := by
  rw [mgk_get (by omega), mgk_get h, limb_up]
end Go.Proofs.YtkiefjbfepjcbaaGreatDoor
end
section
namespace Go.Proofs.YtkiefjbfepjcbaaGreatDoor
open Go.RowKit
def cmpv (n m : Nat) : Int := if n < m then -1 else if n = m then 0 else 1

set_option maxHeartbeats 400000 in
theorem add32 (x y c : Nat) (hx : x < 4294967296) (hy : y < 4294967296) (hc : c ≤ 1) :
    Gives Tryz.prog 175 #[.int .u32 x, .int .u32 y, .int .u32 c] (.tuple #[.int .u32 ((addS x y c : Nat) : Int), .int .u32 ((addC x y c : Nat) : Int)]) := by
  intro w
  go_enter Tryz.func175, Tryz.ntmps175
  go_wp2
  go_ret2
  exact ⟨ret2 (u32_eq (by show ((x : Int) + (y : Int) + (c : Int)) % 4294967296 = _; unfold addS; omega)) (u32_eq (by show ((x : Int) + (y : Int) + (c : Int)) / 4294967296 = _; unfold addC; omega)), Below.refl _ _⟩

theorem top32 (a : Nat) (h : a < 4294967296) : a.testBit 31 = decide (2147483648 ≤ a) := by
  rw [Nat.testBit_eq_decide_div_mod_eq, show (2 : Nat) ^ 31 = 2147483648 from rfl]
  congr 1
  rw [eq_iff_iff]; omega
theorem div_top (a : Nat) (h : a < 4294967296) : a / 2147483648 = (a.testBit 31).toNat := by
  rw [top32 a h]
  by_cases h2 : 2147483648 ≤ a <;> simp [h2] <;> omega
theorem sub32_nat (x y c : Nat) (hx : x < 4294967296) (hy : y < 4294967296) (hc : c ≤ 1) :
    (((4294967295 ^^^ x) &&& y) ||| ((4294967295 ^^^ (x ^^^ y)) &&& ((x + 4294967296 - y - c) % 4294967296))) / 2147483648 = brw x y c := by
  have h1 : (4294967295 ^^^ x) &&& y < 2 ^ 32 := Nat.and_lt_two_pow _ hy
  have h2 : (4294967295 ^^^ (x ^^^ y)) &&& ((x + 4294967296 - y - c) % 4294967296) < 2 ^ 32 := Nat.and_lt_two_pow _ (by omega)
  rw [div_top _ (Nat.or_lt_two_pow h1 h2)]
  simp only [Nat.testBit_or, Nat.testBit_and, Nat.testBit_xor]
  rw [top32 x hx, top32 y hy, top32 _ (show (x + 4294967296 - y - c) % 4294967296 < 4294967296 by omega), show Nat.testBit 4294967295 31 = true by decide]
  unfold brw
  by_cases a1 : 2147483648 ≤ x <;> by_cases a2 : 2147483648 ≤ y <;> by_cases a3 : 2147483648 ≤ (x + 4294967296 - y - c) % 4294967296 <;> simp [a1, a2, a3] <;> omega
theorem sub32_bits (x y c : Nat) (hx : x < 4294967296) (hy : y < 4294967296) (hc : c ≤ 1) :
    bits BinOp.or IntKind.u32 (bits BinOp.and IntKind.u32 (bits BinOp.xor IntKind.u32 IntKind.u32.max (x : Int)) (y : Int))
                (bits BinOp.and IntKind.u32
                  (bits BinOp.xor IntKind.u32 IntKind.u32.max (bits BinOp.xor IntKind.u32 (x : Int) (y : Int)))
                  (((x : Int) - (y : Int) - (c : Int)) % 4294967296)) / 2147483648 = ((brw x y c : Nat) : Int) := by
  have hd : ((x : Int) - (y : Int) - (c : Int)) % 4294967296 = (((x + 4294967296 - y - c) % 4294967296 : Nat) : Int) := by omega
  have hM : IntKind.u32.max = ((4294967295 : Nat) : Int) := by rfl
  have hM2 : (4294967295 : Nat) < 2 ^ 32 := by decide
  have hxy : x ^^^ y < 4294967296 := Nat.xor_lt_two_pow (n := 32) hx hy
  have hnx : 4294967295 ^^^ x < 4294967296 := Nat.xor_lt_two_pow (n := 32) hM2 hx
  have hnxy : 4294967295 ^^^ (x ^^^ y) < 4294967296 := Nat.xor_lt_two_pow (n := 32) hM2 hxy
  have h1 : (4294967295 ^^^ x) &&& y < 4294967296 := Nat.and_lt_two_pow (n := 32) _ hy
  have h2 : (4294967295 ^^^ (x ^^^ y)) &&& ((x + 4294967296 - y - c) % 4294967296) < 4294967296 := Nat.and_lt_two_pow (n := 32) _ (by omega)
  rw [hd, hM, u32_xor_nat _ _ hx hy, u32_xor_nat _ _ (by omega) hx, u32_xor_nat _ _ (by omega) hxy, u32_and_nat _ _ hnx hy, u32_and_nat _ _ hnxy (by omega), u32_or_nat _ _ h1 h2, ← sub32_nat x y c hx hy hc]
  rfl
set_option maxHeartbeats 400000 in
theorem sub32 (x y c : Nat) (hx : x < 4294967296) (hy : y < 4294967296) (hc : c ≤ 1) :
    Gives Tryz.prog 176 #[.int .u32 x, .int .u32 y, .int .u32 c] (.tuple #[.int .u32 ((subD x y c : Nat) : Int), .int .u32 ((brw x y c : Nat) : Int)]) := by
  intro w
  have hk : IntKind.u32.signed = false := rfl
  go_enter Tryz.func176, Tryz.ntmps176
  go_wp2
  go_ret2
  exact ⟨ret2 (u32_eq (by show (((x : Int) - (y : Int)) % 4294967296 - (c : Int)) % 4294967296 = _; unfold subD; omega)) (u32_eq (sub32_bits x y c hx hy hc)), Below.refl _ _⟩

set_option maxRecDepth 10000 in
theorem isZero (n : Nat) (hn : n < pw 32) : Gives Tryz.prog 127 #[.agg (mgk 32 n)] (.bool (isz n)) := by
  intro w
  have hS := St.start w
  have HN := Lib.hid hn
  clear hn
  go_enter Tryz.func127, Tryz.ntmps127
  go_wp2_with (first
    | (refine L_box_agg hS rfl rfl ?_; refine ⟨_, rfl, ?_⟩; clear hS; intro _ _ hS)
    | (refine L_load (t := 119) rfl rfl ?_; refine ⟨_, run_load_row hS _ _ rfl _ rfl _ _ (.inl (.head _)) _ Tryz.underlying119 rfl (by rw [mgk_size]; exact size119), ?_⟩)
    | (refine L_build rfl rfl ?_; refine ⟨_, built119, ?_⟩)
    | (refine L_op rfl rfl ?_; refine ⟨_, run_eql_mgk _ _ _ _ _ _ rfl 32 _ _ rfl rfl _ guard119 Tryz.underlying119 size22 Tryz.underlying22 HN.out (pw_pos _), ?_⟩))
  go_ret
  exact ⟨rfl, hS.below⟩

set_option maxHeartbeats 400000 in
theorem plus (n m : Nat) (hn : n < pw 32) (hm : m < pw 32) : Gives Tryz.prog 149 #[.agg (mgk 32 n), .agg (mgk 32 m)] (.tuple #[.agg (mgk 32 ((n + m) % pw 32)), .bool (decide (n + m < pw 32))]) := by
  intro w
  have hS := St.start w
  have HN := Lib.hid hn
  have HM := Lib.hid hm
  clear hn hm
  go_enter Tryz.func149, Tryz.ntmps149
  go_wp2_with (first | (refine L_box_agg hS rfl rfl ?_; refine ⟨_, rfl, ?_⟩; clear hS; intro _ _ hS) | (refine L_alloc_agg hS rfl rfl ?_; refine ⟨_, zero119, ?_⟩; clear hS; intro _ _ hS))
  rename_i b1 _ b2 _ b3 w1 _ _
  go_loopw [6, 8] (fun cy i wr => ∃ k : Nat, k ≤ 32 ∧ i = .int .i64 k ∧ cy = .int .u32 ((pcar n m k : Nat) : Int) ∧ St none w wr [] [(b3, .cells (mgk 32 (psum n m k)) 119), (b2, .cells (mgk 32 m) 119), (b1, .cells (mgk 32 n) 119)]) (fun _ i _ => 32 - (intOf i).toNat)
  case atStart =>
    exact ⟨0, by omega, rfl, by rw [pcar_zero]; rfl, by rw [psum_zero]; exact hS⟩
  case round =>
    clear hS
    obtain ⟨k, hk, rfl, rfl, hS⟩ := hrel
    have hc := pcar_le n m k
    by_cases hlt : k < 32
    · go_wp2_with (fail)
      refine wp_region_w1 hS 13 [11] [(b3, .cells (mgk 32 (psum n m (k + 1))) 119), (b2, .cells (mgk 32 m) 119), (b1, .cells (mgk 32 n) 119)] (by kernel_rfl) (by kernel_rfl) ?_
      repeat (first
        | (refine S_load (t := 22) rfl rfl rfl rfl ?_; refine ⟨_, fun _ hS' => run_load_cell hS' _ _ rfl _ _ rfl _ _ (.inl (.tail _ (.head _))) _ Tryz.underlying22 rfl _ (mgk_get' (by omega)), ?_⟩; simp only [Act.put, List.setIfInBounds_toArray, List.set_cons_succ, List.set_cons_zero])
        | (refine S_load (t := 22) rfl rfl rfl rfl ?_; refine ⟨_, fun _ hS' => run_load_cell hS' _ _ rfl _ _ rfl _ _ (.inl (.tail _ (.tail _ (.head _)))) _ Tryz.underlying22 rfl _ (mgk_get' (by omega)), ?_⟩; simp only [Act.put, List.setIfInBounds_toArray, List.set_cons_succ, List.set_cons_zero])
        | (refine S_call 175 rfl rfl rfl rfl ?_; apply Exists.intro; refine ⟨fun _ => ?_, ?_⟩; (focus (go_simp; exact rfl)); apply Exists.intro; (with_reducible refine ⟨add32 _ _ _ (limb_lt _ _) (limb_lt _ _) hc, ?_⟩); simp only [Act.put, List.setIfInBounds_toArray, List.set_cons_succ, List.set_cons_zero])
        | (refine S_store (t := 22) rfl rfl rfl ?_; refine ⟨_, _, _, _, (.head), fun _ hS' => run_store_cell hS' _ _ _ rfl _ _ rfl _ rfl _ _ _ (.head) size22 rfl rfl ?_ ?_, ?_⟩; (focus (rw [mgk_size]; omega)); (focus (exact (mgk_fill' _ (addS _ _ _) rfl (psum_lt _ _ _) (addS_lt _ _ _)).trans (by rw [psum_next]; rfl))); simp only [Act.put])
        | (refine S_run rfl rfl ?_; apply Exists.intro; refine ⟨fun _ => ?_, ?_⟩; (focus (go_simp; (try go_bits); exact rfl)); simp only [Act.put, List.setIfInBounds_toArray, List.set_cons_succ, List.set_cons_zero]))
      refine S_nil ?_
      intro wn hS
      go_wp2
      go_roundw
      case rel => exact ⟨k + 1, by omega, by go_num, by rw [pcar_next]; rfl, hS⟩
      case measure => simp [intOf]; omega
    · have ek : k = 32 := by omega
      subst ek
      go_wp2_with (first | (refine L_load (t := 119) rfl rfl ?_; refine ⟨_, run_load_row hS _ _ rfl _ rfl _ _ (.inl (.head _)) _ Tryz.underlying119 rfl (by rw [mgk_size]; exact size119), ?_⟩) | (refine L_store (t := 119) hS rfl rfl ?_; refine ⟨_, _, _, _, _, (.head), run_store_row hS _ _ _ rfl _ rfl _ _ rfl _ (.head) (by rw [mgk_size]; exact size119) (by rw [mgk_size]) (oneCells _ _), ?_⟩; clear hS; intro _ hS))
      (try simp only [Exit.inBlock, Exit.then]); refine bodyPost_ret (res_cell_tmp rfl _ _ _ (run_loadRow hS _ _ _ _ (.inl (.head _)) _ Tryz.underlying119 rfl (by rw [mgk_size]; exact size119)) rfl _ rfl) rfl ⟨?_, hS.below⟩
      refine ret2 (by rw [psum_end HN.out HM.out]) (congrArg Value.bool ?_)
      have h0 := pcar_end HN.out HM.out
      by_cases h1 : pcar n m 32 = 0
      · simp [h1, h0.1 h1]
      · have h2 : ¬ n + m < pw 32 := fun h => h1 (h0.2 h)
        simp [h1, h2]

set_option maxHeartbeats 400000 in
theorem minus (n m : Nat) (hn : n < pw 32) (hm : m ≤ n) : Gives Tryz.prog 150 #[.agg (mgk 32 n), .agg (mgk 32 m)] (.agg (mgk 32 (n - m))) := by
  intro w
  have hS := St.start w
  have HN := Lib.hid hn
  have HM := Lib.hid hm
  clear hn hm
  go_enter Tryz.func150, Tryz.ntmps150
  go_wp2_with (first | (refine L_box_agg hS rfl rfl ?_; refine ⟨_, rfl, ?_⟩; clear hS; intro _ _ hS) | (refine L_alloc_agg hS rfl rfl ?_; refine ⟨_, zero119, ?_⟩; clear hS; intro _ _ hS))
  rename_i b1 _ b2 _ b3 _ b4 w1 _ _
  go_loopw [6, 8] (fun cy i wr => ∃ k : Nat, k ≤ 32 ∧ i = .int .i64 k ∧ cy = .int .u32 ((mbrw n m k : Nat) : Int) ∧ St none w wr [] [(b4, .cells (mgk 32 (mdif n m k)) 119), (b3, .cells (mgk 32 0) 119), (b2, .cells (mgk 32 m) 119), (b1, .cells (mgk 32 n) 119)]) (fun _ i _ => 32 - (intOf i).toNat)
  case atStart =>
    exact ⟨0, by omega, rfl, by rw [mbrw_zero]; rfl, by rw [mdif_zero]; exact hS⟩
  case round =>
    clear hS
    obtain ⟨k, hk, rfl, rfl, hS⟩ := hrel
    have hc := mbrw_le n m k
    by_cases hlt : k < 32
    · go_wp2_with (fail)
      refine wp_region_w1 hS 13 [11] [(b4, .cells (mgk 32 (mdif n m (k + 1))) 119), (b3, .cells (mgk 32 0) 119), (b2, .cells (mgk 32 m) 119), (b1, .cells (mgk 32 n) 119)] (by kernel_rfl) (by kernel_rfl) ?_
      repeat (first
        | (refine S_load (t := 22) rfl rfl rfl rfl ?_; refine ⟨_, fun _ hS' => run_load_cell hS' _ _ rfl _ _ rfl _ _ (.inl (.tail _ (.tail _ (.head _)))) _ Tryz.underlying22 rfl _ (mgk_get' (by omega)), ?_⟩; simp only [Act.put, List.setIfInBounds_toArray, List.set_cons_succ, List.set_cons_zero])
        | (refine S_load (t := 22) rfl rfl rfl rfl ?_; refine ⟨_, fun _ hS' => run_load_cell hS' _ _ rfl _ _ rfl _ _ (.inl (.tail _ (.tail _ (.tail _ (.head _))))) _ Tryz.underlying22 rfl _ (mgk_get' (by omega)), ?_⟩; simp only [Act.put, List.setIfInBounds_toArray, List.set_cons_succ, List.set_cons_zero])
        | (refine S_call 176 rfl rfl rfl rfl ?_; apply Exists.intro; refine ⟨fun _ => ?_, ?_⟩; (focus (go_simp; exact rfl)); apply Exists.intro; (with_reducible refine ⟨sub32 _ _ _ (limb_lt _ _) (limb_lt _ _) hc, ?_⟩); simp only [Act.put, List.setIfInBounds_toArray, List.set_cons_succ, List.set_cons_zero])
        | (refine S_store (t := 22) rfl rfl rfl ?_; refine ⟨_, _, _, _, (.head), fun _ hS' => run_store_cell hS' _ _ _ rfl _ _ rfl _ rfl _ _ _ (.head) size22 rfl rfl ?_ ?_, ?_⟩; (focus (rw [mgk_size]; omega)); (focus (exact (mgk_fill' _ (subD _ _ _) rfl (mdif_lt _ _ _) (subD_lt _ _ _)).trans (by rw [mdif_next]; rfl))); simp only [Act.put])
        | (refine S_run rfl rfl ?_; apply Exists.intro; refine ⟨fun _ => ?_, ?_⟩; (focus (go_simp; (try go_bits); exact rfl)); simp only [Act.put, List.setIfInBounds_toArray, List.set_cons_succ, List.set_cons_zero]))
      refine S_nil ?_
      intro wn hS
      go_wp2
      go_roundw
      case rel => exact ⟨k + 1, by omega, by go_num, by rw [mbrw_next], hS⟩
      case measure => simp [intOf]; omega
    · have ek : k = 32 := by omega
      subst ek
      go_wp2_with (first | (refine L_load (t := 119) rfl rfl ?_; refine ⟨_, run_load_row hS _ _ rfl _ rfl _ _ (.inl (.head _)) _ Tryz.underlying119 rfl (by rw [mgk_size]; exact size119), ?_⟩) | (refine L_store (t := 119) hS rfl rfl ?_; refine ⟨_, _, _, _, _, (.tail .head), run_store_row hS _ _ _ rfl _ rfl _ _ rfl _ (.tail .head) (by rw [mgk_size]; exact size119) (by rw [mgk_size, mgk_size]) (oneCells _ _), ?_⟩; clear hS; intro _ hS))
      (try simp only [Exit.inBlock, Exit.then]); refine bodyPost_ret (res_cell rfl hS _ _ _ _ (.inl (.tail _ (.head _))) rfl _ Tryz.underlying119 rfl (by rw [mgk_size]; exact size119)) rfl ⟨?_, hS.below⟩
      rw [mdif_end HN.out HM.out]

theorem cmpv_lt {n m : Nat} (h : n < m) : cmpv n m = -1 := if_pos h
theorem cmpv_eq {n m : Nat} (h : n = m) : cmpv n m = 0 := by unfold cmpv; rw [if_neg (by omega), if_pos h]
theorem cmpv_gt {n m : Nat} (h : m < n) : cmpv n m = 1 := by unfold cmpv; rw [if_neg (by omega), if_neg (by omega)]
set_option maxHeartbeats 400000 in
theorem cmp32 (x y : Nat) : Gives Tryz.prog 177 #[.int .u32 x, .int .u32 y] (.int .i64 (cmpv x y)) := by
  intro w
  rcases Nat.lt_trichotomy x y with h | h | h
  · have HC := Lib.hid (cmpv_lt h)
    go_enter Tryz.func177, Tryz.ntmps177
    go_wp2
    go_ret
    exact ⟨by rw [HC.out]; rfl, Below.refl _ _⟩
  · subst h
    have HC := Lib.hid (cmpv_eq (rfl : x = x))
    go_enter Tryz.func177, Tryz.ntmps177
    go_wp2
    go_ret
    exact ⟨by rw [HC.out]; rfl, Below.refl _ _⟩
  · have HC := Lib.hid (cmpv_gt h)
    have h2 : ¬ x < y := by omega
    go_enter Tryz.func177, Tryz.ntmps177
    go_wp2
    go_ret
    exact ⟨by rw [HC.out]; rfl, Below.refl _ _⟩

theorem cmp_step {n m j : Nat} (h : n / pw (j + 1) = m / pw (j + 1)) : (limb n j = limb m j → n / pw j = m / pw j) ∧ (limb n j ≠ limb m j → cmpv (limb n j) (limb m j) = cmpv n m) := by
  have h1 := div_pw n j
  have h2 := div_pw m j
  refine ⟨fun e => by omega, fun hne => ?_⟩
  have key : ∀ {a b : Nat}, a / pw j < b / pw j → a < b := fun {a b} hlt => by
    rcases Nat.lt_or_ge a b with h | h
    · exact h
    · exact absurd (Nat.div_le_div_right (c := pw j) h) (by omega)
  rcases Nat.lt_or_ge (limb n j) (limb m j) with hl | hl
  · rw [cmpv_lt hl, cmpv_lt (key (by omega))]
  · have hl' : limb m j < limb n j := by omega
    rw [cmpv_gt hl', cmpv_gt (key (by omega))]

set_option maxHeartbeats 400000 in
theorem compare_any (n m : Nat) (hn : n < pw 32) (hm : m < pw 32) : Gives Tryz.prog 151 #[.agg (mgk 32 n), .agg (mgk 32 m)] (.int .i64 (cmpv n m)) := by
  intro w
  have hS := St.start w
  have HN := Lib.hid hn
  have HM := Lib.hid hm
  clear hn hm
  go_enter Tryz.func151, Tryz.ntmps151
  go_wp2_with (first | (refine L_box_agg hS rfl rfl ?_; refine ⟨_, rfl, ?_⟩; clear hS; intro _ _ hS) | (refine L_alloc_agg hS rfl rfl ?_; refine ⟨_, zero119, ?_⟩; clear hS; intro _ _ hS))
  rename_i b1 _ b2 w1 _ _
  go_loopw [5] (fun i wr => ∃ k : Nat, k ≤ 32 ∧ i = .int .i64 ((k : Int) - 1) ∧ Hid (n / pw k = m / pw k) ∧ St none w wr [] [(b2, .cells (mgk 32 m) 119), (b1, .cells (mgk 32 n) 119)]) (fun i _ => (intOf i + 1).toNat)
  case atStart =>
    exact ⟨32, by omega, by go_num, by show n / pw 32 = m / pw 32; rw [Nat.div_eq_of_lt HN.out, Nat.div_eq_of_lt HM.out], hS⟩
  case round =>
    clear hS
    obtain ⟨k, hk, rfl, HE, hS⟩ := hrel
    rcases k with _ | j
    · have HC := Lib.hid (cmpv_eq (show n = m by have := HE.out; rwa [div_pw_zero, div_pw_zero] at this))
      go_wp2
      go_ret
      exact ⟨by rw [HC.out]; rfl, hS.below⟩
    · have ej : ((j + 1 : Nat) : Int) - 1 = (j : Int) := by omega
      rw [ej]
      clear ej
      have HC := cmp_step HE.out
      have hj : (j : Int) < 32 := by omega
      by_cases he : limb n j = limb m j
      · have HQ := Lib.hid (HC.1 he)
        have hb1 : (((limb n j : Nat) : Int) == ((limb m j : Nat) : Int)) = true := by rw [he]; simp
        have hb2 : (((limb n j : Nat) : Int) != ((limb m j : Nat) : Int)) = false := by rw [he]; simp
        clear he HC
        go_wp2_with (fail)
        refine wp_region_w0 hS (by kernel_rfl) (by kernel_rfl) ?_
        repeat (first
          | (refine S_load (t := 22) rfl rfl rfl rfl ?_; refine ⟨_, fun _ hS' => run_load_cell hS' _ _ rfl _ _ rfl _ _ (.inl (.head _)) _ Tryz.underlying22 rfl _ (mgk_get' (by omega)), ?_⟩; simp only [Act.put, List.setIfInBounds_toArray, List.set_cons_succ, List.set_cons_zero])
          | (refine S_load (t := 22) rfl rfl rfl rfl ?_; refine ⟨_, fun _ hS' => run_load_cell hS' _ _ rfl _ _ rfl _ _ (.inl (.tail _ (.head _))) _ Tryz.underlying22 rfl _ (mgk_get' (by omega)), ?_⟩; simp only [Act.put, List.setIfInBounds_toArray, List.set_cons_succ, List.set_cons_zero])
          | (refine S_run rfl rfl ?_; apply Exists.intro; refine ⟨fun _ => ?_, ?_⟩; (focus (go_simp; (try go_bits); exact rfl)); simp only [Act.put, List.setIfInBounds_toArray, List.set_cons_succ, List.set_cons_zero]))
        refine S_nil ?_
        intro wn hS
        go_wp2
        go_roundw
        case rel => exact ⟨j, by omega, rfl, HQ, hS⟩
        case measure => simp [intOf]
      · have HQ := Lib.hid (HC.2 he)
        have hb1 : (((limb n j : Nat) : Int) == ((limb m j : Nat) : Int)) = false := by simp; omega
        have hb2 : (((limb n j : Nat) : Int) != ((limb m j : Nat) : Int)) = true := by simp; omega
        clear he HC
        go_wp2_with (fail)
        refine wp_region_w0 hS (by kernel_rfl) (by kernel_rfl) ?_
        repeat (first
          | (refine S_load (t := 22) rfl rfl rfl rfl ?_; refine ⟨_, fun _ hS' => run_load_cell hS' _ _ rfl _ _ rfl _ _ (.inl (.head _)) _ Tryz.underlying22 rfl _ (mgk_get' (by omega)), ?_⟩; simp only [Act.put, List.setIfInBounds_toArray, List.set_cons_succ, List.set_cons_zero])
          | (refine S_load (t := 22) rfl rfl rfl rfl ?_; refine ⟨_, fun _ hS' => run_load_cell hS' _ _ rfl _ _ rfl _ _ (.inl (.tail _ (.head _))) _ Tryz.underlying22 rfl _ (mgk_get' (by omega)), ?_⟩; simp only [Act.put, List.setIfInBounds_toArray, List.set_cons_succ, List.set_cons_zero])
          | (refine S_run rfl rfl ?_; apply Exists.intro; refine ⟨fun _ => ?_, ?_⟩; (focus (go_simp; (try go_bits); exact rfl)); simp only [Act.put, List.setIfInBounds_toArray, List.set_cons_succ, List.set_cons_zero]))
        refine S_nil ?_
        intro wn hS
        go_wp2_with (fail)
        refine wp_region_w0 hS (by kernel_rfl) (by kernel_rfl) ?_
        repeat (first
          | (refine S_load (t := 22) rfl rfl rfl rfl ?_; refine ⟨_, fun _ hS' => run_load_cell hS' _ _ rfl _ _ rfl _ _ (.inl (.head _)) _ Tryz.underlying22 rfl _ (mgk_get' (by omega)), ?_⟩; simp only [Act.put, List.setIfInBounds_toArray, List.set_cons_succ, List.set_cons_zero])
          | (refine S_load (t := 22) rfl rfl rfl rfl ?_; refine ⟨_, fun _ hS' => run_load_cell hS' _ _ rfl _ _ rfl _ _ (.inl (.tail _ (.head _))) _ Tryz.underlying22 rfl _ (mgk_get' (by omega)), ?_⟩; simp only [Act.put, List.setIfInBounds_toArray, List.set_cons_succ, List.set_cons_zero])
          | (refine S_call 177 rfl rfl rfl rfl ?_; apply Exists.intro; refine ⟨fun _ => ?_, ?_⟩; (focus (go_simp; exact rfl)); apply Exists.intro; (with_reducible refine ⟨cmp32 _ _, ?_⟩); simp only [Act.put, List.setIfInBounds_toArray, List.set_cons_succ, List.set_cons_zero])
          | (refine S_run rfl rfl ?_; apply Exists.intro; refine ⟨fun _ => ?_, ?_⟩; (focus (go_simp; (try go_bits); exact rfl)); simp only [Act.put, List.setIfInBounds_toArray, List.set_cons_succ, List.set_cons_zero]))
        refine S_nil ?_
        intro wn hS
        go_wp2
        go_ret
        exact ⟨by rw [← HQ.out]; rfl, hS.below⟩
end Go.Proofs.YtkiefjbfepjcbaaGreatDoor
end
section
namespace Go.Proofs.YtkiefjbfepjcbaaGreatDoor
open Go.RowKit
set_option maxHeartbeats 400000 in
theorem signed_any (s : Bool) (n : Nat) (hn : n < pw 32) : Gives Tryz.prog 118 #[.bool s, .agg (mgk 32 n)] (.agg (ivZ (vz s n))) := by
  intro w
  have hS := St.start w
  have HN := Lib.hid hn
  clear hn
  rw [ivZ_vz]
  cases s
  all_goals
    go_enter Tryz.func118, Tryz.ntmps118
    go_wp2_with (first | (refine L_box_agg hS rfl rfl ?_; refine ⟨_, rfl, ?_⟩; clear hS; intro _ _ hS) | (refine L_alloc_agg hS rfl rfl ?_; refine ⟨_, zero25, ?_⟩; clear hS; intro _ _ hS))
    rename_i b3 _ b4 w1 _ _
  · refine wp_region_w1 hS 8 [] [(b4, .cells (iv (false && !isz n) n) 25), (b3, .cells (mgk 32 n) 119)] (by kernel_rfl) (by kernel_rfl) ?_
    repeat (first
      | (refine S_load (t := 119) rfl rfl rfl rfl ?_; refine ⟨_, fun _ hS' => run_load_row hS' _ _ rfl _ rfl _ _ (.inl (.tail _ (.head _))) _ Tryz.underlying119 rfl (size119_mg _), ?_⟩; simp only [Act.put, List.setIfInBounds_toArray, List.set_cons_succ, List.set_cons_zero])
      | (refine S_store (t := 25) rfl rfl rfl ?_; refine ⟨_, _, _, _, (.head), fun _ hS' => run_store_row hS' _ _ _ rfl _ rfl _ _ rfl _ (.head) (size25_iv _ _) (iv_sizes _ _ _ _) (oneCells_iv _ _), ?_⟩; simp only [Act.put])
      | (refine S_build rfl rfl rfl ?_; refine ⟨_, built25_iv _ _, ?_⟩; simp only [Act.put, List.setIfInBounds_toArray, List.set_cons_succ, List.set_cons_zero])
      | (refine S_run rfl rfl ?_; apply Exists.intro; refine ⟨fun _ => ?_, ?_⟩; (focus (go_simp; (try go_bits); exact rfl)); simp only [Act.put, List.setIfInBounds_toArray, List.set_cons_succ, List.set_cons_zero])
      | (refine S_skip rfl rfl ?_; simp only [Act.put, List.setIfInBounds_toArray, List.set_cons_succ, List.set_cons_zero]))
    refine S_nil ?_
    intro wn hS
    go_wp2
    (try simp only [Exit.inBlock, Exit.then]); refine bodyPost_ret (res_cell rfl hS _ _ _ _ (.inl (.head _)) rfl _ Tryz.underlying25 rfl (size25_iv _ _)) rfl ⟨?_, hS.below⟩
    rfl
  · refine wp_region_w1 hS 8 [] [(b4, .cells (iv (true && !isz n) n) 25), (b3, .cells (mgk 32 n) 119)] (by kernel_rfl) (by kernel_rfl) ?_
    repeat (first
      | (refine S_load (t := 119) rfl rfl rfl rfl ?_; refine ⟨_, fun _ hS' => run_load_row hS' _ _ rfl _ rfl _ _ (.inl (.tail _ (.head _))) _ Tryz.underlying119 rfl (size119_mg _), ?_⟩; simp only [Act.put, List.setIfInBounds_toArray, List.set_cons_succ, List.set_cons_zero])
      | (refine S_call 127 rfl rfl rfl rfl ?_; apply Exists.intro; refine ⟨fun _ => ?_, ?_⟩; (focus (go_simp; exact rfl)); apply Exists.intro; (with_reducible refine ⟨isZero _ HN.out, ?_⟩); simp only [Act.put, List.setIfInBounds_toArray, List.set_cons_succ, List.set_cons_zero])
      | (refine S_store (t := 25) rfl rfl rfl ?_; refine ⟨_, _, _, _, (.head), fun _ hS' => run_store_row hS' _ _ _ rfl _ rfl _ _ rfl _ (.head) (size25_iv _ _) (iv_sizes _ _ _ _) (oneCells_iv _ _), ?_⟩; simp only [Act.put])
      | (refine S_build rfl rfl rfl ?_; refine ⟨_, built25_iv _ _, ?_⟩; simp only [Act.put, List.setIfInBounds_toArray, List.set_cons_succ, List.set_cons_zero])
      | (refine S_run rfl rfl ?_; apply Exists.intro; refine ⟨fun _ => ?_, ?_⟩; (focus (go_simp; (try go_bits); exact rfl)); simp only [Act.put, List.setIfInBounds_toArray, List.set_cons_succ, List.set_cons_zero])
      | (refine S_skip rfl rfl ?_; simp only [Act.put, List.setIfInBounds_toArray, List.set_cons_succ, List.set_cons_zero]))
    refine S_nil ?_
    intro wn hS
    go_wp2
    (try simp only [Exit.inBlock, Exit.then]); refine bodyPost_ret (res_cell rfl hS _ _ _ _ (.inl (.head _)) rfl _ Tryz.underlying25 rfl (size25_iv _ _)) rfl ⟨?_, hS.below⟩
    rfl

def chk (s : Bool) (n : Nat) (fits : Bool) : Value := if fits then .tuple #[.agg (ivZ (vz s n)), .int .i64 0] else .tuple #[.agg (ivZ 0), .int .i64 10]
set_option maxHeartbeats 400000 in
theorem checked_any (s : Bool) (n : Nat) (hn : n < pw 32) (fits : Bool) : Gives Tryz.prog 147 #[.bool s, .agg (mgk 32 n), .bool fits] (chk s n fits) := by
  intro w
  have hS := St.start w
  have HN := Lib.hid hn
  clear hn
  cases fits
  · go_enter Tryz.func147, Tryz.ntmps147
    go_wp2_with (first | (refine L_box_agg hS rfl rfl ?_; refine ⟨_, rfl, ?_⟩; clear hS; intro _ _ hS) | (refine L_alloc_agg hS rfl rfl ?_; refine ⟨_, zero25, ?_⟩; clear hS; intro _ _ hS) | (refine L_build rfl rfl ?_; refine ⟨_, built25, ?_⟩) | (refine L_store (t := 25) hS rfl rfl ?_; refine ⟨_, _, _, _, _, (.head), run_store_row hS _ _ _ rfl _ rfl _ _ rfl _ (.head) (size25_iv _ _) (iv_sizes _ _ _ _) (oneCells_iv _ _), ?_⟩; clear hS; intro _ hS))
    (try simp only [Exit.inBlock, Exit.then]); refine bodyPost_ret (res_cell_tmp rfl _ _ _ (run_loadRow hS _ _ _ _ (.inl (.head _)) _ Tryz.underlying25 rfl (size25_iv _ _)) rfl _ rfl) rfl ⟨?_, hS.below⟩
    rw [← ivZ_zero]; rfl
  · go_enter Tryz.func147, Tryz.ntmps147
    go_wp2_with (first | (refine L_box_agg hS rfl rfl ?_; refine ⟨_, rfl, ?_⟩; clear hS; intro _ _ hS) | (refine L_alloc_agg hS rfl rfl ?_; refine ⟨_, zero25, ?_⟩; clear hS; intro _ _ hS) | (refine L_load (t := 119) rfl rfl ?_; refine ⟨_, run_load_row hS _ _ rfl _ rfl _ _ (.inl (.tail _ (.head _))) _ Tryz.underlying119 rfl (size119_mg _), ?_⟩) | (go_at_call 118; (with_reducible refine Gives.use (signed_any _ _ HN.out) hS ?_); clear hS; intro _ hS) | (refine L_store (t := 25) hS rfl rfl ?_; refine ⟨_, _, _, _, _, (.head), run_store_row hS _ _ _ rfl _ rfl _ _ rfl _ (.head) (size25_iv _ _) (iv_sizes _ _ _ _) (oneCells_iv _ _), ?_⟩; clear hS; intro _ hS))
    (try simp only [Exit.inBlock, Exit.then]); refine bodyPost_ret (res_cell_tmp rfl _ _ _ (run_loadRow hS _ _ _ _ (.inl (.head _)) _ Tryz.underlying25 rfl (size25_iv _ _)) rfl _ rfl) rfl ⟨?_, hS.below⟩
    rfl

def sgn (z : Int) : Int := if z < 0 then -1 else if z = 0 then 0 else 1
theorem sgn_vz_zero (s : Bool) : sgn (vz s 0) = 0 := by cases s <;> rfl
theorem sgn_vz_true {n : Nat} (h : n ≠ 0) : sgn (vz true n) = -1 := by unfold sgn; rw [if_pos (by unfold vz; simp; omega)]
theorem sgn_vz_false {n : Nat} (h : n ≠ 0) : sgn (vz false n) = 1 := by unfold sgn; rw [if_neg (by unfold vz; simp), if_neg (by unfold vz; simp; omega)]
set_option maxHeartbeats 400000 in
theorem sign_any (s : Bool) (n : Nat) (hn : n < pw 32) : Gives Tryz.prog 82 #[.agg (iv s n)] (.int .i64 (sgn (vz s n))) := by
  intro w
  have hS := St.start w
  have HN := Lib.hid hn
  clear hn
  by_cases h0 : n = 0
  · have hz := isz_true h0
    have HV : Hid (sgn (vz s n) = 0) := by subst h0; exact sgn_vz_zero s
    clear h0
    go_enter Tryz.func82, Tryz.ntmps82
    go_wp2_with (first | (refine L_box_agg hS rfl rfl ?_; refine ⟨_, rfl, ?_⟩; clear hS; intro _ _ hS) | (refine L_load (t := 23) rfl rfl ?_; refine ⟨_, run_load_mid hS _ _ rfl _ _ rfl _ _ (.inl (.head _)) _ Tryz.underlying23 rfl (mgk 32 _) (size23_mg _) (fun k _ => iv_mag _ _ k), ?_⟩) | (go_at_call 127; (with_reducible refine Gives.use (isZero _ HN.out) hS ?_); clear hS; intro _ hS))
    go_ret
    exact ⟨by rw [HV.out]; rfl, hS.below⟩
  · have hz := isz_false h0
    cases s
    · have HV := Lib.hid (sgn_vz_false h0)
      clear h0
      go_enter Tryz.func82, Tryz.ntmps82
      go_wp2_with (first | (refine L_box_agg hS rfl rfl ?_; refine ⟨_, rfl, ?_⟩; clear hS; intro _ _ hS) | (refine L_load (t := 23) rfl rfl ?_; refine ⟨_, run_load_mid hS _ _ rfl _ _ rfl _ _ (.inl (.head _)) _ Tryz.underlying23 rfl (mgk 32 _) (size23_mg _) (fun k _ => iv_mag _ _ k), ?_⟩) | (refine L_load (t := 4) rfl rfl ?_; refine ⟨_, run_load_cell hS _ _ rfl _ _ rfl _ _ (.inl (.head _)) _ Tryz.underlying4 rfl _ (iv_neg _ _), ?_⟩) | (go_at_call 127; (with_reducible refine Gives.use (isZero _ HN.out) hS ?_); clear hS; intro _ hS))
      go_ret
      exact ⟨by rw [HV.out]; rfl, hS.below⟩
    · have HV := Lib.hid (sgn_vz_true h0)
      clear h0
      go_enter Tryz.func82, Tryz.ntmps82
      go_wp2_with (first | (refine L_box_agg hS rfl rfl ?_; refine ⟨_, rfl, ?_⟩; clear hS; intro _ _ hS) | (refine L_load (t := 23) rfl rfl ?_; refine ⟨_, run_load_mid hS _ _ rfl _ _ rfl _ _ (.inl (.head _)) _ Tryz.underlying23 rfl (mgk 32 _) (size23_mg _) (fun k _ => iv_mag _ _ k), ?_⟩) | (refine L_load (t := 4) rfl rfl ?_; refine ⟨_, run_load_cell hS _ _ rfl _ _ rfl _ _ (.inl (.head _)) _ Tryz.underlying4 rfl _ (iv_neg _ _), ?_⟩) | (go_at_call 127; (with_reducible refine Gives.use (isZero _ HN.out) hS ?_); clear hS; intro _ hS))
      go_ret
      exact ⟨by rw [HV.out]; rfl, hS.below⟩

theorem vz_not (s : Bool) (n : Nat) : vz (!s) n = -vz s n := by cases s <;> simp [vz]
set_option maxHeartbeats 400000 in
theorem neg_any (s : Bool) (n : Nat) (hn : n < pw 32) : Gives Tryz.prog 83 #[.agg (iv s n)] (.agg (ivZ (-vz s n))) := by
  intro w
  have hS := St.start w
  have HN := Lib.hid hn
  clear hn
  rw [← vz_not]
  go_enter Tryz.func83, Tryz.ntmps83
  go_wp2_with (first | (refine L_box_agg hS rfl rfl ?_; refine ⟨_, rfl, ?_⟩; clear hS; intro _ _ hS) | (refine L_alloc_agg hS rfl rfl ?_; refine ⟨_, zero25, ?_⟩; clear hS; intro _ _ hS) | (refine L_load (t := 23) rfl rfl ?_; refine ⟨_, run_load_mid hS _ _ rfl _ _ rfl _ _ (.inl (.tail _ (.head _))) _ Tryz.underlying23 rfl (mgk 32 _) (size23_mg _) (fun k _ => iv_mag _ _ k), ?_⟩) | (refine L_load (t := 4) rfl rfl ?_; refine ⟨_, run_load_cell hS _ _ rfl _ _ rfl _ _ (.inl (.tail _ (.head _))) _ Tryz.underlying4 rfl _ (iv_neg _ _), ?_⟩) | (go_at_call 118; (with_reducible refine Gives.use (signed_any _ _ HN.out) hS ?_); clear hS; intro _ hS) | (refine L_store (t := 25) hS rfl rfl ?_; refine ⟨_, _, _, _, _, (.head), run_store_row hS _ _ _ rfl _ rfl _ _ rfl _ (.head) (size25_iv _ _) (iv_sizes _ _ _ _) (oneCells_iv _ _), ?_⟩; clear hS; intro _ hS))
  (try simp only [Exit.inBlock, Exit.then]); refine bodyPost_ret (res_cell rfl hS _ _ _ _ (.inl (.head _)) rfl _ Tryz.underlying25 rfl (size25_iv _ _)) rfl ⟨?_, hS.below⟩
  rfl
end Go.Proofs.YtkiefjbfepjcbaaGreatDoor
end
section
namespace Go.Proofs.YtkiefjbfepjcbaaGreatDoor
open Go.RowKit

def cmpZ (x y : Int) : Int := if x < y then -1 else if x = y then 0 else 1
theorem cmpZ_lt {x y : Int} (h : x < y) : cmpZ x y = -1 := if_pos h
theorem cmpZ_eq {x y : Int} (h : x = y) : cmpZ x y = 0 := by unfold cmpZ; rw [if_neg (by omega), if_pos h]
theorem cmpZ_gt {x y : Int} (h : y < x) : cmpZ x y = 1 := by unfold cmpZ; rw [if_neg (by omega), if_neg (by omega)]
set_option maxHeartbeats 400000 in
theorem cmpInt (x y : Int) : Gives Tryz.prog 152 #[.int .i64 x, .int .i64 y] (.int .i64 (cmpZ x y)) := by
  intro w
  rcases Int.lt_trichotomy x y with h | h | h
  · have HC := Lib.hid (cmpZ_lt h)
    go_enter Tryz.func152, Tryz.ntmps152
    go_wp2
    go_ret
    exact ⟨by rw [HC.out]; rfl, Below.refl _ _⟩
  · subst h
    have HC := Lib.hid (cmpZ_eq (rfl : x = x))
    go_enter Tryz.func152, Tryz.ntmps152
    go_wp2
    go_ret
    exact ⟨by rw [HC.out]; rfl, Below.refl _ _⟩
  · have HC := Lib.hid (cmpZ_gt h)
    have h2 : ¬ x < y := by omega
    go_enter Tryz.func152, Tryz.ntmps152
    go_wp2
    go_ret
    exact ⟨by rw [HC.out]; rfl, Below.refl _ _⟩

theorem cmpv_Z (n m : Nat) : cmpv n m = cmpZ n m := by unfold cmpv cmpZ; split <;> split <;> (try split) <;> omega
theorem cmpZ_neg (x y : Int) : cmpZ (-x) (-y) = cmpZ y x := by unfold cmpZ; split <;> split <;> (try split) <;> (try split) <;> omega
theorem sgn_neg {x : Int} (h : x < 0) : sgn x = -1 := if_pos h
theorem sgn_nil {x : Int} (h : x = 0) : sgn x = 0 := by subst h; rfl
theorem sgn_pos {x : Int} (h : 0 < x) : sgn x = 1 := by unfold sgn; rw [if_neg (by omega), if_neg (by omega)]
theorem cmp_sgn {x y : Int} (h : sgn x ≠ sgn y) : cmpZ (sgn x) (sgn y) = cmpZ x y := by
  rcases Int.lt_trichotomy x 0 with hx | hx | hx <;> rcases Int.lt_trichotomy y 0 with hy | hy | hy
  · exact absurd ((sgn_neg hx).trans (sgn_neg hy).symm) h
  · rw [sgn_neg hx, sgn_nil hy, cmpZ_lt (by omega), cmpZ_lt (by omega)]
  · rw [sgn_neg hx, sgn_pos hy, cmpZ_lt (by omega), cmpZ_lt (by omega)]
  · rw [sgn_nil hx, sgn_neg hy, cmpZ_gt (by omega), cmpZ_gt (by omega)]
  · exact absurd ((sgn_nil hx).trans (sgn_nil hy).symm) h
  · rw [sgn_nil hx, sgn_pos hy, cmpZ_lt (by omega), cmpZ_lt (by omega)]
  · rw [sgn_pos hx, sgn_neg hy, cmpZ_gt (by omega), cmpZ_gt (by omega)]
  · rw [sgn_pos hx, sgn_nil hy, cmpZ_gt (by omega), cmpZ_gt (by omega)]
  · exact absurd ((sgn_pos hx).trans (sgn_pos hy).symm) h
theorem cmp_same_neg {t : Bool} {n m : Nat} (h : sgn (vz true n) = sgn (vz t m)) : cmpv m n = cmpZ (vz true n) (vz t m) := by
  cases t
  · have : n = 0 ∧ m = 0 := by
      unfold sgn vz at h
      simp only [if_true, Bool.false_eq_true, if_false] at h
      split at h <;> split at h <;> (try split at h) <;> (try split at h) <;> omega
    obtain ⟨rfl, rfl⟩ := this; rfl
  · rw [cmpv_Z]; show _ = cmpZ (-(n : Int)) (-(m : Int)); rw [cmpZ_neg]
theorem cmp_same_pos {t : Bool} {n m : Nat} (h : sgn (vz false n) = sgn (vz t m)) : cmpv n m = cmpZ (vz false n) (vz t m) := by
  cases t
  · rw [cmpv_Z]; rfl
  · have : n = 0 ∧ m = 0 := by
      unfold sgn vz at h
      simp only [if_true, Bool.false_eq_true, if_false] at h
      split at h <;> split at h <;> (try split at h) <;> (try split at h) <;> omega
    obtain ⟨rfl, rfl⟩ := this; rfl

set_option maxHeartbeats 400000 in
theorem cmp_any (s t : Bool) (n m : Nat) (hn : n < pw 32) (hm : m < pw 32) : Gives Tryz.prog 102 #[.agg (iv s n), .agg (iv t m)] (.int .i64 (cmpZ (vz s n) (vz t m))) := by
  intro w
  have hS := St.start w
  have HN := Lib.hid hn
  have HM := Lib.hid hm
  clear hn hm
  by_cases he : sgn (vz s n) = sgn (vz t m)
  · have hb1 : (sgn (vz s n) == sgn (vz t m)) = true := by rw [he]; simp
    have hb2 : (sgn (vz s n) != sgn (vz t m)) = false := by rw [he]; simp
    cases s
    · have HQ := Lib.hid (cmp_same_pos he)
      clear he
      go_enter Tryz.func102, Tryz.ntmps102
      go_wp2_with (first | (refine L_box_agg hS rfl rfl ?_; refine ⟨_, rfl, ?_⟩; clear hS; intro _ _ hS))
      refine wp_region_w0 hS (by kernel_rfl) (by kernel_rfl) ?_
      repeat (first
        | (refine S_load (t := 25) rfl rfl rfl rfl ?_; refine ⟨_, fun _ hS' => run_load_row hS' _ _ rfl _ rfl _ _ (.inl (.head _)) _ Tryz.underlying25 rfl (size25_iv _ _), ?_⟩; simp only [Act.put, List.setIfInBounds_toArray, List.set_cons_succ, List.set_cons_zero])
        | (refine S_load (t := 25) rfl rfl rfl rfl ?_; refine ⟨_, fun _ hS' => run_load_row hS' _ _ rfl _ rfl _ _ (.inl (.tail _ (.head _))) _ Tryz.underlying25 rfl (size25_iv _ _), ?_⟩; simp only [Act.put, List.setIfInBounds_toArray, List.set_cons_succ, List.set_cons_zero])
        | (refine S_call 82 rfl rfl rfl rfl ?_; apply Exists.intro; refine ⟨fun _ => ?_, ?_⟩; (focus (go_simp; exact rfl)); apply Exists.intro; (with_reducible refine ⟨sign_any _ _ HN.out, ?_⟩); simp only [Act.put, List.setIfInBounds_toArray, List.set_cons_succ, List.set_cons_zero])
        | (refine S_call 82 rfl rfl rfl rfl ?_; apply Exists.intro; refine ⟨fun _ => ?_, ?_⟩; (focus (go_simp; exact rfl)); apply Exists.intro; (with_reducible refine ⟨sign_any _ _ HM.out, ?_⟩); simp only [Act.put, List.setIfInBounds_toArray, List.set_cons_succ, List.set_cons_zero])
        | (refine S_run rfl rfl ?_; apply Exists.intro; refine ⟨fun _ => ?_, ?_⟩; (focus (go_simp; (try go_bits); exact rfl)); simp only [Act.put, List.setIfInBounds_toArray, List.set_cons_succ, List.set_cons_zero]))
      refine S_nil ?_
      intro wn hS
      go_wp2_with (first | (refine L_load (t := 4) rfl rfl ?_; refine ⟨_, run_load_cell hS _ _ rfl _ _ rfl _ _ (.inl (.tail _ (.head _))) _ Tryz.underlying4 rfl _ (iv_neg _ _), ?_⟩) | (refine L_load (t := 23) rfl rfl ?_; refine ⟨_, run_load_mid hS _ _ rfl _ _ rfl _ _ (.inl (.head _)) _ Tryz.underlying23 rfl (mgk 32 _) (size23_mg _) (fun k _ => iv_mag _ _ k), ?_⟩) | (refine L_load (t := 23) rfl rfl ?_; refine ⟨_, run_load_mid hS _ _ rfl _ _ rfl _ _ (.inl (.tail _ (.head _))) _ Tryz.underlying23 rfl (mgk 32 _) (size23_mg _) (fun k _ => iv_mag _ _ k), ?_⟩) | (go_at_call 151; (with_reducible refine Gives.use (compare_any _ _ HN.out HM.out) hS ?_); clear hS; intro _ hS))
      go_ret
      exact ⟨by rw [← HQ.out]; rfl, hS.below⟩
    · have HQ := Lib.hid (cmp_same_neg he)
      clear he
      go_enter Tryz.func102, Tryz.ntmps102
      go_wp2_with (first | (refine L_box_agg hS rfl rfl ?_; refine ⟨_, rfl, ?_⟩; clear hS; intro _ _ hS))
      refine wp_region_w0 hS (by kernel_rfl) (by kernel_rfl) ?_
      repeat (first
        | (refine S_load (t := 25) rfl rfl rfl rfl ?_; refine ⟨_, fun _ hS' => run_load_row hS' _ _ rfl _ rfl _ _ (.inl (.head _)) _ Tryz.underlying25 rfl (size25_iv _ _), ?_⟩; simp only [Act.put, List.setIfInBounds_toArray, List.set_cons_succ, List.set_cons_zero])
        | (refine S_load (t := 25) rfl rfl rfl rfl ?_; refine ⟨_, fun _ hS' => run_load_row hS' _ _ rfl _ rfl _ _ (.inl (.tail _ (.head _))) _ Tryz.underlying25 rfl (size25_iv _ _), ?_⟩; simp only [Act.put, List.setIfInBounds_toArray, List.set_cons_succ, List.set_cons_zero])
        | (refine S_call 82 rfl rfl rfl rfl ?_; apply Exists.intro; refine ⟨fun _ => ?_, ?_⟩; (focus (go_simp; exact rfl)); apply Exists.intro; (with_reducible refine ⟨sign_any _ _ HN.out, ?_⟩); simp only [Act.put, List.setIfInBounds_toArray, List.set_cons_succ, List.set_cons_zero])
        | (refine S_call 82 rfl rfl rfl rfl ?_; apply Exists.intro; refine ⟨fun _ => ?_, ?_⟩; (focus (go_simp; exact rfl)); apply Exists.intro; (with_reducible refine ⟨sign_any _ _ HM.out, ?_⟩); simp only [Act.put, List.setIfInBounds_toArray, List.set_cons_succ, List.set_cons_zero])
        | (refine S_run rfl rfl ?_; apply Exists.intro; refine ⟨fun _ => ?_, ?_⟩; (focus (go_simp; (try go_bits); exact rfl)); simp only [Act.put, List.setIfInBounds_toArray, List.set_cons_succ, List.set_cons_zero]))
      refine S_nil ?_
      intro wn hS
      go_wp2_with (first | (refine L_load (t := 4) rfl rfl ?_; refine ⟨_, run_load_cell hS _ _ rfl _ _ rfl _ _ (.inl (.tail _ (.head _))) _ Tryz.underlying4 rfl _ (iv_neg _ _), ?_⟩) | (refine L_load (t := 23) rfl rfl ?_; refine ⟨_, run_load_mid hS _ _ rfl _ _ rfl _ _ (.inl (.head _)) _ Tryz.underlying23 rfl (mgk 32 _) (size23_mg _) (fun k _ => iv_mag _ _ k), ?_⟩) | (refine L_load (t := 23) rfl rfl ?_; refine ⟨_, run_load_mid hS _ _ rfl _ _ rfl _ _ (.inl (.tail _ (.head _))) _ Tryz.underlying23 rfl (mgk 32 _) (size23_mg _) (fun k _ => iv_mag _ _ k), ?_⟩) | (go_at_call 151; (with_reducible refine Gives.use (compare_any _ _ HM.out HN.out) hS ?_); clear hS; intro _ hS))
      go_ret
      exact ⟨by rw [← HQ.out]; rfl, hS.below⟩
  · have HQ := Lib.hid (cmp_sgn he)
    have hb1 : (sgn (vz s n) == sgn (vz t m)) = false := by simpa using he
    have hb2 : (sgn (vz s n) != sgn (vz t m)) = true := by simpa using he
    clear he
    go_enter Tryz.func102, Tryz.ntmps102
    go_wp2_with (first | (refine L_box_agg hS rfl rfl ?_; refine ⟨_, rfl, ?_⟩; clear hS; intro _ _ hS))
    refine wp_region_w0 hS (by kernel_rfl) (by kernel_rfl) ?_
    repeat (first
      | (refine S_load (t := 25) rfl rfl rfl rfl ?_; refine ⟨_, fun _ hS' => run_load_row hS' _ _ rfl _ rfl _ _ (.inl (.head _)) _ Tryz.underlying25 rfl (size25_iv _ _), ?_⟩; simp only [Act.put, List.setIfInBounds_toArray, List.set_cons_succ, List.set_cons_zero])
      | (refine S_load (t := 25) rfl rfl rfl rfl ?_; refine ⟨_, fun _ hS' => run_load_row hS' _ _ rfl _ rfl _ _ (.inl (.tail _ (.head _))) _ Tryz.underlying25 rfl (size25_iv _ _), ?_⟩; simp only [Act.put, List.setIfInBounds_toArray, List.set_cons_succ, List.set_cons_zero])
      | (refine S_call 82 rfl rfl rfl rfl ?_; apply Exists.intro; refine ⟨fun _ => ?_, ?_⟩; (focus (go_simp; exact rfl)); apply Exists.intro; (with_reducible refine ⟨sign_any _ _ HN.out, ?_⟩); simp only [Act.put, List.setIfInBounds_toArray, List.set_cons_succ, List.set_cons_zero])
      | (refine S_call 82 rfl rfl rfl rfl ?_; apply Exists.intro; refine ⟨fun _ => ?_, ?_⟩; (focus (go_simp; exact rfl)); apply Exists.intro; (with_reducible refine ⟨sign_any _ _ HM.out, ?_⟩); simp only [Act.put, List.setIfInBounds_toArray, List.set_cons_succ, List.set_cons_zero])
      | (refine S_run rfl rfl ?_; apply Exists.intro; refine ⟨fun _ => ?_, ?_⟩; (focus (go_simp; (try go_bits); exact rfl)); simp only [Act.put, List.setIfInBounds_toArray, List.set_cons_succ, List.set_cons_zero]))
    refine S_nil ?_
    intro wn hS
    go_wp2_with (fail)
    refine wp_region_w0 hS (by kernel_rfl) (by kernel_rfl) ?_
    repeat (first
      | (refine S_load (t := 25) rfl rfl rfl rfl ?_; refine ⟨_, fun _ hS' => run_load_row hS' _ _ rfl _ rfl _ _ (.inl (.head _)) _ Tryz.underlying25 rfl (size25_iv _ _), ?_⟩; simp only [Act.put, List.setIfInBounds_toArray, List.set_cons_succ, List.set_cons_zero])
      | (refine S_load (t := 25) rfl rfl rfl rfl ?_; refine ⟨_, fun _ hS' => run_load_row hS' _ _ rfl _ rfl _ _ (.inl (.tail _ (.head _))) _ Tryz.underlying25 rfl (size25_iv _ _), ?_⟩; simp only [Act.put, List.setIfInBounds_toArray, List.set_cons_succ, List.set_cons_zero])
      | (refine S_call 82 rfl rfl rfl rfl ?_; apply Exists.intro; refine ⟨fun _ => ?_, ?_⟩; (focus (go_simp; exact rfl)); apply Exists.intro; (with_reducible refine ⟨sign_any _ _ HN.out, ?_⟩); simp only [Act.put, List.setIfInBounds_toArray, List.set_cons_succ, List.set_cons_zero])
      | (refine S_call 82 rfl rfl rfl rfl ?_; apply Exists.intro; refine ⟨fun _ => ?_, ?_⟩; (focus (go_simp; exact rfl)); apply Exists.intro; (with_reducible refine ⟨sign_any _ _ HM.out, ?_⟩); simp only [Act.put, List.setIfInBounds_toArray, List.set_cons_succ, List.set_cons_zero])
      | (refine S_call 152 rfl rfl rfl rfl ?_; apply Exists.intro; refine ⟨fun _ => ?_, ?_⟩; (focus (go_simp; exact rfl)); apply Exists.intro; (with_reducible refine ⟨cmpInt _ _, ?_⟩); simp only [Act.put, List.setIfInBounds_toArray, List.set_cons_succ, List.set_cons_zero])
      | (refine S_run rfl rfl ?_; apply Exists.intro; refine ⟨fun _ => ?_, ?_⟩; (focus (go_simp; (try go_bits); exact rfl)); simp only [Act.put, List.setIfInBounds_toArray, List.set_cons_succ, List.set_cons_zero]))
    refine S_nil ?_
    intro wn hS
    go_wp2
    go_ret
    exact ⟨by rw [← HQ.out]; rfl, hS.below⟩

theorem checked_yes (s : Bool) (n : Nat) (hn : n < pw 32) : Gives Tryz.prog 147 #[.bool s, .agg (mgk 32 n), .bool true] (.tuple #[.agg (ivZ (vz s n)), .int .i64 0]) := checked_any s n hn true
theorem checked_no (s : Bool) (n : Nat) (hn : n < pw 32) : Gives Tryz.prog 147 #[.bool s, .agg (mgk 32 n), .bool false] (.tuple #[.agg (ivZ 0), .int .i64 10]) := checked_any s n hn false
theorem vz_add_same (s : Bool) (n m : Nat) : vz s n + vz s m = vz s (n + m) := by cases s <;> simp [vz] <;> omega
theorem vz_add_lt {s t : Bool} (h : s ≠ t) {n m : Nat} (hl : n < m) : vz s n + vz t m = vz t (m - n) := by
  cases s <;> cases t <;> first | exact absurd rfl h | (simp [vz]; omega)
theorem vz_add_ge {s t : Bool} (h : s ≠ t) {n m : Nat} (hl : m ≤ n) : vz s n + vz t m = vz s (n - m) := by
  cases s <;> cases t <;> first | exact absurd rfl h | (simp [vz]; omega)

set_option maxRecDepth 100000 in
set_option maxHeartbeats 1000000 in
theorem add_same (s : Bool) (n m : Nat) (hn : n < pw 32) (hm : m < pw 32) : Gives Tryz.prog 101 #[.agg (iv s n), .agg (iv s m)] (resZ (vz s n + vz s m)) := by
  intro w
  have hS := St.start w
  have HN := Lib.hid hn
  have HM := Lib.hid hm
  have hss : (s == s) = true := by simp
  rw [vz_add_same]
  by_cases hfit : n + m < pw 32
  · have HR : Hid (resZ (vz s (n + m)) = _) := resZ_fits (z := vz s (n + m)) (by rw [vz_abs]; exact hfit)
    have hd := decide_eq_true hfit
    have HL : Hid ((n + m) % pw 32 = n + m) := Nat.mod_eq_of_lt hfit
    clear hn hm hfit
    go_enter Tryz.func101, Tryz.ntmps101
    go_wp2_with (first | (refine L_box_agg hS rfl rfl ?_; refine ⟨_, rfl, ?_⟩; clear hS; intro _ _ hS) | (refine L_alloc_agg hS rfl rfl ?_; refine ⟨_, zero25, ?_⟩; clear hS; intro _ _ hS) | (refine L_alloc_agg hS rfl rfl ?_; refine ⟨_, zero119, ?_⟩; clear hS; intro _ _ hS) | (refine L_load (t := 4) rfl rfl ?_; refine ⟨_, run_load_cell hS _ _ rfl _ _ rfl _ _ (.inl (.tail _ (.tail _ (.head _)))) _ Tryz.underlying4 rfl _ (iv_neg _ _), ?_⟩) | (refine L_load (t := 4) rfl rfl ?_; refine ⟨_, run_load_cell hS _ _ rfl _ _ rfl _ _ (.inl (.tail _ (.head _))) _ Tryz.underlying4 rfl _ (iv_neg _ _), ?_⟩) | (refine L_load (t := 4) rfl rfl ?_; refine ⟨_, run_load_cell hS _ _ rfl _ _ rfl _ _ (.inl (.tail _ (.tail _ (.tail _ (.head _))))) _ Tryz.underlying4 rfl _ (iv_neg _ _), ?_⟩) | (refine L_load (t := 23) rfl rfl ?_; refine ⟨_, run_load_mid hS _ _ rfl _ _ rfl _ _ (.inl (.tail _ (.tail _ (.head _)))) _ Tryz.underlying23 rfl (mgk 32 _) (size23_mg _) (fun k _ => iv_mag _ _ k), ?_⟩) | (refine L_load (t := 23) rfl rfl ?_; refine ⟨_, run_load_mid hS _ _ rfl _ _ rfl _ _ (.inl (.tail _ (.head _))) _ Tryz.underlying23 rfl (mgk 32 _) (size23_mg _) (fun k _ => iv_mag _ _ k), ?_⟩) | (refine L_load (t := 119) rfl rfl ?_; refine ⟨_, run_load_row hS _ _ rfl _ rfl _ _ (.inl (.head _)) _ Tryz.underlying119 rfl (size119_mg _), ?_⟩) | (refine L_store (t := 119) hS rfl rfl ?_; refine ⟨_, _, _, _, _, (.head), run_store_row hS _ _ _ rfl _ rfl _ _ rfl _ (.head) (size119_mg _) (mg_sizes _ _ _) (oneCells _ _), ?_⟩; clear hS; intro _ hS) | (refine L_store (t := 25) hS rfl rfl ?_; refine ⟨_, _, _, _, _, (.tail .head), run_store_row hS _ _ _ rfl _ rfl _ _ rfl _ (.tail .head) (size25_iv _ _) (iv_sizes _ _ _ _) (oneCells_iv _ _), ?_⟩; clear hS; intro _ hS) | (go_at_call 149; (with_reducible refine Gives.use (plus _ _ HN.out HM.out) hS ?_); clear hS; intro _ hS) | (go_at_call 147; (with_reducible refine Gives.use (checked_yes _ _ (Nat.mod_lt _ (pw_pos _))) hS ?_); clear hS; intro _ hS))
    (try simp only [Exit.inBlock, Exit.then]); refine bodyPost_ret (res_cell_tmp rfl _ _ _ (run_loadRow hS _ _ _ _ (.inl (.tail _ (.head _))) _ Tryz.underlying25 rfl (size25_iv _ _)) rfl _ rfl) rfl ⟨?_, hS.below⟩
    rw [HR.out, HL.out]; rfl
  · have HR : Hid (resZ (vz s (n + m)) = _) := resZ_not (z := vz s (n + m)) (by rw [vz_abs]; exact hfit)
    have hd := decide_eq_false hfit
    clear hn hm hfit
    go_enter Tryz.func101, Tryz.ntmps101
    go_wp2_with (first | (refine L_box_agg hS rfl rfl ?_; refine ⟨_, rfl, ?_⟩; clear hS; intro _ _ hS) | (refine L_alloc_agg hS rfl rfl ?_; refine ⟨_, zero25, ?_⟩; clear hS; intro _ _ hS) | (refine L_alloc_agg hS rfl rfl ?_; refine ⟨_, zero119, ?_⟩; clear hS; intro _ _ hS) | (refine L_load (t := 4) rfl rfl ?_; refine ⟨_, run_load_cell hS _ _ rfl _ _ rfl _ _ (.inl (.tail _ (.tail _ (.head _)))) _ Tryz.underlying4 rfl _ (iv_neg _ _), ?_⟩) | (refine L_load (t := 4) rfl rfl ?_; refine ⟨_, run_load_cell hS _ _ rfl _ _ rfl _ _ (.inl (.tail _ (.head _))) _ Tryz.underlying4 rfl _ (iv_neg _ _), ?_⟩) | (refine L_load (t := 4) rfl rfl ?_; refine ⟨_, run_load_cell hS _ _ rfl _ _ rfl _ _ (.inl (.tail _ (.tail _ (.tail _ (.head _))))) _ Tryz.underlying4 rfl _ (iv_neg _ _), ?_⟩) | (refine L_load (t := 23) rfl rfl ?_; refine ⟨_, run_load_mid hS _ _ rfl _ _ rfl _ _ (.inl (.tail _ (.tail _ (.head _)))) _ Tryz.underlying23 rfl (mgk 32 _) (size23_mg _) (fun k _ => iv_mag _ _ k), ?_⟩) | (refine L_load (t := 23) rfl rfl ?_; refine ⟨_, run_load_mid hS _ _ rfl _ _ rfl _ _ (.inl (.tail _ (.head _))) _ Tryz.underlying23 rfl (mgk 32 _) (size23_mg _) (fun k _ => iv_mag _ _ k), ?_⟩) | (refine L_load (t := 119) rfl rfl ?_; refine ⟨_, run_load_row hS _ _ rfl _ rfl _ _ (.inl (.head _)) _ Tryz.underlying119 rfl (size119_mg _), ?_⟩) | (refine L_store (t := 119) hS rfl rfl ?_; refine ⟨_, _, _, _, _, (.head), run_store_row hS _ _ _ rfl _ rfl _ _ rfl _ (.head) (size119_mg _) (mg_sizes _ _ _) (oneCells _ _), ?_⟩; clear hS; intro _ hS) | (refine L_store (t := 25) hS rfl rfl ?_; refine ⟨_, _, _, _, _, (.tail .head), run_store_row hS _ _ _ rfl _ rfl _ _ rfl _ (.tail .head) (size25_iv _ _) (iv_sizes _ _ _ _) (oneCells_iv _ _), ?_⟩; clear hS; intro _ hS) | (go_at_call 149; (with_reducible refine Gives.use (plus _ _ HN.out HM.out) hS ?_); clear hS; intro _ hS) | (go_at_call 147; (with_reducible refine Gives.use (checked_no _ _ (Nat.mod_lt _ (pw_pos _))) hS ?_); clear hS; intro _ hS))
    (try simp only [Exit.inBlock, Exit.then]); refine bodyPost_ret (res_cell_tmp rfl _ _ _ (run_loadRow hS _ _ _ _ (.inl (.tail _ (.head _))) _ Tryz.underlying25 rfl (size25_iv _ _)) rfl _ rfl) rfl ⟨?_, hS.below⟩
    rw [HR.out]; rfl

set_option maxRecDepth 100000 in
set_option maxHeartbeats 1000000 in
theorem add_other (s t : Bool) (n m : Nat) (hst : s ≠ t) (hn : n < pw 32) (hm : m < pw 32) : Gives Tryz.prog 101 #[.agg (iv s n), .agg (iv t m)] (resZ (vz s n + vz t m)) := by
  intro w
  have hS := St.start w
  have HN := Lib.hid hn
  have HM := Lib.hid hm
  have hss : (s == t) = false := by simpa using hst
  by_cases hlt : n < m
  · have HR : Hid (resZ (vz t (m - n)) = _) := resZ_fits (z := vz t (m - n)) (by rw [vz_abs]; omega)
    have HD : Hid (m - n < pw 32) := Nat.lt_of_le_of_lt (Nat.sub_le _ _) hm
    have HE : Hid (n ≤ m) := Nat.le_of_lt hlt
    rw [vz_add_lt hst hlt]
    have hc := cmpv_lt hlt
    clear hn hm hst hlt
    go_enter Tryz.func101, Tryz.ntmps101
    go_wp2_with (first | (refine L_box_agg hS rfl rfl ?_; refine ⟨_, rfl, ?_⟩; clear hS; intro _ _ hS) | (refine L_alloc_agg hS rfl rfl ?_; refine ⟨_, zero25, ?_⟩; clear hS; intro _ _ hS) | (refine L_load (t := 4) rfl rfl ?_; refine ⟨_, run_load_cell hS _ _ rfl _ _ rfl _ _ (.inl (.tail _ (.tail _ (.head _)))) _ Tryz.underlying4 rfl _ (iv_neg _ _), ?_⟩) | (refine L_load (t := 4) rfl rfl ?_; refine ⟨_, run_load_cell hS _ _ rfl _ _ rfl _ _ (.inl (.tail _ (.head _))) _ Tryz.underlying4 rfl _ (iv_neg _ _), ?_⟩) | (refine L_load (t := 23) rfl rfl ?_; refine ⟨_, run_load_mid hS _ _ rfl _ _ rfl _ _ (.inl (.tail _ (.tail _ (.head _)))) _ Tryz.underlying23 rfl (mgk 32 _) (size23_mg _) (fun k _ => iv_mag _ _ k), ?_⟩) | (refine L_load (t := 23) rfl rfl ?_; refine ⟨_, run_load_mid hS _ _ rfl _ _ rfl _ _ (.inl (.tail _ (.head _))) _ Tryz.underlying23 rfl (mgk 32 _) (size23_mg _) (fun k _ => iv_mag _ _ k), ?_⟩) | (go_at_call 151; (with_reducible refine Gives.use (compare_any _ _ HN.out HM.out) hS ?_); clear hS; intro _ hS))
    (try simp only [Act.put]); (try simp only [List.setIfInBounds_toArray, List.set_cons_succ, List.set_cons_zero]); refine wp_region_u1 hS 8 [] (.head (o' := .cells (ivZ (vz t (m - n))) 25)) (by kernel_rfl) (by kernel_rfl) ?_
    repeat (first
      | (refine S_load (t := 4) rfl rfl rfl rfl ?_; refine ⟨_, fun _ hS' => run_load_cell hS' _ _ rfl _ _ rfl _ _ (.inl (.tail _ (.head _))) _ Tryz.underlying4 rfl _ (iv_neg _ _), ?_⟩; simp only [Act.put, List.setIfInBounds_toArray, List.set_cons_succ, List.set_cons_zero]) | (refine S_load (t := 23) rfl rfl rfl rfl ?_; refine ⟨_, fun _ hS' => run_load_mid hS' _ _ rfl _ _ rfl _ _ (.inl (.tail _ (.head _))) _ Tryz.underlying23 rfl (mgk 32 _) (size23_mg _) (fun k _ => iv_mag _ _ k), ?_⟩; simp only [Act.put, List.setIfInBounds_toArray, List.set_cons_succ, List.set_cons_zero]) | (refine S_load (t := 23) rfl rfl rfl rfl ?_; refine ⟨_, fun _ hS' => run_load_mid hS' _ _ rfl _ _ rfl _ _ (.inl (.tail _ (.tail _ (.head _)))) _ Tryz.underlying23 rfl (mgk 32 _) (size23_mg _) (fun k _ => iv_mag _ _ k), ?_⟩; simp only [Act.put, List.setIfInBounds_toArray, List.set_cons_succ, List.set_cons_zero])
      | (refine S_call 150 rfl rfl rfl rfl ?_; apply Exists.intro; refine ⟨fun _ => ?_, ?_⟩; (focus (go_simp; exact rfl)); apply Exists.intro; (with_reducible refine ⟨minus _ _ HM.out HE.out, ?_⟩); simp only [Act.put, List.setIfInBounds_toArray, List.set_cons_succ, List.set_cons_zero])
      | (refine S_call 118 rfl rfl rfl rfl ?_; apply Exists.intro; refine ⟨fun _ => ?_, ?_⟩; (focus (go_simp; exact rfl)); apply Exists.intro; (with_reducible refine ⟨signed_any _ _ HD.out, ?_⟩); simp only [Act.put, List.setIfInBounds_toArray, List.set_cons_succ, List.set_cons_zero])
      | (refine S_store (t := 25) rfl rfl rfl ?_; refine ⟨_, _, _, _, (.head), fun _ hS' => run_store_row hS' _ _ _ rfl _ rfl _ _ rfl _ (.head) (size25_iv _ _) (iv_sizes _ _ _ _) (oneCells_iv _ _), ?_⟩; simp only [Act.put])
      | (refine S_run rfl rfl ?_; apply Exists.intro; refine ⟨fun _ => ?_, ?_⟩; (focus (go_simp; (try go_bits); exact rfl)); simp only [Act.put, List.setIfInBounds_toArray, List.set_cons_succ, List.set_cons_zero]))
    refine S_nil ?_
    intro wn hS
    go_wp2
    (try simp only [Exit.inBlock, Exit.then]); refine bodyPost_ret (res_cell_tmp rfl _ _ _ (run_loadRow hS _ _ _ _ (.inl (.head _)) _ Tryz.underlying25 rfl (size25_iv _ _)) rfl _ rfl) rfl ⟨?_, hS.below⟩
    rw [HR.out]; rfl
  · have hle : m ≤ n := by omega
    have HR : Hid (resZ (vz s (n - m)) = _) := resZ_fits (z := vz s (n - m)) (by rw [vz_abs]; omega)
    have HD : Hid (n - m < pw 32) := Nat.lt_of_le_of_lt (Nat.sub_le _ _) hn
    have HE := Lib.hid hle
    rw [vz_add_ge hst hle]
    have hc : 0 ≤ cmpv n m := by unfold cmpv; rw [if_neg hlt]; split <;> omega
    clear hn hm hst hlt hle
    go_enter Tryz.func101, Tryz.ntmps101
    go_wp2_with (first | (refine L_box_agg hS rfl rfl ?_; refine ⟨_, rfl, ?_⟩; clear hS; intro _ _ hS) | (refine L_alloc_agg hS rfl rfl ?_; refine ⟨_, zero25, ?_⟩; clear hS; intro _ _ hS) | (refine L_load (t := 4) rfl rfl ?_; refine ⟨_, run_load_cell hS _ _ rfl _ _ rfl _ _ (.inl (.tail _ (.tail _ (.head _)))) _ Tryz.underlying4 rfl _ (iv_neg _ _), ?_⟩) | (refine L_load (t := 4) rfl rfl ?_; refine ⟨_, run_load_cell hS _ _ rfl _ _ rfl _ _ (.inl (.tail _ (.head _))) _ Tryz.underlying4 rfl _ (iv_neg _ _), ?_⟩) | (refine L_load (t := 23) rfl rfl ?_; refine ⟨_, run_load_mid hS _ _ rfl _ _ rfl _ _ (.inl (.tail _ (.tail _ (.head _)))) _ Tryz.underlying23 rfl (mgk 32 _) (size23_mg _) (fun k _ => iv_mag _ _ k), ?_⟩) | (refine L_load (t := 23) rfl rfl ?_; refine ⟨_, run_load_mid hS _ _ rfl _ _ rfl _ _ (.inl (.tail _ (.head _))) _ Tryz.underlying23 rfl (mgk 32 _) (size23_mg _) (fun k _ => iv_mag _ _ k), ?_⟩) | (go_at_call 151; (with_reducible refine Gives.use (compare_any _ _ HN.out HM.out) hS ?_); clear hS; intro _ hS))
    (try simp only [Act.put]); (try simp only [List.setIfInBounds_toArray, List.set_cons_succ, List.set_cons_zero]); refine wp_region_u1 hS 8 [] (.head (o' := .cells (ivZ (vz s (n - m))) 25)) (by kernel_rfl) (by kernel_rfl) ?_
    repeat (first
      | (refine S_load (t := 4) rfl rfl rfl rfl ?_; refine ⟨_, fun _ hS' => run_load_cell hS' _ _ rfl _ _ rfl _ _ (.inl (.tail _ (.tail _ (.head _)))) _ Tryz.underlying4 rfl _ (iv_neg _ _), ?_⟩; simp only [Act.put, List.setIfInBounds_toArray, List.set_cons_succ, List.set_cons_zero]) | (refine S_load (t := 23) rfl rfl rfl rfl ?_; refine ⟨_, fun _ hS' => run_load_mid hS' _ _ rfl _ _ rfl _ _ (.inl (.tail _ (.tail _ (.head _)))) _ Tryz.underlying23 rfl (mgk 32 _) (size23_mg _) (fun k _ => iv_mag _ _ k), ?_⟩; simp only [Act.put, List.setIfInBounds_toArray, List.set_cons_succ, List.set_cons_zero]) | (refine S_load (t := 23) rfl rfl rfl rfl ?_; refine ⟨_, fun _ hS' => run_load_mid hS' _ _ rfl _ _ rfl _ _ (.inl (.tail _ (.head _))) _ Tryz.underlying23 rfl (mgk 32 _) (size23_mg _) (fun k _ => iv_mag _ _ k), ?_⟩; simp only [Act.put, List.setIfInBounds_toArray, List.set_cons_succ, List.set_cons_zero])
      | (refine S_call 150 rfl rfl rfl rfl ?_; apply Exists.intro; refine ⟨fun _ => ?_, ?_⟩; (focus (go_simp; exact rfl)); apply Exists.intro; (with_reducible refine ⟨minus _ _ HN.out HE.out, ?_⟩); simp only [Act.put, List.setIfInBounds_toArray, List.set_cons_succ, List.set_cons_zero])
      | (refine S_call 118 rfl rfl rfl rfl ?_; apply Exists.intro; refine ⟨fun _ => ?_, ?_⟩; (focus (go_simp; exact rfl)); apply Exists.intro; (with_reducible refine ⟨signed_any _ _ HD.out, ?_⟩); simp only [Act.put, List.setIfInBounds_toArray, List.set_cons_succ, List.set_cons_zero])
      | (refine S_store (t := 25) rfl rfl rfl ?_; refine ⟨_, _, _, _, (.head), fun _ hS' => run_store_row hS' _ _ _ rfl _ rfl _ _ rfl _ (.head) (size25_iv _ _) (iv_sizes _ _ _ _) (oneCells_iv _ _), ?_⟩; simp only [Act.put])
      | (refine S_run rfl rfl ?_; apply Exists.intro; refine ⟨fun _ => ?_, ?_⟩; (focus (go_simp; (try go_bits); exact rfl)); simp only [Act.put, List.setIfInBounds_toArray, List.set_cons_succ, List.set_cons_zero]))
    refine S_nil ?_
    intro wn hS
    go_wp2
    (try simp only [Exit.inBlock, Exit.then]); refine bodyPost_ret (res_cell_tmp rfl _ _ _ (run_loadRow hS _ _ _ _ (.inl (.head _)) _ Tryz.underlying25 rfl (size25_iv _ _)) rfl _ rfl) rfl ⟨?_, hS.below⟩
    rw [HR.out]; rfl
theorem add_any (s t : Bool) (n m : Nat) (hn : n < pw 32) (hm : m < pw 32) : Gives Tryz.prog 101 #[.agg (iv s n), .agg (iv t m)] (resZ (vz s n + vz t m)) := by
  by_cases h : s = t
  · subst h; exact add_same s n m hn hm
  · exact add_other s t n m h hn hm
end Go.Proofs.YtkiefjbfepjcbaaGreatDoor
end
section
namespace Go.Proofs.YtkiefjbfepjcbaaGreatDoor
open Go.RowKit

theorem add_yes (s t : Bool) (n m : Nat) (hn : n < pw 32) (hm : m < pw 32) (h : (vz s n + vz t m).natAbs < pw 32) : Gives Tryz.prog 101 #[.agg (iv s n), .agg (iv t m)] (.tuple #[.agg (ivZ (vz s n + vz t m)), .int .i64 0]) := by
  rw [← resZ_fits h]; exact add_any s t n m hn hm
theorem two_limbs (k : Nat) : k % 4294967296 + k / 4294967296 * 4294967296 = k := by omega
theorem pw2_le : pw 2 ≤ pw 32 := pw_le (by omega)
theorem pw_two : pw 2 = 18446744073709551616 := by rw [pw_succ, pw_one]
set_option maxHeartbeats 400000 in
theorem fromInt_pos (k : Nat) (hk : k < 9223372036854775808) : Gives Tryz.prog 63 #[.int .i64 (k : Int)] (.agg (ivZ (k : Int))) := by
  intro w
  have hS := St.start w
  have G1 : Gives Tryz.prog 118 #[.bool false, .agg (mgk 32 (k % 4294967296 + k / 4294967296 * 4294967296))] (.agg (ivZ (k : Int))) := by
    rw [two_limbs]; exact signed_any false k (Nat.lt_of_lt_of_le (by rw [pw_two]; omega) pw2_le)
  go_enter Tryz.func63, Tryz.ntmps63
  go_wp2_with (first | (refine L_box_agg hS rfl rfl ?_; refine ⟨_, rfl, ?_⟩; clear hS; intro _ _ hS) | (refine L_alloc_agg hS rfl rfl ?_; refine ⟨_, zero25, ?_⟩; clear hS; intro _ _ hS) | (refine L_build rfl rfl ?_; refine ⟨_, built119_two (k % 4294967296) (k / 4294967296) _ _ (by omega) (by omega) (by omega) (by omega), ?_⟩) | (go_at_call 118; refine Gives.use (G1) hS ?_; clear hS; intro _ hS) | (refine L_store (t := 25) hS rfl rfl ?_; refine ⟨_, _, _, _, _, (.head), run_store_row hS _ _ _ rfl _ rfl _ _ rfl _ (.head) (size25_iv _ _) (iv_sizes _ _ _ _) (oneCells_iv _ _), ?_⟩; clear hS; intro _ hS))
  (try simp only [Exit.inBlock, Exit.then]); refine bodyPost_ret (res_cell rfl hS _ _ _ _ (.inl (.head _)) rfl _ Tryz.underlying25 rfl (size25_iv _ _)) rfl ⟨?_, hS.below⟩
  rfl
set_option maxHeartbeats 400000 in
theorem fromInt_neg (k : Nat) (hk : k ≤ 9223372036854775808) (h0 : 0 < k) : Gives Tryz.prog 63 #[.int .i64 (-(k : Int))] (.agg (ivZ (-(k : Int)))) := by
  intro w
  have hS := St.start w
  have G1 : Gives Tryz.prog 118 #[.bool true, .agg (mgk 32 (k % 4294967296 + k / 4294967296 * 4294967296))] (.agg (ivZ (-(k : Int)))) := by
    rw [two_limbs]; exact signed_any true k (Nat.lt_of_lt_of_le (by rw [pw_two]; omega) pw2_le)
  have hwr : IntKind.u64.wrap (-IntKind.u64.wrap (-(k : Int))) = (k : Int) := by rw [IntKind.wrap_u64, IntKind.wrap_u64]; omega
  go_enter Tryz.func63, Tryz.ntmps63
  go_wp2_with (first | (refine L_box_agg hS rfl rfl ?_; refine ⟨_, rfl, ?_⟩; clear hS; intro _ _ hS) | (refine L_alloc_agg hS rfl rfl ?_; refine ⟨_, zero25, ?_⟩; clear hS; intro _ _ hS) | (refine L_build rfl rfl ?_; refine ⟨_, built119_two (k % 4294967296) (k / 4294967296) _ _ (by omega) (by omega) (by omega) (by omega), ?_⟩) | (go_at_call 118; refine Gives.use (G1) hS ?_; clear hS; intro _ hS) | (refine L_store (t := 25) hS rfl rfl ?_; refine ⟨_, _, _, _, _, (.head), run_store_row hS _ _ _ rfl _ rfl _ _ rfl _ (.head) (size25_iv _ _) (iv_sizes _ _ _ _) (oneCells_iv _ _), ?_⟩; clear hS; intro _ hS))
  (try simp only [Exit.inBlock, Exit.then]); refine bodyPost_ret (res_cell rfl hS _ _ _ _ (.inl (.head _)) rfl _ Tryz.underlying25 rfl (size25_iv _ _)) rfl ⟨?_, hS.below⟩
  rfl
theorem fromInt_any (z : Int) (h : -9223372036854775808 ≤ z ∧ z ≤ 9223372036854775807) : Gives Tryz.prog 63 #[.int .i64 z] (.agg (ivZ z)) := by
  by_cases h0 : z < 0
  · obtain ⟨k, rfl⟩ : ∃ k : Nat, z = -(k : Int) := ⟨z.natAbs, by omega⟩
    exact fromInt_neg k (by omega) (by omega)
  · obtain ⟨k, rfl⟩ : ∃ k : Nat, z = (k : Int) := ⟨z.natAbs, by omega⟩
    exact fromInt_pos k (by omega)

def low64 (n : Nat) : Nat := n % 18446744073709551616
theorem low64_eq (n : Nat) : limb n 1 * 4294967296 + limb n 0 = low64 n := by
  unfold limb low64; rw [pw_one, pw_zero, Nat.div_one]; omega
def tryInt (s : Bool) (n : Nat) : Int := if s then IntKind.i64.wrap (-IntKind.i64.wrap (low64 n)) else IntKind.i64.wrap (low64 n)
theorem tryInt_range (s : Bool) (n : Nat) : -9223372036854775808 ≤ tryInt s n ∧ tryInt s n ≤ 9223372036854775807 := by
  unfold tryInt; split <;> (rw [IntKind.wrap_i64]; omega)
theorem tryInt_eq {s : Bool} {n : Nat} (h : -9223372036854775808 ≤ vz s n ∧ vz s n ≤ 9223372036854775807) : tryInt s n = vz s n := by
  unfold tryInt vz low64 at *
  cases s
  · simp only [Bool.false_eq_true, if_false] at *; rw [IntKind.wrap_i64]; omega
  · simp only [if_true] at *; rw [IntKind.wrap_i64, IntKind.wrap_i64]; omega
def toI (s : Bool) (n : Nat) : Value := if -9223372036854775808 ≤ vz s n ∧ vz s n ≤ 9223372036854775807 then .tuple #[.int .i64 (vz s n), .bool true] else .tuple #[.int .i64 0, .bool false]
theorem or_low (n : Nat) : bits BinOp.or IntKind.u64 ((limb n 1 : Nat) * 4294967296 : Int) ((limb n 0 : Nat) : Int) = ((low64 n : Nat) : Int) := by
  have h0 := limb_lt n 0
  have h1 := limb_lt n 1
  rw [show ((limb n 1 : Nat) * 4294967296 : Int) = ((limb n 1 * 4294967296 : Nat) : Int) by simp, u64_or_nat _ _ (by omega) (by omega), nat_join 32 _ _ (by omega) (by omega), low64_eq]

set_option maxRecDepth 10000 in
set_option maxHeartbeats 1000000 in
theorem toInt_any (s : Bool) (n : Nat) (hn : n < pw 32) : Gives Tryz.prog 59 #[.agg (iv s n)] (toI s n) := by
  intro w
  have hS := St.start w
  have hor := or_low n
  have l0 := limb_lt n 0
  have l1 := limb_lt n 1
  have HV : Hid ((vz s n).natAbs < pw 32) := by show (vz s n).natAbs < pw 32; rw [vz_abs]; exact hn
  obtain ⟨z, hz⟩ : ∃ z, z = tryInt s n := ⟨_, rfl⟩
  have hzr : -9223372036854775808 ≤ z ∧ z ≤ 9223372036854775807 := by rw [hz]; exact tryInt_range s n
  have hza : z.natAbs < pw 32 := Nat.lt_of_lt_of_le (by rw [pw_two]; omega) pw2_le
  have G1 : Gives Tryz.prog 63 #[.int .i64 z] (.agg (ivZ z)) := fromInt_any z hzr
  have G2 := signed_any s n hn
  clear hn
  cases s
  · have hz' : IntKind.i64.wrap ((low64 n : Nat) : Int) = z := by rw [hz]; rfl
    by_cases hin : -9223372036854775808 ≤ vz false n ∧ vz false n ≤ 9223372036854775807
    · have HT : Hid (toI false n = .tuple #[.int .i64 z, .bool true]) := by show toI false n = _; unfold toI; rw [if_pos hin, hz, tryInt_eq hin]
      have hb : neZ z (vz false n) = false := neZ_false (hz.trans (tryInt_eq hin))
      clear hz hin
      go_enter Tryz.func59, Tryz.ntmps59
      go_wp2_with (first | (refine L_box_agg hS rfl rfl ?_; refine ⟨_, rfl, ?_⟩; clear hS; intro _ _ hS) | (refine L_load (t := 22) rfl rfl ?_; refine ⟨_, run_load_cell hS _ _ rfl _ _ rfl _ _ (.inl (.head _)) _ Tryz.underlying22 rfl _ (iv_limb (k := 1) (by omega)), ?_⟩) | (refine L_load (t := 22) rfl rfl ?_; refine ⟨_, run_load_cell hS _ _ rfl _ _ rfl _ _ (.inl (.head _)) _ Tryz.underlying22 rfl _ (iv_limb (k := 0) (by omega)), ?_⟩) | (refine L_load (t := 4) rfl rfl ?_; refine ⟨_, run_load_cell hS _ _ rfl _ _ rfl _ _ (.inl (.head _)) _ Tryz.underlying4 rfl _ (iv_neg _ _), ?_⟩))
      (try simp only [Act.put]); (try simp only [List.setIfInBounds_toArray, List.set_cons_succ, List.set_cons_zero]); refine wp_region_w0 hS (by kernel_rfl) (by kernel_rfl) ?_
      repeat (first
        | (refine S_load (t := 4) rfl rfl rfl rfl ?_; refine ⟨_, fun _ hS' => run_load_cell hS' _ _ rfl _ _ rfl _ _ (.inl (.head _)) _ Tryz.underlying4 rfl _ (iv_neg _ _), ?_⟩; simp only [Act.put, List.setIfInBounds_toArray, List.set_cons_succ, List.set_cons_zero]) | (refine S_load (t := 23) rfl rfl rfl rfl ?_; refine ⟨_, fun _ hS' => run_load_mid hS' _ _ rfl _ _ rfl _ _ (.inl (.head _)) _ Tryz.underlying23 rfl (mgk 32 _) (size23_mg _) (fun k _ => iv_mag _ _ k), ?_⟩; simp only [Act.put, List.setIfInBounds_toArray, List.set_cons_succ, List.set_cons_zero])
        | (refine S_call 63 rfl rfl rfl rfl ?_; apply Exists.intro; refine ⟨fun _ => ?_, ?_⟩; (focus (go_simp; exact rfl)); apply Exists.intro; (with_reducible refine ⟨G1, ?_⟩); simp only [Act.put, List.setIfInBounds_toArray, List.set_cons_succ, List.set_cons_zero])
        | (refine S_call 118 rfl rfl rfl rfl ?_; apply Exists.intro; refine ⟨fun _ => ?_, ?_⟩; (focus (go_simp; exact rfl)); apply Exists.intro; (with_reducible refine ⟨G2, ?_⟩); simp only [Act.put, List.setIfInBounds_toArray, List.set_cons_succ, List.set_cons_zero])
        | (refine S_op rfl rfl rfl ?_; refine ⟨_, fun _ => run_neq_Z' _ _ _ _ rfl _ _ rfl rfl hza HV.out _ hb, ?_⟩; simp only [Act.put, List.setIfInBounds_toArray, List.set_cons_succ, List.set_cons_zero])
        | (refine S_run rfl rfl ?_; apply Exists.intro; refine ⟨fun _ => ?_, ?_⟩; (focus (go_simp; (try go_bits); exact rfl)); simp only [Act.put, List.setIfInBounds_toArray, List.set_cons_succ, List.set_cons_zero]))
      refine S_nil ?_
      intro wn hS
      go_wp2
      go_ret2
      exact ⟨by rw [HT.out]; rfl, hS.below⟩
    · have HT : Hid (toI false n = .tuple #[.int .i64 0, .bool false]) := by show toI false n = _; unfold toI; rw [if_neg hin]
      have hb : neZ z (vz false n) = true := neZ_true (fun e => hin (by rw [← e, hz]; exact tryInt_range _ n))
      clear hz hin
      go_enter Tryz.func59, Tryz.ntmps59
      go_wp2_with (first | (refine L_box_agg hS rfl rfl ?_; refine ⟨_, rfl, ?_⟩; clear hS; intro _ _ hS) | (refine L_load (t := 22) rfl rfl ?_; refine ⟨_, run_load_cell hS _ _ rfl _ _ rfl _ _ (.inl (.head _)) _ Tryz.underlying22 rfl _ (iv_limb (k := 1) (by omega)), ?_⟩) | (refine L_load (t := 22) rfl rfl ?_; refine ⟨_, run_load_cell hS _ _ rfl _ _ rfl _ _ (.inl (.head _)) _ Tryz.underlying22 rfl _ (iv_limb (k := 0) (by omega)), ?_⟩) | (refine L_load (t := 4) rfl rfl ?_; refine ⟨_, run_load_cell hS _ _ rfl _ _ rfl _ _ (.inl (.head _)) _ Tryz.underlying4 rfl _ (iv_neg _ _), ?_⟩))
      (try simp only [Act.put]); (try simp only [List.setIfInBounds_toArray, List.set_cons_succ, List.set_cons_zero]); refine wp_region_w0 hS (by kernel_rfl) (by kernel_rfl) ?_
      repeat (first
        | (refine S_load (t := 4) rfl rfl rfl rfl ?_; refine ⟨_, fun _ hS' => run_load_cell hS' _ _ rfl _ _ rfl _ _ (.inl (.head _)) _ Tryz.underlying4 rfl _ (iv_neg _ _), ?_⟩; simp only [Act.put, List.setIfInBounds_toArray, List.set_cons_succ, List.set_cons_zero]) | (refine S_load (t := 23) rfl rfl rfl rfl ?_; refine ⟨_, fun _ hS' => run_load_mid hS' _ _ rfl _ _ rfl _ _ (.inl (.head _)) _ Tryz.underlying23 rfl (mgk 32 _) (size23_mg _) (fun k _ => iv_mag _ _ k), ?_⟩; simp only [Act.put, List.setIfInBounds_toArray, List.set_cons_succ, List.set_cons_zero])
        | (refine S_call 63 rfl rfl rfl rfl ?_; apply Exists.intro; refine ⟨fun _ => ?_, ?_⟩; (focus (go_simp; exact rfl)); apply Exists.intro; (with_reducible refine ⟨G1, ?_⟩); simp only [Act.put, List.setIfInBounds_toArray, List.set_cons_succ, List.set_cons_zero])
        | (refine S_call 118 rfl rfl rfl rfl ?_; apply Exists.intro; refine ⟨fun _ => ?_, ?_⟩; (focus (go_simp; exact rfl)); apply Exists.intro; (with_reducible refine ⟨G2, ?_⟩); simp only [Act.put, List.setIfInBounds_toArray, List.set_cons_succ, List.set_cons_zero])
        | (refine S_op rfl rfl rfl ?_; refine ⟨_, fun _ => run_neq_Z' _ _ _ _ rfl _ _ rfl rfl hza HV.out _ hb, ?_⟩; simp only [Act.put, List.setIfInBounds_toArray, List.set_cons_succ, List.set_cons_zero])
        | (refine S_run rfl rfl ?_; apply Exists.intro; refine ⟨fun _ => ?_, ?_⟩; (focus (go_simp; (try go_bits); exact rfl)); simp only [Act.put, List.setIfInBounds_toArray, List.set_cons_succ, List.set_cons_zero]))
      refine S_nil ?_
      intro wn hS
      go_wp2
      go_ret2
      exact ⟨by rw [HT.out]; rfl, hS.below⟩
  · obtain ⟨y, hy⟩ : ∃ y, IntKind.i64.wrap ((low64 n : Nat) : Int) = y := ⟨_, rfl⟩
    have hz' : IntKind.i64.wrap (-y) = z := by rw [hz, ← hy]; rfl
    by_cases hin : -9223372036854775808 ≤ vz true n ∧ vz true n ≤ 9223372036854775807
    · have HT : Hid (toI true n = .tuple #[.int .i64 z, .bool true]) := by show toI true n = _; unfold toI; rw [if_pos hin, hz, tryInt_eq hin]
      have hb : neZ z (vz true n) = false := neZ_false (hz.trans (tryInt_eq hin))
      clear hz hin
      go_enter Tryz.func59, Tryz.ntmps59
      go_wp2_with (first | (refine L_box_agg hS rfl rfl ?_; refine ⟨_, rfl, ?_⟩; clear hS; intro _ _ hS) | (refine L_load (t := 22) rfl rfl ?_; refine ⟨_, run_load_cell hS _ _ rfl _ _ rfl _ _ (.inl (.head _)) _ Tryz.underlying22 rfl _ (iv_limb (k := 1) (by omega)), ?_⟩) | (refine L_load (t := 22) rfl rfl ?_; refine ⟨_, run_load_cell hS _ _ rfl _ _ rfl _ _ (.inl (.head _)) _ Tryz.underlying22 rfl _ (iv_limb (k := 0) (by omega)), ?_⟩) | (refine L_load (t := 4) rfl rfl ?_; refine ⟨_, run_load_cell hS _ _ rfl _ _ rfl _ _ (.inl (.head _)) _ Tryz.underlying4 rfl _ (iv_neg _ _), ?_⟩))
      (try simp only [Act.put]); (try simp only [List.setIfInBounds_toArray, List.set_cons_succ, List.set_cons_zero]); refine wp_region_w0 hS (by kernel_rfl) (by kernel_rfl) ?_
      repeat (first
        | (refine S_load (t := 4) rfl rfl rfl rfl ?_; refine ⟨_, fun _ hS' => run_load_cell hS' _ _ rfl _ _ rfl _ _ (.inl (.head _)) _ Tryz.underlying4 rfl _ (iv_neg _ _), ?_⟩; simp only [Act.put, List.setIfInBounds_toArray, List.set_cons_succ, List.set_cons_zero]) | (refine S_load (t := 23) rfl rfl rfl rfl ?_; refine ⟨_, fun _ hS' => run_load_mid hS' _ _ rfl _ _ rfl _ _ (.inl (.head _)) _ Tryz.underlying23 rfl (mgk 32 _) (size23_mg _) (fun k _ => iv_mag _ _ k), ?_⟩; simp only [Act.put, List.setIfInBounds_toArray, List.set_cons_succ, List.set_cons_zero])
        | (refine S_call 63 rfl rfl rfl rfl ?_; apply Exists.intro; refine ⟨fun _ => ?_, ?_⟩; (focus (go_simp; exact rfl)); apply Exists.intro; (with_reducible refine ⟨G1, ?_⟩); simp only [Act.put, List.setIfInBounds_toArray, List.set_cons_succ, List.set_cons_zero])
        | (refine S_call 118 rfl rfl rfl rfl ?_; apply Exists.intro; refine ⟨fun _ => ?_, ?_⟩; (focus (go_simp; exact rfl)); apply Exists.intro; (with_reducible refine ⟨G2, ?_⟩); simp only [Act.put, List.setIfInBounds_toArray, List.set_cons_succ, List.set_cons_zero])
        | (refine S_op rfl rfl rfl ?_; refine ⟨_, fun _ => run_neq_Z' _ _ _ _ rfl _ _ rfl rfl hza HV.out _ hb, ?_⟩; simp only [Act.put, List.setIfInBounds_toArray, List.set_cons_succ, List.set_cons_zero])
        | (refine S_run rfl rfl ?_; apply Exists.intro; refine ⟨fun _ => ?_, ?_⟩; (focus (go_simp; (try go_bits); exact rfl)); simp only [Act.put, List.setIfInBounds_toArray, List.set_cons_succ, List.set_cons_zero]))
      refine S_nil ?_
      intro wn hS
      go_wp2
      go_ret2
      exact ⟨by rw [HT.out]; rfl, hS.below⟩
    · have HT : Hid (toI true n = .tuple #[.int .i64 0, .bool false]) := by show toI true n = _; unfold toI; rw [if_neg hin]
      have hb : neZ z (vz true n) = true := neZ_true (fun e => hin (by rw [← e, hz]; exact tryInt_range _ n))
      clear hz hin
      go_enter Tryz.func59, Tryz.ntmps59
      go_wp2_with (first | (refine L_box_agg hS rfl rfl ?_; refine ⟨_, rfl, ?_⟩; clear hS; intro _ _ hS) | (refine L_load (t := 22) rfl rfl ?_; refine ⟨_, run_load_cell hS _ _ rfl _ _ rfl _ _ (.inl (.head _)) _ Tryz.underlying22 rfl _ (iv_limb (k := 1) (by omega)), ?_⟩) | (refine L_load (t := 22) rfl rfl ?_; refine ⟨_, run_load_cell hS _ _ rfl _ _ rfl _ _ (.inl (.head _)) _ Tryz.underlying22 rfl _ (iv_limb (k := 0) (by omega)), ?_⟩) | (refine L_load (t := 4) rfl rfl ?_; refine ⟨_, run_load_cell hS _ _ rfl _ _ rfl _ _ (.inl (.head _)) _ Tryz.underlying4 rfl _ (iv_neg _ _), ?_⟩))
      (try simp only [Act.put]); (try simp only [List.setIfInBounds_toArray, List.set_cons_succ, List.set_cons_zero]); refine wp_region_w0 hS (by kernel_rfl) (by kernel_rfl) ?_
      repeat (first
        | (refine S_load (t := 4) rfl rfl rfl rfl ?_; refine ⟨_, fun _ hS' => run_load_cell hS' _ _ rfl _ _ rfl _ _ (.inl (.head _)) _ Tryz.underlying4 rfl _ (iv_neg _ _), ?_⟩; simp only [Act.put, List.setIfInBounds_toArray, List.set_cons_succ, List.set_cons_zero]) | (refine S_load (t := 23) rfl rfl rfl rfl ?_; refine ⟨_, fun _ hS' => run_load_mid hS' _ _ rfl _ _ rfl _ _ (.inl (.head _)) _ Tryz.underlying23 rfl (mgk 32 _) (size23_mg _) (fun k _ => iv_mag _ _ k), ?_⟩; simp only [Act.put, List.setIfInBounds_toArray, List.set_cons_succ, List.set_cons_zero])
        | (refine S_call 63 rfl rfl rfl rfl ?_; apply Exists.intro; refine ⟨fun _ => ?_, ?_⟩; (focus (go_simp; exact rfl)); apply Exists.intro; (with_reducible refine ⟨G1, ?_⟩); simp only [Act.put, List.setIfInBounds_toArray, List.set_cons_succ, List.set_cons_zero])
        | (refine S_call 118 rfl rfl rfl rfl ?_; apply Exists.intro; refine ⟨fun _ => ?_, ?_⟩; (focus (go_simp; exact rfl)); apply Exists.intro; (with_reducible refine ⟨G2, ?_⟩); simp only [Act.put, List.setIfInBounds_toArray, List.set_cons_succ, List.set_cons_zero])
        | (refine S_op rfl rfl rfl ?_; refine ⟨_, fun _ => run_neq_Z' _ _ _ _ rfl _ _ rfl rfl hza HV.out _ hb, ?_⟩; simp only [Act.put, List.setIfInBounds_toArray, List.set_cons_succ, List.set_cons_zero])
        | (refine S_run rfl rfl ?_; apply Exists.intro; refine ⟨fun _ => ?_, ?_⟩; (focus (go_simp; (try go_bits); exact rfl)); simp only [Act.put, List.setIfInBounds_toArray, List.set_cons_succ, List.set_cons_zero]))
      refine S_nil ?_
      intro wn hS
      go_wp2
      go_ret2
      exact ⟨by rw [HT.out]; rfl, hS.below⟩

def nlG : Nat → Nat → Nat
  | 0, _ => 0
  | k + 1, n => if limb n k = 0 then nlG k n else k + 1
def nl (n : Nat) : Nat := nlG 32 n
theorem nlG_zero {n k : Nat} (h : limb n k = 0) : nlG (k + 1) n = nlG k n := if_pos h
theorem nlG_not {n k : Nat} (h : limb n k ≠ 0) : nlG (k + 1) n = k + 1 := if_neg h
theorem nlG_le (n : Nat) : ∀ k, nlG k n ≤ k
  | 0 => Nat.le_refl _
  | k + 1 => by
    unfold nlG; split
    · have := nlG_le n k; omega
    · omega
theorem nlG_lt {n : Nat} : ∀ k, n < pw k → n < pw (nlG k n)
  | 0, h => h
  | k + 1, h => by
    unfold nlG; split
    · rename_i h0
      refine nlG_lt k ?_
      have h1 := mod_pw n k
      rw [Nat.mod_eq_of_lt h, h0, Nat.zero_mul] at h1
      rw [h1]; exact Nat.mod_lt _ (pw_pos k)
    · exact h
theorem nlG_top {n : Nat} : ∀ k, nlG k n = 0 ∨ limb n (nlG k n - 1) ≠ 0
  | 0 => .inl rfl
  | k + 1 => by
    unfold nlG; split
    · exact nlG_top k
    · rename_i h0; exact .inr h0
theorem nl_le (n : Nat) : nl n ≤ 32 := nlG_le n 32
theorem nl_lt {n : Nat} (h : n < pw 32) : n < pw (nl n) := nlG_lt 32 h
theorem nl_top (n : Nat) : nl n = 0 ∨ limb n (nl n - 1) ≠ 0 := nlG_top 32

set_option maxHeartbeats 400000 in
theorem limbCount_any (n : Nat) : Gives Tryz.prog 169 #[.agg (mgk 32 n)] (.int .i64 ((nl n : Nat) : Int)) := by
  intro w
  have hS := St.start w
  go_enter Tryz.func169, Tryz.ntmps169
  go_wp2_with (first | (refine L_box_agg hS rfl rfl ?_; refine ⟨_, rfl, ?_⟩; clear hS; intro _ _ hS))
  rename_i b1 w1 _ _
  go_loopw [3] (fun i wr => ∃ k : Nat, k ≤ 32 ∧ i = .int .i64 k ∧ Hid (nl n = nlG k n) ∧ St none w wr [] [(b1, .cells (mgk 32 n) 119)]) (fun i _ => (intOf i).toNat)
  case atStart => exact ⟨32, by omega, by go_num, (rfl : nl n = nlG 32 n), hS⟩
  case round =>
    clear hS
    obtain ⟨k, hk, rfl, HE, hS⟩ := hrel
    rcases k with _ | j
    · go_wp2
      go_ret
      exact ⟨by rw [HE.out]; rfl, hS.below⟩
    · have hj : (j : Int) < 32 := by omega
      have ej : (((j + 1 : Nat) : Int) - 1) = (j : Int) := by omega
      have hpos : (0 : Int) < ((j + 1 : Nat) : Int) := by omega
      by_cases he : limb n j = 0
      · have HQ : Hid (nl n = nlG j n) := HE.out.trans (nlG_zero he)
        have hb1 : (((limb n j : Nat) : Int) == 0) = true := by rw [he]; rfl
        clear he
        go_wp2_with (first | (refine L_load (t := 22) rfl rfl ?_; refine ⟨_, run_load_cell hS _ _ rfl _ _ rfl _ _ (.inl (.head _)) _ Tryz.underlying22 rfl _ (mgk_get' (by omega)), ?_⟩))
        go_roundw
        case rel => exact ⟨j, by omega, by go_num, HQ, hS⟩
        case measure => simp [intOf]
      · have HQ : Hid (nl n = j + 1) := HE.out.trans (nlG_not he)
        have hb1 : (((limb n j : Nat) : Int) == 0) = false := by simp; omega
        clear he
        go_wp2_with (first | (refine L_load (t := 22) rfl rfl ?_; refine ⟨_, run_load_cell hS _ _ rfl _ _ rfl _ _ (.inl (.head _)) _ Tryz.underlying22 rfl _ (mgk_get' (by omega)), ?_⟩))
        go_ret
        exact ⟨by rw [HQ.out]; rfl, hS.below⟩
end Go.Proofs.YtkiefjbfepjcbaaGreatDoor
end
section
namespace Go.Proofs.YtkiefjbfepjcbaaGreatDoor
open Go.RowKit

set_option maxHeartbeats 400000 in
theorem rlimbs_any (n : Nat) : Gives Tryz.prog 119 #[.agg (mgk 32 n)] (.int .i64 ((nl n : Nat) : Int)) := by
  intro w
  have hS := St.start w
  go_enter Tryz.func119, Tryz.ntmps119
  go_wp2_with (first | (refine L_box_agg hS rfl rfl ?_; refine ⟨_, rfl, ?_⟩; clear hS; intro _ _ hS))
  rename_i b1 w1 _ _
  go_loopw [3] (fun i wr => ∃ k : Nat, k ≤ 32 ∧ i = .int .i64 k ∧ Hid (nl n = nlG k n) ∧ St none w wr [] [(b1, .cells (mgk 32 n) 23)]) (fun i _ => (intOf i).toNat)
  case atStart => exact ⟨32, by omega, by go_num, (rfl : nl n = nlG 32 n), hS⟩
  case round =>
    clear hS
    obtain ⟨k, hk, rfl, HE, hS⟩ := hrel
    rcases k with _ | j
    · go_wp2
      go_ret
      exact ⟨by rw [HE.out]; rfl, hS.below⟩
    · have hj : (j : Int) < 32 := by omega
      have ej : (((j + 1 : Nat) : Int) - 1) = (j : Int) := by omega
      have hpos : (0 : Int) < ((j + 1 : Nat) : Int) := by omega
      by_cases he : limb n j = 0
      · have HQ : Hid (nl n = nlG j n) := HE.out.trans (nlG_zero he)
        have hb1 : (((limb n j : Nat) : Int) == 0) = true := by rw [he]; rfl
        clear he
        go_wp2_with (first | (refine L_load (t := 22) rfl rfl ?_; refine ⟨_, run_load_cell hS _ _ rfl _ _ rfl _ _ (.inl (.head _)) _ Tryz.underlying22 rfl _ (mgk_get' (by omega)), ?_⟩))
        go_roundw
        case rel => exact ⟨j, by omega, by go_num, HQ, hS⟩
        case measure => simp [intOf]
      · have HQ : Hid (nl n = j + 1) := HE.out.trans (nlG_not he)
        have hb1 : (((limb n j : Nat) : Int) == 0) = false := by simp; omega
        clear he
        go_wp2_with (first | (refine L_load (t := 22) rfl rfl ?_; refine ⟨_, run_load_cell hS _ _ rfl _ _ rfl _ _ (.inl (.head _)) _ Tryz.underlying22 rfl _ (mgk_get' (by omega)), ?_⟩))
        go_ret
        exact ⟨by rw [HQ.out]; rfl, hS.below⟩

theorem nl_zero_iff {n : Nat} (hn : n < pw 32) : nl n = 0 ↔ n = 0 := by
  constructor
  · intro h
    have := nl_lt hn
    rw [h, pw_zero] at this; omega
  · rintro rfl
    rcases nl_top 0 with h | h
    · exact h
    · exact absurd (limb_zero _) h

set_option maxHeartbeats 400000 in
theorem rzero_any (n : Nat) (hn : n < pw 32) : Gives Tryz.prog 112 #[.agg (mgk 32 n)] (.bool (isz n)) := by
  intro w
  have hS := St.start w
  have h0 : (((nl n : Nat) : Int) == 0) = isz n := by
    by_cases h : n = 0
    · rw [isz_true h, (nl_zero_iff hn).2 h]; rfl
    · have := mt (nl_zero_iff hn).1 h
      rw [isz_false h]; simp; omega
  clear hn
  obtain ⟨b, hb⟩ : ∃ b, isz n = b := ⟨_, rfl⟩
  rw [hb] at h0 ⊢
  go_enter Tryz.func112, Tryz.ntmps112
  go_wp2_with (first | (refine L_box_agg hS rfl rfl ?_; refine ⟨_, rfl, ?_⟩; clear hS; intro _ _ hS) | (refine L_load (t := 23) rfl rfl ?_; refine ⟨_, run_load_row hS _ _ rfl _ rfl _ _ (.inl (.head _)) _ Tryz.underlying23 rfl (size23_mg _), ?_⟩) | (go_at_call 119; (with_reducible refine Gives.use (rlimbs_any _) hS ?_); clear hS; intro _ hS))
  go_ret
  exact ⟨rfl, hS.below⟩

set_option maxHeartbeats 400000 in
theorem rsign_any (s : Bool) (n : Nat) (hn : n < pw 32) : Gives Tryz.prog 54 #[.agg (iv s n)] (.int .i64 (sgn (vz s n))) := by
  intro w
  have hS := St.start w
  have HN := Lib.hid hn
  clear hn
  by_cases h0 : n = 0
  · have hz := isz_true h0
    have HV : Hid (sgn (vz s n) = 0) := by subst h0; exact sgn_vz_zero s
    clear h0
    go_enter Tryz.func54, Tryz.ntmps54
    go_wp2_with (first | (refine L_box_agg hS rfl rfl ?_; refine ⟨_, rfl, ?_⟩; clear hS; intro _ _ hS) | (refine L_load (t := 23) rfl rfl ?_; refine ⟨_, run_load_mid hS _ _ rfl _ _ rfl _ _ (.inl (.head _)) _ Tryz.underlying23 rfl (mgk 32 _) (size23_mg _) (fun k _ => iv_mag _ _ k), ?_⟩) | (go_at_call 112; (with_reducible refine Gives.use (rzero_any _ HN.out) hS ?_); clear hS; intro _ hS))
    go_ret
    exact ⟨by rw [HV.out]; rfl, hS.below⟩
  · have hz := isz_false h0
    cases s
    · have HV := Lib.hid (sgn_vz_false h0)
      clear h0
      go_enter Tryz.func54, Tryz.ntmps54
      go_wp2_with (first | (refine L_box_agg hS rfl rfl ?_; refine ⟨_, rfl, ?_⟩; clear hS; intro _ _ hS) | (refine L_load (t := 23) rfl rfl ?_; refine ⟨_, run_load_mid hS _ _ rfl _ _ rfl _ _ (.inl (.head _)) _ Tryz.underlying23 rfl (mgk 32 _) (size23_mg _) (fun k _ => iv_mag _ _ k), ?_⟩) | (refine L_load (t := 4) rfl rfl ?_; refine ⟨_, run_load_cell hS _ _ rfl _ _ rfl _ _ (.inl (.head _)) _ Tryz.underlying4 rfl _ (iv_neg _ _), ?_⟩) | (go_at_call 112; (with_reducible refine Gives.use (rzero_any _ HN.out) hS ?_); clear hS; intro _ hS))
      go_ret
      exact ⟨by rw [HV.out]; rfl, hS.below⟩
    · have HV := Lib.hid (sgn_vz_true h0)
      clear h0
      go_enter Tryz.func54, Tryz.ntmps54
      go_wp2_with (first | (refine L_box_agg hS rfl rfl ?_; refine ⟨_, rfl, ?_⟩; clear hS; intro _ _ hS) | (refine L_load (t := 23) rfl rfl ?_; refine ⟨_, run_load_mid hS _ _ rfl _ _ rfl _ _ (.inl (.head _)) _ Tryz.underlying23 rfl (mgk 32 _) (size23_mg _) (fun k _ => iv_mag _ _ k), ?_⟩) | (refine L_load (t := 4) rfl rfl ?_; refine ⟨_, run_load_cell hS _ _ rfl _ _ rfl _ _ (.inl (.head _)) _ Tryz.underlying4 rfl _ (iv_neg _ _), ?_⟩) | (go_at_call 112; (with_reducible refine Gives.use (rzero_any _ HN.out) hS ?_); clear hS; intro _ hS))
      go_ret
      exact ⟨by rw [HV.out]; rfl, hS.below⟩
end Go.Proofs.YtkiefjbfepjcbaaGreatDoor
end
section
namespace Go.Proofs.YtkiefjbfepjcbaaGreatDoor
open Go.RowKit
set_option linter.unusedVariables false

set_option maxHeartbeats 400000 in
theorem rcanon (s : Bool) (n : Nat) (hn : n < pw 32) : Gives Tryz.prog 116 #[.bool s, .agg (mgk 32 n)] (.agg (ivZ (vz s n))) := by
  intro w
  have hS := St.start w
  have HN := Lib.hid hn
  clear hn
  rw [ivZ_vz]
  cases s
  all_goals
    go_enter Tryz.func116, Tryz.ntmps116
    go_wp2_with (first | (refine L_box_agg hS rfl rfl ?_; refine ⟨_, rfl, ?_⟩; clear hS; intro _ _ hS) | (refine L_alloc_agg hS rfl rfl ?_; refine ⟨_, zero25, ?_⟩; clear hS; intro _ _ hS))
    rename_i b3 _ b4 w1 _ _
  · refine wp_region_w1 hS 8 [] [(b4, .cells (iv (false && !isz n) n) 25), (b3, .cells (mgk 32 n) 23)] (by kernel_rfl) (by kernel_rfl) ?_
    repeat (first
      | (refine S_load (t := 23) rfl rfl rfl rfl ?_; refine ⟨_, fun _ hS' => run_load_row hS' _ _ rfl _ rfl _ _ (.inl (.tail _ (.head _))) _ Tryz.underlying23 rfl (size23_mg _), ?_⟩; simp only [Act.put, List.setIfInBounds_toArray, List.set_cons_succ, List.set_cons_zero])
      | (refine S_store (t := 25) rfl rfl rfl ?_; refine ⟨_, _, _, _, (.head), fun _ hS' => run_store_row hS' _ _ _ rfl _ rfl _ _ rfl _ (.head) (size25_iv _ _) (iv_sizes _ _ _ _) (oneCells_iv _ _), ?_⟩; simp only [Act.put])
      | (refine S_build rfl rfl rfl ?_; refine ⟨_, built25_iv _ _, ?_⟩; simp only [Act.put, List.setIfInBounds_toArray, List.set_cons_succ, List.set_cons_zero])
      | (refine S_run rfl rfl ?_; apply Exists.intro; refine ⟨fun _ => ?_, ?_⟩; (focus (go_simp; (try go_bits); exact rfl)); simp only [Act.put, List.setIfInBounds_toArray, List.set_cons_succ, List.set_cons_zero])
      | (refine S_skip rfl rfl ?_; simp only [Act.put, List.setIfInBounds_toArray, List.set_cons_succ, List.set_cons_zero]))
    refine S_nil ?_
    intro wn hS
    go_wp2
    (try simp only [Exit.inBlock, Exit.then]); refine bodyPost_ret (res_cell rfl hS _ _ _ _ (.inl (.head _)) rfl _ Tryz.underlying25 rfl (size25_iv _ _)) rfl ⟨?_, hS.below⟩
    rfl
  · refine wp_region_w1 hS 8 [] [(b4, .cells (iv (true && !isz n) n) 25), (b3, .cells (mgk 32 n) 23)] (by kernel_rfl) (by kernel_rfl) ?_
    repeat (first
      | (refine S_load (t := 23) rfl rfl rfl rfl ?_; refine ⟨_, fun _ hS' => run_load_row hS' _ _ rfl _ rfl _ _ (.inl (.tail _ (.head _))) _ Tryz.underlying23 rfl (size23_mg _), ?_⟩; simp only [Act.put, List.setIfInBounds_toArray, List.set_cons_succ, List.set_cons_zero])
      | (refine S_call 112 rfl rfl rfl rfl ?_; apply Exists.intro; refine ⟨fun _ => ?_, ?_⟩; (focus (go_simp; exact rfl)); apply Exists.intro; (with_reducible refine ⟨rzero_any _ HN.out, ?_⟩); simp only [Act.put, List.setIfInBounds_toArray, List.set_cons_succ, List.set_cons_zero])
      | (refine S_store (t := 25) rfl rfl rfl ?_; refine ⟨_, _, _, _, (.head), fun _ hS' => run_store_row hS' _ _ _ rfl _ rfl _ _ rfl _ (.head) (size25_iv _ _) (iv_sizes _ _ _ _) (oneCells_iv _ _), ?_⟩; simp only [Act.put])
      | (refine S_build rfl rfl rfl ?_; refine ⟨_, built25_iv _ _, ?_⟩; simp only [Act.put, List.setIfInBounds_toArray, List.set_cons_succ, List.set_cons_zero])
      | (refine S_run rfl rfl ?_; apply Exists.intro; refine ⟨fun _ => ?_, ?_⟩; (focus (go_simp; (try go_bits); exact rfl)); simp only [Act.put, List.setIfInBounds_toArray, List.set_cons_succ, List.set_cons_zero])
      | (refine S_skip rfl rfl ?_; simp only [Act.put, List.setIfInBounds_toArray, List.set_cons_succ, List.set_cons_zero]))
    refine S_nil ?_
    intro wn hS
    go_wp2
    (try simp only [Exit.inBlock, Exit.then]); refine bodyPost_ret (res_cell rfl hS _ _ _ _ (.inl (.head _)) rfl _ Tryz.underlying25 rfl (size25_iv _ _)) rfl ⟨?_, hS.below⟩
    rfl

set_option maxHeartbeats 400000 in
theorem rcompare (n m : Nat) (hn : n < pw 32) (hm : m < pw 32) : Gives Tryz.prog 117 #[.agg (mgk 32 n), .agg (mgk 32 m)] (.int .i64 (cmpv n m)) := by
  intro w
  have hS := St.start w
  have HN := Lib.hid hn
  have HM := Lib.hid hm
  clear hn hm
  go_enter Tryz.func117, Tryz.ntmps117
  go_wp2_with (first | (refine L_box_agg hS rfl rfl ?_; refine ⟨_, rfl, ?_⟩; clear hS; intro _ _ hS))
  rename_i b1 _ b2 w1 _ _
  go_loopw [5] (fun i wr => ∃ k : Nat, k ≤ 32 ∧ i = .int .i64 ((k : Int) - 1) ∧ Hid (n / pw k = m / pw k) ∧ St none w wr [] [(b2, .cells (mgk 32 m) 23), (b1, .cells (mgk 32 n) 23)]) (fun i _ => (intOf i + 1).toNat)
  case atStart =>
    exact ⟨32, by omega, by go_num, by show n / pw 32 = m / pw 32; rw [Nat.div_eq_of_lt HN.out, Nat.div_eq_of_lt HM.out], hS⟩
  case round =>
    clear hS
    obtain ⟨k, hk, rfl, HE, hS⟩ := hrel
    rcases k with _ | j
    · have HC := Lib.hid (cmpv_eq (show n = m by have := HE.out; rwa [div_pw_zero, div_pw_zero] at this))
      go_wp2
      go_ret
      exact ⟨by rw [HC.out]; rfl, hS.below⟩
    · have ej : ((j + 1 : Nat) : Int) - 1 = (j : Int) := by omega
      rw [ej]
      clear ej
      have HC := cmp_step HE.out
      have hj : (j : Int) < 32 := by omega
      rcases Nat.lt_trichotomy (limb n j) (limb m j) with he | he | he
      · have HQ := Lib.hid (HC.2 (by omega))
        have HV := Lib.hid (cmpv_lt he)
        have hb1 : ((limb n j : Nat) : Int) < ((limb m j : Nat) : Int) := by omega
        clear he HC
        go_wp2_with (fail)
        (try simp only [Act.put]); (try simp only [List.setIfInBounds_toArray, List.set_cons_succ, List.set_cons_zero]); refine wp_region_w0 hS (by kernel_rfl) (by kernel_rfl) ?_
        repeat (first
          | (refine S_load (t := 22) rfl rfl rfl rfl ?_; refine ⟨_, fun _ hS' => run_load_cell hS' _ _ rfl _ _ rfl _ _ (.inl (.head _)) _ Tryz.underlying22 rfl _ (mgk_get' (by omega)), ?_⟩; simp only [Act.put, List.setIfInBounds_toArray, List.set_cons_succ, List.set_cons_zero])
          | (refine S_load (t := 22) rfl rfl rfl rfl ?_; refine ⟨_, fun _ hS' => run_load_cell hS' _ _ rfl _ _ rfl _ _ (.inl (.tail _ (.head _))) _ Tryz.underlying22 rfl _ (mgk_get' (by omega)), ?_⟩; simp only [Act.put, List.setIfInBounds_toArray, List.set_cons_succ, List.set_cons_zero])
          | (refine S_run rfl rfl ?_; apply Exists.intro; refine ⟨fun _ => ?_, ?_⟩; (focus (go_simp; (try go_bits); exact rfl)); simp only [Act.put, List.setIfInBounds_toArray, List.set_cons_succ, List.set_cons_zero]))
        refine S_end0 ?_; clear hS; intro _ hS
        go_wp2
        go_ret
        exact ⟨by rw [← HQ.out, HV.out]; rfl, hS.below⟩
      · have HQ := Lib.hid (HC.1 he)
        have hb1 : ¬ ((limb n j : Nat) : Int) < ((limb m j : Nat) : Int) := by omega
        have hb2 : ¬ ((limb m j : Nat) : Int) < ((limb n j : Nat) : Int) := by omega
        clear he HC
        go_wp2_with (fail)
        (try simp only [Act.put]); (try simp only [List.setIfInBounds_toArray, List.set_cons_succ, List.set_cons_zero]); refine wp_region_w0 hS (by kernel_rfl) (by kernel_rfl) ?_
        repeat (first
          | (refine S_load (t := 22) rfl rfl rfl rfl ?_; refine ⟨_, fun _ hS' => run_load_cell hS' _ _ rfl _ _ rfl _ _ (.inl (.head _)) _ Tryz.underlying22 rfl _ (mgk_get' (by omega)), ?_⟩; simp only [Act.put, List.setIfInBounds_toArray, List.set_cons_succ, List.set_cons_zero])
          | (refine S_load (t := 22) rfl rfl rfl rfl ?_; refine ⟨_, fun _ hS' => run_load_cell hS' _ _ rfl _ _ rfl _ _ (.inl (.tail _ (.head _))) _ Tryz.underlying22 rfl _ (mgk_get' (by omega)), ?_⟩; simp only [Act.put, List.setIfInBounds_toArray, List.set_cons_succ, List.set_cons_zero])
          | (refine S_run rfl rfl ?_; apply Exists.intro; refine ⟨fun _ => ?_, ?_⟩; (focus (go_simp; (try go_bits); exact rfl)); simp only [Act.put, List.setIfInBounds_toArray, List.set_cons_succ, List.set_cons_zero]))
        refine S_end0 ?_; clear hS; intro _ hS
        go_wp2_with (fail)
        (try simp only [Act.put]); (try simp only [List.setIfInBounds_toArray, List.set_cons_succ, List.set_cons_zero]); refine wp_region_w0 hS (by kernel_rfl) (by kernel_rfl) ?_
        repeat (first
          | (refine S_load (t := 22) rfl rfl rfl rfl ?_; refine ⟨_, fun _ hS' => run_load_cell hS' _ _ rfl _ _ rfl _ _ (.inl (.head _)) _ Tryz.underlying22 rfl _ (mgk_get' (by omega)), ?_⟩; simp only [Act.put, List.setIfInBounds_toArray, List.set_cons_succ, List.set_cons_zero])
          | (refine S_load (t := 22) rfl rfl rfl rfl ?_; refine ⟨_, fun _ hS' => run_load_cell hS' _ _ rfl _ _ rfl _ _ (.inl (.tail _ (.head _))) _ Tryz.underlying22 rfl _ (mgk_get' (by omega)), ?_⟩; simp only [Act.put, List.setIfInBounds_toArray, List.set_cons_succ, List.set_cons_zero])
          | (refine S_run rfl rfl ?_; apply Exists.intro; refine ⟨fun _ => ?_, ?_⟩; (focus (go_simp; (try go_bits); exact rfl)); simp only [Act.put, List.setIfInBounds_toArray, List.set_cons_succ, List.set_cons_zero]))
        refine S_end0 ?_; clear hS; intro _ hS
        go_wp2
        go_roundw
        case rel => exact ⟨j, by omega, rfl, HQ, hS⟩
        case measure => simp [intOf]
      · have HQ := Lib.hid (HC.2 (by omega))
        have HV := Lib.hid (cmpv_gt he)
        have hb1 : ¬ ((limb n j : Nat) : Int) < ((limb m j : Nat) : Int) := by omega
        have hb2 : ((limb m j : Nat) : Int) < ((limb n j : Nat) : Int) := by omega
        clear he HC
        go_wp2_with (fail)
        (try simp only [Act.put]); (try simp only [List.setIfInBounds_toArray, List.set_cons_succ, List.set_cons_zero]); refine wp_region_w0 hS (by kernel_rfl) (by kernel_rfl) ?_
        repeat (first
          | (refine S_load (t := 22) rfl rfl rfl rfl ?_; refine ⟨_, fun _ hS' => run_load_cell hS' _ _ rfl _ _ rfl _ _ (.inl (.head _)) _ Tryz.underlying22 rfl _ (mgk_get' (by omega)), ?_⟩; simp only [Act.put, List.setIfInBounds_toArray, List.set_cons_succ, List.set_cons_zero])
          | (refine S_load (t := 22) rfl rfl rfl rfl ?_; refine ⟨_, fun _ hS' => run_load_cell hS' _ _ rfl _ _ rfl _ _ (.inl (.tail _ (.head _))) _ Tryz.underlying22 rfl _ (mgk_get' (by omega)), ?_⟩; simp only [Act.put, List.setIfInBounds_toArray, List.set_cons_succ, List.set_cons_zero])
          | (refine S_run rfl rfl ?_; apply Exists.intro; refine ⟨fun _ => ?_, ?_⟩; (focus (go_simp; (try go_bits); exact rfl)); simp only [Act.put, List.setIfInBounds_toArray, List.set_cons_succ, List.set_cons_zero]))
        refine S_end0 ?_; clear hS; intro _ hS
        go_wp2_with (fail)
        (try simp only [Act.put]); (try simp only [List.setIfInBounds_toArray, List.set_cons_succ, List.set_cons_zero]); refine wp_region_w0 hS (by kernel_rfl) (by kernel_rfl) ?_
        repeat (first
          | (refine S_load (t := 22) rfl rfl rfl rfl ?_; refine ⟨_, fun _ hS' => run_load_cell hS' _ _ rfl _ _ rfl _ _ (.inl (.head _)) _ Tryz.underlying22 rfl _ (mgk_get' (by omega)), ?_⟩; simp only [Act.put, List.setIfInBounds_toArray, List.set_cons_succ, List.set_cons_zero])
          | (refine S_load (t := 22) rfl rfl rfl rfl ?_; refine ⟨_, fun _ hS' => run_load_cell hS' _ _ rfl _ _ rfl _ _ (.inl (.tail _ (.head _))) _ Tryz.underlying22 rfl _ (mgk_get' (by omega)), ?_⟩; simp only [Act.put, List.setIfInBounds_toArray, List.set_cons_succ, List.set_cons_zero])
          | (refine S_run rfl rfl ?_; apply Exists.intro; refine ⟨fun _ => ?_, ?_⟩; (focus (go_simp; (try go_bits); exact rfl)); simp only [Act.put, List.setIfInBounds_toArray, List.set_cons_succ, List.set_cons_zero]))
        refine S_end0 ?_; clear hS; intro _ hS
        go_wp2
        go_ret
        exact ⟨by rw [← HQ.out, HV.out]; rfl, hS.below⟩
end Go.Proofs.YtkiefjbfepjcbaaGreatDoor
end
section
namespace Go.Proofs.YtkiefjbfepjcbaaGreatDoor
open Go.Proofs.YtkiefjbfepjcbaaGreatDoor.Sx
set_option linter.unusedSimpArgs false
set_option linter.unusedVariables false

theorem shr32 (n : Nat) : shfI .shr .u64 ((n : Nat) : Int) 32 = ((n / 4294967296 : Nat) : Int) := by
  simp only [shfI, IntKind.bits]
  rw [Int.fdiv_eq_ediv_of_nonneg _ (by decide)]
  simp
set_option maxHeartbeats 1000000 in
theorem rmul_inner (s t : Bool) (n m i W : Nat) (hi : i < nl n) (hm : m < pw 32) (hW : W = n % pw i * m) (c' W' : Nat) (hc' : ∀ c V, c < 4294967296 → V < pw (i + nl m) → V + c * pw (i + nl m) = mulV n m i (nl m) → c = c' ∧ V = W') :
    Ev.holds Tryz.prog (env [.bool s, .agg (mgk 32 n), .bool t, .agg (mgk 32 m), .int .i64 (nl n : Nat), .int .i64 (nl m : Nat), .int .i64 (i : Nat), .agg (mgk 64 W), .int .i64 (nl m : Nat), .int .u64 (c' : Nat), .agg (mgk 64 W')]) (.loop 111 1 mulS111_1 mulH111_1 (.exit 2) .none 3) := by
  have h1 := nl_le n
  have h2 := nl_le m
  have hml := nl_lt hm
  refine loop_holds plain (m := 3) (x := .exit 2) (alt := none) [.bool s, .agg (mgk 32 n), .bool t, .agg (mgk 32 m), .int .i64 (nl n : Nat), .int .i64 (nl m : Nat), .int .i64 (i : Nat), .agg (mgk 64 W)] [.int .i64 (nl m : Nat), .int .u64 (c' : Nat), .agg (mgk 64 W')] tMul1_ok tMul1_fine
    (fun vs => ∃ j c V : Nat, j ≤ nl m ∧ c < 4294967296 ∧ V + c * pw (i + j) = mulV n m i j ∧ V < pw (i + nl m) ∧ vs = [.int .i64 (j : Nat), .int .u64 (c : Nat), .agg (mgk 64 V)])
    (fun vs => nl m - (vInt (vs.getD 0 undef)).toNat) tMul1_diff ?_ ?_
  · refine ⟨[.int .i64 (0 : Nat), .int .u64 (0 : Nat), .agg (mgk 64 W)], rfl, ⟨0, 0, W, by omega, by omega, ?_, ?_, rfl⟩, ?_⟩
    · rw [mulV_zero, hW]; omega
    · rw [hW]; exact mul_small hml
    · simp [tMul1_d, BTm.den, Tm.i, Tm.s, Tm.den, env, vInt, vBool, vStr, exI, SW.den, SV.den, Cell.den, densP, Piece.den, denV, denT]
  · rintro vs hl ⟨j, c, V, hj, hc, hV, hVb, rfl⟩
    clear hl
    refine tree_ite (ev_nil ⟨fun hlt => tree_leaf ?_, fun hlt => tree_leaf (ev_nil ?_)⟩)
    · have hlt : j < nl m := by simpa [BTm.den, Tm.i, Tm.s, Tm.den, env, vInt, vBool, vStr, exI] using hlt
      have hx := limb_lt n i
      have hy := limb_lt m j
      have hz := limb_lt V (i + j)
      have hT := mulT_lt (a := n) (b := m) (i := i) (j := j) (W := V) hc
      have hxy := mul_bound _ _ hx hy
      have hTd : mulT n m i j V c = c + (limb n i * limb m j + limb V (i + j)) := rfl
      have hTc : ((limb n i : Int) * (limb m j : Int) + (limb V (i + j) : Int) + (c : Int)) = ((mulT n m i j V c : Nat) : Int) := by rw [hTd]; push_cast; omega
      refine ev_need (by simp [BTm.den, Tm.i, Tm.s, Tm.den, env, vInt, vBool, vStr, exI] <;> omega) ?_
      refine ev_need (by simp [BTm.den, Tm.i, Tm.s, Tm.den, env, vInt, vBool, vStr, exI] <;> omega) ?_
      refine ev_elem [.int .u32 (limb n i : Nat)] rfl rfl (l := mgl 32 n) (m := [.int .u32 (limb n i : Nat)]) (k := i) (by simp [BTm.den, Tm.i, Tm.s, Tm.den, env, vInt, vBool, vStr, exI] <;> omega) (fun β => rowCells_mgk 32 n) (fun β => rfl) (mgl_elem (by omega)) ?_
      refine ev_fits ((limb n i : Nat)) (by simp [BTm.den, Tm.i, Tm.s, Tm.den, env, vInt, vBool, vStr, exI]) (rng_u64 _ (by omega)) ?_
      refine ev_need (by simp [BTm.den, Tm.i, Tm.s, Tm.den, env, vInt, vBool, vStr, exI] <;> omega) ?_
      refine ev_need (by simp [BTm.den, Tm.i, Tm.s, Tm.den, env, vInt, vBool, vStr, exI] <;> omega) ?_
      refine ev_elem [.int .u32 (limb m j : Nat)] rfl rfl (l := mgl 32 m) (m := [.int .u32 (limb m j : Nat)]) (k := j) (by simp [BTm.den, Tm.i, Tm.s, Tm.den, env, vInt, vBool, vStr, exI] <;> omega) (fun β => rowCells_mgk 32 m) (fun β => rfl) (mgl_elem (by omega)) ?_
      refine ev_fits ((limb m j : Nat)) (by simp [BTm.den, Tm.i, Tm.s, Tm.den, env, vInt, vBool, vStr, exI]) (rng_u64 _ (by omega)) ?_
      refine ev_fits (((limb n i * limb m j : Nat) : Int)) (by simp [BTm.den, Tm.i, Tm.s, Tm.den, env, vInt, vBool, vStr, exI]) (rng_u64 _ (by omega)) ?_
      refine ev_fits (((i + j : Nat) : Int)) (by simp [BTm.den, Tm.i, Tm.s, Tm.den, env, vInt, vBool, vStr, exI]) (rng_i64 _ (by omega)) ?_
      refine ev_need (by simp [BTm.den, Tm.i, Tm.s, Tm.den, env, vInt, vBool, vStr, exI] <;> omega) ?_
      refine ev_need (by simp [BTm.den, Tm.i, Tm.s, Tm.den, env, vInt, vBool, vStr, exI] <;> omega) ?_
      refine ev_elem [.int .u32 (limb V (i + j) : Nat)] rfl rfl (l := mgl 64 V) (m := [.int .u32 (limb V (i + j) : Nat)]) (k := i + j) (by simp [BTm.den, Tm.i, Tm.s, Tm.den, env, vInt, vBool, vStr, exI] <;> omega) (fun β => rowCells_mgk 64 V) (fun β => rfl) (mgl_elem (by omega)) ?_
      refine ev_fits ((limb V (i + j) : Nat)) (by simp [BTm.den, Tm.i, Tm.s, Tm.den, env, vInt, vBool, vStr, exI]) (rng_u64 _ (by omega)) ?_
      refine ev_fits (((limb n i * limb m j + limb V (i + j) : Nat) : Int)) (by simp [BTm.den, Tm.i, Tm.s, Tm.den, env, vInt, vBool, vStr, exI]) (rng_u64 _ (by omega)) ?_
      refine ev_fits ((mulT n m i j V c : Nat) : Int) (by simpa [BTm.den, Tm.i, Tm.s, Tm.den, env, vInt, vBool, vStr, exI] using hTc) (rng_u64 _ (by omega)) ?_
      refine ev_fits (((i + j : Nat) : Int)) (by simp [BTm.den, Tm.i, Tm.s, Tm.den, env, vInt, vBool, vStr, exI]) (rng_i64 _ (by omega)) ?_
      refine ev_need (by simp [BTm.den, Tm.i, Tm.s, Tm.den, env, vInt, vBool, vStr, exI] <;> omega) ?_
      refine ev_need (by simp [BTm.den, Tm.i, Tm.s, Tm.den, env, vInt, vBool, vStr, exI] <;> omega) ?_
      have hput : (mgl 64 V).take (i + j) ++ [.int .u32 ((mulT n m i j V c % 4294967296 : Nat) : Int)] ++ (mgl 64 V).drop (i + j + 1) = mgl 64 (put V (i + j) (mulT n m i j V c % 4294967296)) := (mgl_put (by omega) rfl (by omega)).symm
      refine ev_put [.agg (mgk 64 (put V (i + j) (mulT n m i j V c % 4294967296)))] rfl rfl (l := mgl 64 V) (l' := mgl 64 (put V (i + j) (mulT n m i j V c % 4294967296))) (m := [.int .u32 ((mulT n m i j V c % 4294967296 : Nat) : Int)]) (k := i + j) (by simp [BTm.den, Tm.i, Tm.s, Tm.den, env, vInt, vBool, vStr, exI]; omega) (fun β => rowCells_mgk 64 V) (fun β => rowCells_mgk 64 _) (fun β => ?_) hput.symm (by rw [mgl_length]; simp; omega) ?_
      · rw [← wrap_u32, ← hTc]; simp [BTm.den, Tm.i, Tm.s, Tm.den, env, vInt, vBool, vStr, exI, SW.den, SV.den, Cell.den, densP, Piece.den, denV, denT]
      refine ev_fits (((j + 1 : Nat) : Int)) (by simp [BTm.den, Tm.i, Tm.s, Tm.den, env, vInt, vBool, vStr, exI]) (rng_i64 _ (by omega)) ?_
      refine ev_nil ?_
      refine ⟨[.int .i64 (j + 1 : Nat), .int .u64 (mulT n m i j V c / 4294967296 : Nat), .agg (mgk 64 (put V (i + j) (mulT n m i j V c % 4294967296)))], rfl, ⟨j + 1, _, _, by omega, hT.2, mul_step hV, put_lt hVb (by omega) (by omega), rfl⟩, ?_, ?_⟩
      · simp [vInt]; omega
      · have hsh := shr32 (mulT n m i j V c)
        rw [← hTc] at hsh
        simp [BTm.den, Tm.i, Tm.s, Tm.den, env, vInt, vBool, vStr, exI, SW.den, SV.den, Cell.den, densP, Piece.den, denV, denT, hsh]
    · have hlt : ¬ j < nl m := by simpa [BTm.den, Tm.i, Tm.s, Tm.den, env, vInt, vBool, vStr, exI] using hlt
      have hjm : j = nl m := by omega
      subst hjm
      obtain ⟨rfl, rfl⟩ := hc' c V hc hVb hV
      exact ⟨rfl, by simp [BTm.den, Tm.i, Tm.s, Tm.den, env, vInt, vBool, vStr, exI, SW.den, SV.den, Cell.den, densP, Piece.den, denV, denT]⟩

theorem mul_carry {n m i : Nat} (hm : m < pw (nl m)) (c V : Nat) (hc : c < 4294967296) (hV : V < pw (i + nl m)) (h : V + c * pw (i + nl m) = mulV n m i (nl m)) : c = n % pw (i + 1) * m / pw (i + nl m) ∧ V = n % pw (i + 1) * m % pw (i + nl m) := by
  rw [mulV_round hm] at h
  have hp := pw_pos (i + nl m)
  rw [← h]
  constructor
  · rw [Nat.add_mul_div_right _ _ hp, Nat.div_eq_of_lt hV, Nat.zero_add]
  · rw [Nat.add_mul_mod_self_right, Nat.mod_eq_of_lt hV]
set_option maxHeartbeats 1000000 in
theorem rmul_outer (s t : Bool) (n m : Nat) (hn : n < pw 32) (hm : m < pw 32) :
    Ev.holds Tryz.prog (env [.bool s, .agg (mgk 32 n), .bool t, .agg (mgk 32 m), .int .i64 (nl n : Nat), .int .i64 (nl m : Nat), .int .i64 (nl n : Nat), .agg (mgk 64 (n * m))]) (.loop 111 0 mulS111_0 mulH111_0 (.exit 0) .none 2) := by
  have h1 := nl_le n
  have h2 := nl_le m
  have hml := nl_lt hm
  have hnl := nl_lt hn
  refine loop_holds plain (m := 2) (x := .exit 0) (alt := none) [.bool s, .agg (mgk 32 n), .bool t, .agg (mgk 32 m), .int .i64 (nl n : Nat), .int .i64 (nl m : Nat)] [.int .i64 (nl n : Nat), .agg (mgk 64 (n * m))] tMul0_ok tMul0_fine
    (fun vs => ∃ i : Nat, i ≤ nl n ∧ vs = [.int .i64 (i : Nat), .agg (mgk 64 (n % pw i * m))])
    (fun vs => nl n - (vInt (vs.getD 0 undef)).toNat) tMul0_diff ?_ ?_
  · refine ⟨[.int .i64 (0 : Nat), .agg (mgk 64 (n % pw 0 * m))], rfl, ⟨0, by omega, rfl⟩, ?_⟩
    have hz : rowCells (.agg (mgk 64 (n % pw 0 * m))) 64 = List.replicate 64 (.int .u32 0) := by rw [rowCells_mgk, mod_pw_zero, Nat.zero_mul, mgl_zero]
    simp [tMul0_d, BTm.den, Tm.i, Tm.s, Tm.den, env, vInt, vBool, vStr, exI, SW.den, SV.den, Cell.den, densP, Piece.den, denV, denT, hz]
  · rintro vs hl ⟨i, hi, rfl⟩
    clear hl
    refine tree_ite (ev_nil ⟨fun hlt => tree_leaf ?_, fun hlt => tree_leaf (ev_nil ?_)⟩)
    · have hlt : i < nl n := by simpa [BTm.den, Tm.i, Tm.s, Tm.den, env, vInt, vBool, vStr, exI] using hlt
      obtain ⟨C, V0, hC, hV0, hput0, hcr⟩ : ∃ C V0 : Nat, C < 4294967296 ∧ V0 < pw (i + nl m) ∧ put V0 (i + nl m) C = n % pw (i + 1) * m ∧ ∀ c V, c < 4294967296 → V < pw (i + nl m) → V + c * pw (i + nl m) = mulV n m i (nl m) → c = C ∧ V = V0 := by
        refine ⟨n % pw (i + 1) * m / pw (i + nl m), n % pw (i + 1) * m % pw (i + nl m), ?_, Nat.mod_lt _ (pw_pos _), ?_, mul_carry hml⟩
        · have := mul_small (a := n) (i := i + 1) hml
          rw [show i + 1 + nl m = i + nl m + 1 by omega, pw_succ] at this
          exact Nat.div_lt_of_lt_mul this
        · rw [put_low _ (Nat.mod_lt _ (pw_pos _)), Nat.mul_comm (_ / _)]; exact Nat.mod_add_div _ _
      obtain ⟨R, hR⟩ : ∃ R, R = n % pw (i + 1) * m := ⟨_, rfl⟩
      have hin := rmul_inner s t n m i (n % pw i * m) hlt hm rfl C V0 hcr
      obtain ⟨W, hW⟩ : ∃ W, W = n % pw i * m := ⟨_, rfl⟩
      rw [← hW] at hin ⊢
      rw [← hR] at hput0
      refine ev_loop [.int .i64 (nl m : Nat), .int .u64 (C : Nat), .agg (mgk 64 V0)] rfl rfl hin ?_
      refine ev_fits (((i + nl m : Nat) : Int)) (by simp [BTm.den, Tm.i, Tm.s, Tm.den, env, vInt, vBool, vStr, exI]) (rng_i64 _ (by omega)) ?_
      refine ev_need (by simp [BTm.den, Tm.i, Tm.s, Tm.den, env, vInt, vBool, vStr, exI] <;> omega) ?_
      refine ev_need (by simp [BTm.den, Tm.i, Tm.s, Tm.den, env, vInt, vBool, vStr, exI] <;> omega) ?_
      have hput : (mgl 64 V0).take (i + nl m) ++ [.int .u32 ((C : Nat) : Int)] ++ (mgl 64 V0).drop (i + nl m + 1) = mgl 64 R := by
        rw [← mgl_put (n := V0) (show i + nl m < 64 by omega) rfl hC, hput0]
      refine ev_put [.agg (mgk 64 R)] rfl rfl (l := mgl 64 V0) (l' := mgl 64 R) (m := [.int .u32 ((C : Nat) : Int)]) (k := i + nl m) (by simp [BTm.den, Tm.i, Tm.s, Tm.den, env, vInt, vBool, vStr, exI] <;> omega) (fun β => rowCells_mgk 64 _) (fun β => rowCells_mgk 64 _) (fun β => ?_) hput.symm (by rw [mgl_length]; simp; omega) ?_
      · have := wrap_u32 C
        rw [Nat.mod_eq_of_lt hC] at this
        simp [BTm.den, Tm.i, Tm.s, Tm.den, env, vInt, vBool, vStr, exI, SW.den, SV.den, Cell.den, densP, Piece.den, denV, denT, this]
      refine ev_fits (((i + 1 : Nat) : Int)) (by simp [BTm.den, Tm.i, Tm.s, Tm.den, env, vInt, vBool, vStr, exI]) (rng_i64 _ (by omega)) ?_
      refine ev_nil ⟨[.int .i64 (i + 1 : Nat), .agg (mgk 64 R)], rfl, ⟨i + 1, by omega, by rw [hR]⟩, ?_, ?_⟩
      · simp [vInt]; omega
      · simp [BTm.den, Tm.i, Tm.s, Tm.den, env, vInt, vBool, vStr, exI, SW.den, SV.den, Cell.den, densP, Piece.den, denV, denT]
    · have hlt : ¬ i < nl n := by simpa [BTm.den, Tm.i, Tm.s, Tm.den, env, vInt, vBool, vStr, exI] using hlt
      have hjm : i = nl n := by omega
      subst hjm
      refine ⟨rfl, ?_⟩
      have : n % pw (nl n) * m = n * m := mul_end hnl
      simp [BTm.den, Tm.i, Tm.s, Tm.den, env, vInt, vBool, vStr, exI, SW.den, SV.den, Cell.den, densP, Piece.den, denV, denT, this]

set_option maxHeartbeats 1000000 in
theorem rmul_last (s t : Bool) (n m V k : Nat) (e : Int) (b : Bool) (hk : (b = false ∧ k = 32 ∧ e = 0 ∧ ∀ j, j < 32 → limb V (32 + j) = 0) ∨ (b = true ∧ k < 32 ∧ e = 10 ∧ (∀ j, j < k → limb V (32 + j) = 0) ∧ limb V (32 + k) ≠ 0)) :
    Ev.holds Tryz.prog (env [.bool s, .agg (mgk 32 n), .bool t, .agg (mgk 32 m), .int .i64 (nl n : Nat), .int .i64 (nl m : Nat), .int .i64 (nl n : Nat), .agg (mgk 64 V), .int .i64 (k : Nat), .int .i64 e, .agg (mgk 32 (V % pw k)), .bool b]) (.loop 111 2 mulS111_2 mulH111_2 (.exit 4) (.some (11, .ret)) 4) := by
  refine loop_holds plain (m := 4) (x := .exit 4) (alt := .some (11, .ret)) [.bool s, .agg (mgk 32 n), .bool t, .agg (mgk 32 m), .int .i64 (nl n : Nat), .int .i64 (nl m : Nat), .int .i64 (nl n : Nat), .agg (mgk 64 V)] [.int .i64 (k : Nat), .int .i64 e, .agg (mgk 32 (V % pw k)), .bool b] tMul2_ok tMul2_fine
    (fun vs => ∃ i : Nat, i ≤ 32 ∧ (∀ j, j < i → limb V (32 + j) = 0) ∧ vs = [.int .i64 (i : Nat), .int .i64 0, .agg (mgk 32 (V % pw i)), .bool false])
    (fun vs => 32 - (vInt (vs.getD 0 undef)).toNat) tMul2_diff ?_ ?_
  · refine ⟨[.int .i64 (0 : Nat), .int .i64 0, .agg (mgk 32 (V % pw 0)), .bool false], rfl, ⟨0, by omega, fun j hj => by omega, rfl⟩, ?_⟩
    have hz : rowCells (.agg (mgk 32 (V % pw 0))) 32 = List.replicate 32 (.int .u32 0) := by rw [rowCells_mgk, mod_pw_zero, mgl_zero]
    simp [tMul2_d, BTm.den, Tm.i, Tm.s, Tm.den, env, vInt, vBool, vStr, exI, SW.den, SV.den, Cell.den, densP, Piece.den, denV, denT, hz]
  · rintro vs hl ⟨i, hi, hz, rfl⟩
    clear hl
    refine tree_ite (ev_nil ⟨fun hlt => tree_ite ?_, fun hlt => tree_leaf (ev_nil ?_)⟩)
    · have hlt : i < 32 := by
        have : (i : Int) < 32 := by simpa [BTm.den, Tm.i, Tm.s, Tm.den, env, vInt, vBool, vStr, exI] using hlt
        omega
      refine ev_fits (((32 + i : Nat) : Int)) (by simp [BTm.den, Tm.i, Tm.s, Tm.den, env, vInt, vBool, vStr, exI]) (rng_i64 _ (by omega)) ?_
      refine ev_need (by simp [BTm.den, Tm.i, Tm.s, Tm.den, env, vInt, vBool, vStr, exI] <;> omega) ?_
      refine ev_need (by simp [BTm.den, Tm.i, Tm.s, Tm.den, env, vInt, vBool, vStr, exI] <;> omega) ?_
      refine ev_elem [.int .u32 (limb V (32 + i) : Nat)] rfl rfl (l := mgl 64 V) (m := [.int .u32 (limb V (32 + i) : Nat)]) (k := 32 + i) (by simp [BTm.den, Tm.i, Tm.s, Tm.den, env, vInt, vBool, vStr, exI] <;> omega) (fun β => rowCells_mgk 64 V) (fun β => rfl) (mgl_elem (by omega)) ?_
      refine ev_nil ⟨fun h0 => tree_leaf ?_, fun h0 => tree_leaf (ev_nil ?_)⟩
      · have h0 : limb V (32 + i) = 0 := by
          have : ((limb V (32 + i) : Nat) : Int) = 0 := by simpa [BTm.den, Tm.i, Tm.s, Tm.den, env, vInt, vBool, vStr, exI] using h0
          omega
        have hb := limb_lt V i
        refine ev_need (by simp [BTm.den, Tm.i, Tm.s, Tm.den, env, vInt, vBool, vStr, exI] <;> omega) ?_
        refine ev_need (by simp [BTm.den, Tm.i, Tm.s, Tm.den, env, vInt, vBool, vStr, exI] <;> omega) ?_
        refine ev_elem [.int .u32 (limb V i : Nat)] rfl rfl (l := mgl 64 V) (m := [.int .u32 (limb V i : Nat)]) (k := i) (by simp [BTm.den, Tm.i, Tm.s, Tm.den, env, vInt, vBool, vStr, exI] <;> omega) (fun β => rowCells_mgk 64 V) (fun β => rfl) (mgl_elem (by omega)) ?_
        refine ev_need (by simp [BTm.den, Tm.i, Tm.s, Tm.den, env, vInt, vBool, vStr, exI] <;> omega) ?_
        refine ev_need (by simp [BTm.den, Tm.i, Tm.s, Tm.den, env, vInt, vBool, vStr, exI] <;> omega) ?_
        obtain ⟨W, hW⟩ : ∃ W, W = V % pw i := ⟨_, rfl⟩
        obtain ⟨W', hW'⟩ : ∃ W, W = V % pw (i + 1) := ⟨_, rfl⟩
        have hput : mgl 32 W' = (mgl 32 W).take i ++ [.int .u32 ((limb V i : Nat) : Int)] ++ (mgl 32 W).drop (i + 1) := by
          rw [← mgl_put (n := W) (show i < 32 by omega) rfl hb, put_low _ (by rw [hW]; exact Nat.mod_lt _ (pw_pos i)), hW', hW, mod_pw]
        rw [← hW]
        refine ev_put [.agg (mgk 32 W')] rfl rfl (l := mgl 32 W) (l' := mgl 32 W') (m := [.int .u32 ((limb V i : Nat) : Int)]) (k := i) (by simp [BTm.den, Tm.i, Tm.s, Tm.den, env, vInt, vBool, vStr, exI] <;> omega) (fun β => rowCells_mgk 32 _) (fun β => rowCells_mgk 32 _) (fun β => rfl) hput (by rw [mgl_length]; simp; omega) ?_
        refine ev_fits (((i + 1 : Nat) : Int)) (by simp [BTm.den, Tm.i, Tm.s, Tm.den, env, vInt, vBool, vStr, exI]) (rng_i64 _ (by omega)) ?_
        refine ev_nil ⟨[.int .i64 (i + 1 : Nat), .int .i64 0, .agg (mgk 32 W'), .bool false], rfl, ⟨i + 1, by omega, fun j hj => ?_, by rw [hW']⟩, ?_, ?_⟩
        · by_cases hji : j = i
          · subst hji; exact h0
          · exact hz j (by omega)
        · simp [vInt]; omega
        · simp [BTm.den, Tm.i, Tm.s, Tm.den, env, vInt, vBool, vStr, exI, SW.den, SV.den, Cell.den, densP, Piece.den, denV, denT]
      · have h0 : limb V (32 + i) ≠ 0 := by
          intro hc
          have : ¬ ((limb V (32 + i) : Nat) : Int) = 0 := by simpa [BTm.den, Tm.i, Tm.s, Tm.den, env, vInt, vBool, vStr, exI] using h0
          omega
        rcases hk with ⟨_, _, _, ha⟩ | ⟨rfl, hk, rfl, ha, hb⟩
        · exact absurd (ha i hlt) h0
        · have hik : i = k := by
            rcases Nat.lt_trichotomy i k with h | h | h
            · exact absurd (ha i h) h0
            · exact h
            · exact absurd (hz k h) hb
          subst hik
          exact ⟨rfl, by simp [BTm.den, Tm.i, Tm.s, Tm.den, env, vInt, vBool, vStr, exI, SW.den, SV.den, Cell.den, densP, Piece.den, denV, denT]⟩
    · have hi32 : i = 32 := by
        have : ¬ (i : Int) < 32 := by simpa [BTm.den, Tm.i, Tm.s, Tm.den, env, vInt, vBool, vStr, exI] using hlt
        omega
      subst hi32
      rcases hk with ⟨rfl, rfl, rfl, ha⟩ | ⟨rfl, hk, rfl, ha, hb⟩
      · exact ⟨rfl, by simp [BTm.den, Tm.i, Tm.s, Tm.den, env, vInt, vBool, vStr, exI, SW.den, SV.den, Cell.den, densP, Piece.den, denV, denT]⟩
      · exact absurd (hz k hk) hb

theorem up_zero {V : Nat} (hV : V < pw 64) (h : ∀ j, j < 32 → limb V (32 + j) = 0) : V < pw 32 := by
  have h0 : V / pw 32 = 0 := limb_ext (k := 32) (by rw [Nat.div_lt_iff_lt_mul (pw_pos _), ← pw_add]; exact hV) (pw_pos 32) fun j hj => by rw [← limb_up, h j hj, limb_zero]
  have := Nat.div_add_mod V (pw 32)
  rw [h0] at this
  have := Nat.mod_lt V (pw_pos 32)
  omega
theorem first_up (V : Nat) : ∀ K, (∀ j, j < K → limb V (32 + j) = 0) ∨ ∃ k, k < K ∧ (∀ j, j < k → limb V (32 + j) = 0) ∧ limb V (32 + k) ≠ 0
  | 0 => .inl fun j hj => by omega
  | K + 1 => by
    rcases first_up V K with h | ⟨k, h1, h2, h3⟩
    · by_cases hz : limb V (32 + K) = 0
      · refine .inl fun j hj => ?_
        by_cases hjk : j = K
        · subst hjk; exact hz
        · exact h j (by omega)
      · exact .inr ⟨K, by omega, h, hz⟩
    · exact .inr ⟨k, by omega, h2, h3⟩
theorem rvz_mul (s t : Bool) (n m : Nat) : vz s n * vz t m = vz (s != t) (n * m) := by
  unfold vz; cases s <;> cases t <;> simp [Int.neg_mul, Int.mul_neg]
set_option maxHeartbeats 1000000 in
theorem rmul_any (s t : Bool) (n m : Nat) (hn : n < pw 32) (hm : m < pw 32) : Gives Tryz.prog 111 #[.agg (iv s n), .agg (iv t m)] (resZ (vz s n * vz t m)) := by
  have hV : n * m < pw 64 := by
    rw [show (64 : Nat) = 32 + 32 by rfl, pw_add]
    exact Nat.mul_lt_mul_of_lt_of_le hn (Nat.le_of_lt hm) (pw_pos 32)
  have hlim : ∀ j, 0 ≤ j → n * m < pw 32 → limb (n * m) (32 + j) = 0 := fun j _ h => limb_of_ge (Nat.lt_of_lt_of_le h (pw_le (by omega)))
  have main : ∀ v, (∀ W : Nat, True) → v = resZ (vz s n * vz t m) → (tMul.den Tryz.prog (fun ρ' ret => ∀ β, ret.val.den (env ρ') β = v) [.bool s, .agg (mgk 32 n), .bool t, .agg (mgk 32 m)]) := by
    intro v _ hv
    refine tree_ite ?_
    refine ev_call [.int .i64 (nl n : Nat)] rfl rfl (pure_gives (rlimbs_any n)) (fun β => by simp [BTm.den, Tm.i, Tm.s, Tm.den, env, vInt, vBool, vStr, exI, SW.den, SV.den, Cell.den, densP, Piece.den, denV, rowCells_mgk, iv_list, mgl_agg]) (fun β => by simp [BTm.den, Tm.i, Tm.s, Tm.den, env, vInt, vBool, vStr, exI, SW.den, SV.den, Cell.den, densP, Piece.den, denV, rowCells_mgk, iv_list, mgl_agg]) ?_
    refine ev_call [.int .i64 (nl m : Nat)] rfl rfl (pure_gives (rlimbs_any m)) (fun β => by simp [BTm.den, Tm.i, Tm.s, Tm.den, env, vInt, vBool, vStr, exI, SW.den, SV.den, Cell.den, densP, Piece.den, denV, rowCells_mgk, iv_list, mgl_agg]) (fun β => by simp [BTm.den, Tm.i, Tm.s, Tm.den, env, vInt, vBool, vStr, exI, SW.den, SV.den, Cell.den, densP, Piece.den, denV, rowCells_mgk, iv_list, mgl_agg]) ?_
    refine ev_loop [.int .i64 (nl n : Nat), .agg (mgk 64 (n * m))] rfl rfl (rmul_outer s t n m hn hm) ?_
    rw [rvz_mul] at hv
    rcases first_up (n * m) 32 with h | ⟨k, h1, h2, h3⟩
    · have hfit := up_zero hV h
      have hmod : n * m % pw 32 = n * m := Nat.mod_eq_of_lt hfit
      refine ev_loop [.int .i64 (32 : Nat), .int .i64 0, .agg (mgk 32 (n * m % pw 32)), .bool false] rfl rfl (rmul_last s t n m (n * m) 32 0 false (.inl ⟨rfl, rfl, rfl, h⟩)) ?_
      rw [hmod]
      rw [resZ_fits (by rw [vz_abs]; exact hfit)] at hv
      refine ev_nil (way_false (by simp [BTm.den, Tm.i, Tm.s, Tm.den, env, vInt, vBool, vStr, exI]) (tree_ite (ev_nil ⟨fun ht => tree_leaf ?_, fun ht => tree_leaf ?_⟩)))
      · have ht : t = true := by simpa [BTm.den, Tm.i, Tm.s, Tm.den, env, vInt, vBool, vStr, exI] using ht
        subst ht
        have hc := rcanon (!s) (n * m) hfit
        refine ev_call [.bool (decide (vz (!s) (n * m) < 0)), .agg (mgk 32 (vz (!s) (n * m)).natAbs)] rfl rfl (pure_gives hc) (fun β => by simp [BTm.den, Tm.i, Tm.s, Tm.den, env, vInt, vBool, vStr, exI, SW.den, SV.den, Cell.den, densP, Piece.den, denV, denT, rowCells_mgk, mgl_agg]) (fun β => by simp [BTm.den, Tm.i, Tm.s, Tm.den, env, vInt, vBool, vStr, exI, SW.den, SV.den, Cell.den, densP, Piece.den, denV, denT, rowCells_mgk, iv_list, ivZ]) ?_
        refine ev_nil fun β => ?_
        rw [hv]
        have e : (s != true) = !s := by cases s <;> rfl
        simp [BTm.den, Tm.i, Tm.s, Tm.den, env, vInt, vBool, vStr, exI, SW.den, SV.den, Cell.den, densP, Piece.den, denV, denT, rowCells_mgk, iv_list, ivZ, e]
      · have ht : t = false := by simpa [BTm.den, Tm.i, Tm.s, Tm.den, env, vInt, vBool, vStr, exI] using ht
        subst ht
        have hc := rcanon s (n * m) hfit
        refine ev_call [.bool (decide (vz s (n * m) < 0)), .agg (mgk 32 (vz s (n * m)).natAbs)] rfl rfl (pure_gives hc) (fun β => by simp [BTm.den, Tm.i, Tm.s, Tm.den, env, vInt, vBool, vStr, exI, SW.den, SV.den, Cell.den, densP, Piece.den, denV, denT, rowCells_mgk, mgl_agg]) (fun β => by simp [BTm.den, Tm.i, Tm.s, Tm.den, env, vInt, vBool, vStr, exI, SW.den, SV.den, Cell.den, densP, Piece.den, denV, denT, rowCells_mgk, iv_list, ivZ]) ?_
        refine ev_nil fun β => ?_
        rw [hv]
        have e : (s != false) = s := by cases s <;> rfl
        simp [BTm.den, Tm.i, Tm.s, Tm.den, env, vInt, vBool, vStr, exI, SW.den, SV.den, Cell.den, densP, Piece.den, denV, denT, rowCells_mgk, iv_list, ivZ, e]
    · have hnot : ¬ n * m < pw 32 := fun h => h3 (hlim k (by omega) h)
      refine ev_loop [.int .i64 (k : Nat), .int .i64 10, .agg (mgk 32 (n * m % pw k)), .bool true] rfl rfl (rmul_last s t n m (n * m) k 10 true (.inr ⟨rfl, h1, rfl, h2, h3⟩)) ?_
      rw [resZ_not (by rw [vz_abs]; exact hnot)] at hv
      refine ev_nil (way_true (by simp [BTm.den, Tm.i, Tm.s, Tm.den, env, vInt, vBool, vStr, exI]) (tree_leaf (ev_nil fun β => ?_)))
      rw [hv, ivZ_zero, ← iv_list, mgl_zero]
      simp [BTm.den, Tm.i, Tm.s, Tm.den, env, vInt, vBool, vStr, exI, SW.den, SV.den, Cell.den, densP, Piece.den, denV, denT]
  have := pure_of plain [.bool s, .agg (mgk 32 n), .bool t, .agg (mgk 32 m)] tMul_ok (by kernel_rfl) _ (main _ (fun _ => trivial) rfl)
  refine gives_pure ?_
  have e : denT (env [.bool s, .agg (mgk 32 n), .bool t, .agg (mgk 32 m)]) (fun _ => 0) [intA 0, intA 2] = #[.agg (iv s n), .agg (iv t m)] := by
    simp [intA, BTm.den, Tm.i, Tm.s, Tm.den, env, vInt, vBool, vStr, exI, SW.den, SV.den, Cell.den, densP, Piece.den, denV, denT, rowCells_mgk, iv_list]
  rw [e] at this
  exact this
end Go.Proofs.YtkiefjbfepjcbaaGreatDoor
end
section
namespace Go.Proofs.YtkiefjbfepjcbaaGreatDoor
open Go.RowKit

set_option maxRecDepth 100000 in
set_option maxHeartbeats 2000000 in
theorem times_any (n m : Nat) (hn : n < pw 32) (hm : m < pw 32) : Gives Tryz.prog 146 #[.agg (mgk 32 n), .agg (mgk 32 m)] (.tuple #[.agg (mgk 32 (n * m % pw 32)), .bool (isz (n * m / pw 32))]) := by
  intro w
  have hS := St.start w
  have HNn := Lib.hid (nl_lt hn)
  have HMm := Lib.hid (nl_lt hm)
  have hln := nl_le n
  have hlm := nl_le m
  have HZ : Hid (n * m / pw 32 < pw 32) := (Nat.div_lt_iff_lt_mul (pw_pos 32)).2 (Nat.mul_lt_mul_of_lt_of_lt hn hm)
  clear hn hm
  go_enter Tryz.func146, Tryz.ntmps146
  go_wp2_with (first | (refine L_box_agg hS rfl rfl ?_; refine ⟨_, rfl, ?_⟩; clear hS; intro _ _ hS) | (refine L_alloc_agg hS rfl rfl ?_; refine ⟨_, zero119, ?_⟩; clear hS; intro _ _ hS) | (refine L_alloc_agg hS rfl rfl ?_; refine ⟨_, zero144, ?_⟩; clear hS; intro _ _ hS))
  rename_i b2 _ b3 _ b4 _ b6 _ _ _
  (try simp only [Act.put]); (try simp only [List.setIfInBounds_toArray, List.set_cons_succ, List.set_cons_zero]); refine wp_region_w0 hS (by kernel_rfl) (by kernel_rfl) ?_
  repeat (first
    | (refine S_load (t := 119) rfl rfl rfl rfl ?_; refine ⟨_, fun _ hS' => run_load_row hS' _ _ rfl _ rfl _ _ (.inl (.tail _ (.tail _ (.head _)))) _ Tryz.underlying119 rfl (size119_mg _), ?_⟩; simp only [Act.put, List.setIfInBounds_toArray, List.set_cons_succ, List.set_cons_zero]) | (refine S_load (t := 119) rfl rfl rfl rfl ?_; refine ⟨_, fun _ hS' => run_load_row hS' _ _ rfl _ rfl _ _ (.inl (.tail _ (.tail _ (.tail _ (.head _))))) _ Tryz.underlying119 rfl (size119_mg _), ?_⟩; simp only [Act.put, List.setIfInBounds_toArray, List.set_cons_succ, List.set_cons_zero])
    | (refine S_call 169 rfl rfl rfl rfl ?_; apply Exists.intro; refine ⟨fun _ => ?_, ?_⟩; (focus (go_simp; exact rfl)); apply Exists.intro; (with_reducible refine ⟨limbCount_any _, ?_⟩); simp only [Act.put, List.setIfInBounds_toArray, List.set_cons_succ, List.set_cons_zero])
    | (refine S_run rfl rfl ?_; apply Exists.intro; refine ⟨fun _ => ?_, ?_⟩; (focus (go_simp; (try go_bits); exact rfl)); simp only [Act.put, List.setIfInBounds_toArray, List.set_cons_succ, List.set_cons_zero]))
  refine S_end0 ?_
  clear hS
  intro w1 hS
  go_wp2_with (fail)
  go_loopw [18] (fun i wr => ∃ k : Nat, k ≤ nl n ∧ i = .int .i64 k ∧ St none w wr [] [(b6, .cells (mgk 64 ((n % pw k) * m)) 144), (b4, .cells (mgk 32 0) 119), (b3, .cells (mgk 32 m) 119), (b2, .cells (mgk 32 n) 119)]) (fun i _ => nl n - (intOf i).toNat)
  case atStart => exact ⟨0, by omega, by go_num, by rw [mod_pw_zero, Nat.zero_mul]; exact hS⟩
  case round =>
    clear hS
    obtain ⟨i, hi, rfl, hS⟩ := hrel
    by_cases hlt : i < nl n
    · go_wp2_with (fail)
      obtain ⟨wo, rfl⟩ : ∃ wo : World, wo = wr := ⟨_, rfl⟩
      go_loopw [10, 22] (fun cy j wr => ∃ q W c : Nat, q ≤ nl m ∧ j = .int .i64 q ∧ cy = .int .u64 ((c : Nat) : Int) ∧ c < 4294967296 ∧ Hid (W < pw (i + nl m)) ∧ Hid (W + c * pw (i + q) = mulV n m i q) ∧ St none w wr [] [(b6, .cells (mgk 64 W) 144), (b4, .cells (mgk 32 0) 119), (b3, .cells (mgk 32 m) 119), (b2, .cells (mgk 32 n) 119)]) (fun _ j _ => nl m - (intOf j).toNat)
      case atStart => exact ⟨0, (n % pw i) * m, 0, by omega, by go_num, by go_num, by omega, mul_small HMm.out, (by rw [Nat.zero_mul]; exact (mulV_zero n m i).symm : (n % pw i) * m + 0 * pw (i + 0) = mulV n m i 0), hS⟩
      case round =>
        clear hS
        obtain ⟨q, W, c, hq, rfl, rfl, hc, HW, HV, hS⟩ := hrel
        by_cases hql : q < nl m
        · obtain ⟨p, hp⟩ : ∃ p, p = limb n i * limb m q := ⟨_, rfl⟩
          have hpz : ((limb n i : Nat) : Int) * ((limb m q : Nat) : Int) = ((p : Nat) : Int) := by rw [hp, Int.natCast_mul]
          have hpb : p ≤ 18446744065119617025 := by rw [hp]; exact mul_bound _ _ (limb_lt _ _) (limb_lt _ _)
          have HT : Hid (mulT n m i q W c = c + (p + limb W (i + q))) := by rw [hp]; rfl
          have hlw := limb_lt W (i + q)
          have hla := limb_lt n i
          have hlb := limb_lt m q
          have HC := Lib.hid (mulT_lt (a := n) (b := m) (i := i) (j := q) (W := W) hc)
          have HP : Hid (put W (i + q) (mulT n m i q W c % 4294967296) < pw (i + nl m)) := put_lt HW.out (by omega) (by omega)
          have HS := Lib.hid (mul_step HV.out)
          have hi32 : (i : Int) < 32 := by omega
          have hq32 : (q : Int) < 32 := by omega
          have hiq : (i : Int) + (q : Int) < 64 := by omega
          clear hp
          go_wp2_with (fail)
          (try simp only [Act.put]); (try simp only [List.setIfInBounds_toArray, List.set_cons_succ, List.set_cons_zero]); refine wp_region_w0 hS (by kernel_rfl) (by kernel_rfl) ?_
          repeat (first
            | (refine S_load (t := 22) rfl rfl rfl rfl ?_; refine ⟨_, fun _ hS' => run_load_cell hS' _ _ rfl _ _ rfl _ _ (.inl (.tail _ (.tail _ (.tail _ (.head _))))) _ Tryz.underlying22 rfl _ (mgk_get' (by omega)), ?_⟩; simp only [Act.put, List.setIfInBounds_toArray, List.set_cons_succ, List.set_cons_zero]) | (refine S_load (t := 22) rfl rfl rfl rfl ?_; refine ⟨_, fun _ hS' => run_load_cell hS' _ _ rfl _ _ rfl _ _ (.inl (.tail _ (.tail _ (.head _)))) _ Tryz.underlying22 rfl _ (mgk_get' (by omega)), ?_⟩; simp only [Act.put, List.setIfInBounds_toArray, List.set_cons_succ, List.set_cons_zero]) | (refine S_load (t := 22) rfl rfl rfl rfl ?_; refine ⟨_, fun _ hS' => run_load_cell hS' _ _ rfl _ _ rfl _ _ (.inl (.head _)) _ Tryz.underlying22 rfl _ (mgk_get' (by omega)), ?_⟩; simp only [Act.put, List.setIfInBounds_toArray, List.set_cons_succ, List.set_cons_zero])
            | (refine S_run rfl rfl ?_; apply Exists.intro; refine ⟨fun _ => ?_, ?_⟩; (focus (go_simp; (try go_bits); exact rfl)); simp only [Act.put, List.setIfInBounds_toArray, List.set_cons_succ, List.set_cons_zero]))
          refine S_end0 ?_; clear hS; intro _ hS
          go_wp2_with (first | (refine L_store (t := 22) hS rfl rfl ?_; refine ⟨_, _, mgk 64 (put W (i + q) (mulT n m i q W c % 4294967296)), _, _, (.head), run_store_cell hS _ _ _ rfl _ _ rfl _ rfl _ _ _ (.head) size22 rfl rfl ?_ ?_, ?_⟩; (focus (rw [mgk_size]; omega)); (focus (exact mgk_put' W (mulT n m i q W c % 4294967296) (by rw [HT.out]; omega) (by omega))); clear hS; intro _ hS))
          go_roundw
          case rel => exact ⟨q + 1, _, mulT n m i q W c / 4294967296, by omega, by go_num, congrArg (Value.int .u64) (by rw [HT.out]; omega), HC.out.2, HP, HS, hS⟩
          case measure => simp [intOf]; omega
        · have eq : q = nl m := by omega
          subst eq
          have hiq : (i : Int) + ((nl m : Nat) : Int) < 64 := by omega
          have HR : Hid (put W (i + nl m) c = (n % pw (i + 1)) * m) := mul_round HMm.out HW.out HV.out
          go_wp2_with (first | (refine L_store (t := 22) hS rfl rfl ?_; refine ⟨_, _, mgk 64 ((n % pw (i + 1)) * m), _, _, (.head), run_store_cell hS _ _ _ rfl _ _ rfl _ rfl _ _ _ (.head) size22 rfl rfl ?_ ?_, ?_⟩; (focus (rw [mgk_size]; omega)); (focus (exact (mgk_put' W c (by omega) hc).trans (congrArg (mgk 64) HR.out))); clear hS; intro _ hS))
          go_roundw
          case rel => exact ⟨i + 1, by omega, by go_num, hS⟩
          case measure => simp [intOf]; omega
    · have ei : i = nl n := by omega
      subst ei
      rw [mul_end HNn.out] at hS
      go_wp2_with (first | (refine L_alloc_agg hS rfl rfl ?_; refine ⟨_, zero119, ?_⟩; clear hS; intro _ _ hS))
      (try simp only [Act.put]); (try simp only [List.setIfInBounds_toArray, List.set_cons_succ, List.set_cons_zero]); refine wp_region_u1 hS 2 [] (.tail (.tail (.head (o' := .cells (mgk 32 (n * m % pw 32)) 119)))) (by kernel_rfl) (by kernel_rfl) ?_
      repeat (first | (refine S_copy rfl rfl rfl ?_; refine ⟨_, _, _, _, _, (.tail (.tail .head)), fun _ hS' => run_copy_over hS' _ _ _ _ rfl _ Tryz.underlying170 size22 _ _ _ _ _ _ rfl rfl _ _ _ _ _ (.tail (.tail .head)) (.inl (.tail _ (.head _))) (mgk_size _ _) (mgk_size _ _) (fun k hk => low_row hk (by omega)) (oneCells _ _), ?_⟩; simp only [Act.put, List.setIfInBounds_toArray, List.set_cons_succ, List.set_cons_zero]) | (refine S_run rfl rfl ?_; apply Exists.intro; refine ⟨fun _ => ?_, ?_⟩; (focus (go_simp; (try go_bits); exact rfl)); simp only [Act.put, List.setIfInBounds_toArray, List.set_cons_succ, List.set_cons_zero]))
      refine S_end1 ?_; clear hS; intro _ hS
      go_wp2_with (fail)
      (try simp only [Act.put]); (try simp only [List.setIfInBounds_toArray, List.set_cons_succ, List.set_cons_zero]); refine wp_region_u1 hS 2 [] (.head (o' := .cells (mgk 32 (n * m / pw 32)) 119)) (by kernel_rfl) (by kernel_rfl) ?_
      repeat (first | (refine S_copy rfl rfl rfl ?_; refine ⟨_, _, _, _, _, (.head), fun _ hS' => run_copy_over hS' _ _ _ _ rfl _ Tryz.underlying170 size22 _ _ _ _ _ _ rfl rfl _ _ _ _ _ (.head) (.inl (.tail _ (.head _))) (mgk_size _ _) (mgk_size _ _) (fun k hk => up_row hk (by omega)) (oneCells _ _), ?_⟩; simp only [Act.put, List.setIfInBounds_toArray, List.set_cons_succ, List.set_cons_zero]) | (refine S_run rfl rfl ?_; apply Exists.intro; refine ⟨fun _ => ?_, ?_⟩; (focus (go_simp; (try go_bits); exact rfl)); simp only [Act.put, List.setIfInBounds_toArray, List.set_cons_succ, List.set_cons_zero]))
      refine S_end1 ?_; clear hS; intro _ hS
      go_wp2_with (fail)
      (try simp only [Act.put]); (try simp only [List.setIfInBounds_toArray, List.set_cons_succ, List.set_cons_zero]); refine wp_region_u1 hS 3 [] (.tail (.tail (.head (o' := .cells (mgk 32 (n * m % pw 32)) 119)))) (by kernel_rfl) (by kernel_rfl) ?_
      repeat (first
        | (refine S_load (t := 119) rfl rfl rfl rfl ?_; refine ⟨_, fun _ hS' => run_load_row hS' _ _ rfl _ rfl _ _ (.inl (.tail _ (.tail _ (.head _)))) _ Tryz.underlying119 rfl (size119_mg _), ?_⟩; simp only [Act.put, List.setIfInBounds_toArray, List.set_cons_succ, List.set_cons_zero]) | (refine S_load (t := 119) rfl rfl rfl rfl ?_; refine ⟨_, fun _ hS' => run_load_row hS' _ _ rfl _ rfl _ _ (.inl (.head _)) _ Tryz.underlying119 rfl (size119_mg _), ?_⟩; simp only [Act.put, List.setIfInBounds_toArray, List.set_cons_succ, List.set_cons_zero])
        | (refine S_call 127 rfl rfl rfl rfl ?_; apply Exists.intro; refine ⟨fun _ => ?_, ?_⟩; (focus (go_simp; exact rfl)); apply Exists.intro; (with_reducible refine ⟨isZero _ HZ.out, ?_⟩); simp only [Act.put, List.setIfInBounds_toArray, List.set_cons_succ, List.set_cons_zero])
        | (refine S_store (t := 119) rfl rfl rfl ?_; refine ⟨_, _, _, _, (.tail (.tail .head)), fun _ hS' => run_store_row hS' _ _ _ rfl _ rfl _ _ rfl _ (.tail (.tail .head)) (size119_mg _) (mg_sizes _ _ _) (oneCells _ _), ?_⟩; simp only [Act.put])
        | (refine S_run rfl rfl ?_; apply Exists.intro; refine ⟨fun _ => ?_, ?_⟩; (focus (go_simp; (try go_bits); exact rfl)); simp only [Act.put, List.setIfInBounds_toArray, List.set_cons_succ, List.set_cons_zero]))
      refine S_end1 ?_; clear hS; intro _ hS
      go_wp2
      (try simp only [Exit.inBlock, Exit.then]); refine bodyPost_ret (res_cell_tmp rfl _ _ _ (run_loadRow hS _ _ _ _ (.inl (.tail _ (.tail _ (.head _)))) _ Tryz.underlying119 rfl (size119_mg _)) rfl _ rfl) rfl ⟨?_, hS.below⟩
      rfl

theorem vz_mul (s t : Bool) (n m : Nat) : vz s n * vz t m = vz (s != t) (n * m) := by
  cases s <;> cases t <;> simp [vz, Int.natCast_mul, Int.neg_mul, Int.mul_neg]
theorem resZ_vz_fits {s : Bool} {n : Nat} (h : n < pw 32) : resZ (vz s n) = .tuple #[.agg (ivZ (vz s n)), .int .i64 0] := resZ_fits (by rw [vz_abs]; exact h)
theorem resZ_vz_not {s : Bool} {n : Nat} (h : ¬ n < pw 32) : resZ (vz s n) = .tuple #[.agg (ivZ 0), .int .i64 10] := resZ_not (by rw [vz_abs]; exact h)

set_option maxRecDepth 100000 in
set_option maxHeartbeats 1000000 in
theorem mul_any (s t : Bool) (n m : Nat) (hn : n < pw 32) (hm : m < pw 32) : Gives Tryz.prog 99 #[.agg (iv s n), .agg (iv t m)] (resZ (vz s n * vz t m)) := by
  intro w
  have hS := St.start w
  rw [vz_mul]
  have HN := Lib.hid hn
  have HM := Lib.hid hm
  obtain ⟨k, hk⟩ : ∃ k, k = n * m % pw 32 := ⟨_, rfl⟩
  have hkl : Hid (k < pw 32) := by rw [hk]; exact Nat.mod_lt _ (pw_pos 32)
  by_cases hfit : n * m < pw 32
  · have G : Gives Tryz.prog 146 #[.agg (mgk 32 n), .agg (mgk 32 m)] (.tuple #[.agg (mgk 32 k), .bool true]) := by
      have := times_any n m hn hm
      rwa [isz_true (Nat.div_eq_of_lt hfit), ← hk] at this
    have HR : Hid (resZ (vz (s != t) (n * m)) = .tuple #[.agg (ivZ (vz (s != t) k)), .int .i64 0]) := by
      show resZ (vz (s != t) (n * m)) = _; rw [resZ_vz_fits hfit, hk, Nat.mod_eq_of_lt hfit]
    clear hn hm hfit hk
    go_enter Tryz.func99, Tryz.ntmps99
    go_wp2_with (first | (refine L_box_agg hS rfl rfl ?_; refine ⟨_, rfl, ?_⟩; clear hS; intro _ _ hS) | (refine L_alloc_agg hS rfl rfl ?_; refine ⟨_, zero25, ?_⟩; clear hS; intro _ _ hS) | (refine L_alloc_agg hS rfl rfl ?_; refine ⟨_, zero119, ?_⟩; clear hS; intro _ _ hS) | (refine L_load (t := 23) rfl rfl ?_; refine ⟨_, run_load_mid hS _ _ rfl _ _ rfl _ _ (.inl (.tail _ (.tail _ (.head _)))) _ Tryz.underlying23 rfl (mgk 32 _) (size23_mg _) (fun k _ => iv_mag _ _ k), ?_⟩) | (refine L_load (t := 23) rfl rfl ?_; refine ⟨_, run_load_mid hS _ _ rfl _ _ rfl _ _ (.inl (.tail _ (.head _))) _ Tryz.underlying23 rfl (mgk 32 _) (size23_mg _) (fun k _ => iv_mag _ _ k), ?_⟩) | (refine L_load (t := 4) rfl rfl ?_; refine ⟨_, run_load_cell hS _ _ rfl _ _ rfl _ _ (.inl (.tail _ (.tail _ (.tail _ (.head _))))) _ Tryz.underlying4 rfl _ (iv_neg _ _), ?_⟩) | (refine L_load (t := 4) rfl rfl ?_; refine ⟨_, run_load_cell hS _ _ rfl _ _ rfl _ _ (.inl (.tail _ (.tail _ (.head _)))) _ Tryz.underlying4 rfl _ (iv_neg _ _), ?_⟩) | (refine L_load (t := 119) rfl rfl ?_; refine ⟨_, run_load_row hS _ _ rfl _ rfl _ _ (.inl (.head _)) _ Tryz.underlying119 rfl (size119_mg _), ?_⟩) | (refine L_store (t := 119) hS rfl rfl ?_; refine ⟨_, _, _, _, _, (.head), run_store_row hS _ _ _ rfl _ rfl _ _ rfl _ (.head) (size119_mg _) (mg_sizes _ _ _) (oneCells _ _), ?_⟩; clear hS; intro _ hS) | (refine L_store (t := 25) hS rfl rfl ?_; refine ⟨_, _, _, _, _, (.tail .head), run_store_row hS _ _ _ rfl _ rfl _ _ rfl _ (.tail .head) (size25_iv _ _) (iv_sizes _ _ _ _) (oneCells_iv _ _), ?_⟩; clear hS; intro _ hS) | (go_at_call 146; (with_reducible refine Gives.use (G) hS ?_); clear hS; intro _ hS) | (go_at_call 147; (with_reducible refine Gives.use (checked_yes _ _ hkl.out) hS ?_); clear hS; intro _ hS))
    (try simp only [Exit.inBlock, Exit.then]); refine bodyPost_ret (res_cell_tmp rfl _ _ _ (run_loadRow hS _ _ _ _ (.inl (.tail _ (.head _))) _ Tryz.underlying25 rfl (size25_iv _ _)) rfl _ rfl) rfl ⟨?_, hS.below⟩
    rw [HR.out]; rfl
  · have G : Gives Tryz.prog 146 #[.agg (mgk 32 n), .agg (mgk 32 m)] (.tuple #[.agg (mgk 32 k), .bool false]) := by
      have := times_any n m hn hm
      rwa [isz_false (fun h => hfit ((Nat.div_eq_zero_iff_lt (pw_pos 32)).1 h)), ← hk] at this
    have HR : Hid (resZ (vz (s != t) (n * m)) = .tuple #[.agg (ivZ 0), .int .i64 10]) := resZ_vz_not hfit
    clear hn hm hfit hk
    go_enter Tryz.func99, Tryz.ntmps99
    go_wp2_with (first | (refine L_box_agg hS rfl rfl ?_; refine ⟨_, rfl, ?_⟩; clear hS; intro _ _ hS) | (refine L_alloc_agg hS rfl rfl ?_; refine ⟨_, zero25, ?_⟩; clear hS; intro _ _ hS) | (refine L_alloc_agg hS rfl rfl ?_; refine ⟨_, zero119, ?_⟩; clear hS; intro _ _ hS) | (refine L_load (t := 23) rfl rfl ?_; refine ⟨_, run_load_mid hS _ _ rfl _ _ rfl _ _ (.inl (.tail _ (.tail _ (.head _)))) _ Tryz.underlying23 rfl (mgk 32 _) (size23_mg _) (fun k _ => iv_mag _ _ k), ?_⟩) | (refine L_load (t := 23) rfl rfl ?_; refine ⟨_, run_load_mid hS _ _ rfl _ _ rfl _ _ (.inl (.tail _ (.head _))) _ Tryz.underlying23 rfl (mgk 32 _) (size23_mg _) (fun k _ => iv_mag _ _ k), ?_⟩) | (refine L_load (t := 4) rfl rfl ?_; refine ⟨_, run_load_cell hS _ _ rfl _ _ rfl _ _ (.inl (.tail _ (.tail _ (.tail _ (.head _))))) _ Tryz.underlying4 rfl _ (iv_neg _ _), ?_⟩) | (refine L_load (t := 4) rfl rfl ?_; refine ⟨_, run_load_cell hS _ _ rfl _ _ rfl _ _ (.inl (.tail _ (.tail _ (.head _)))) _ Tryz.underlying4 rfl _ (iv_neg _ _), ?_⟩) | (refine L_load (t := 119) rfl rfl ?_; refine ⟨_, run_load_row hS _ _ rfl _ rfl _ _ (.inl (.head _)) _ Tryz.underlying119 rfl (size119_mg _), ?_⟩) | (refine L_store (t := 119) hS rfl rfl ?_; refine ⟨_, _, _, _, _, (.head), run_store_row hS _ _ _ rfl _ rfl _ _ rfl _ (.head) (size119_mg _) (mg_sizes _ _ _) (oneCells _ _), ?_⟩; clear hS; intro _ hS) | (refine L_store (t := 25) hS rfl rfl ?_; refine ⟨_, _, _, _, _, (.tail .head), run_store_row hS _ _ _ rfl _ rfl _ _ rfl _ (.tail .head) (size25_iv _ _) (iv_sizes _ _ _ _) (oneCells_iv _ _), ?_⟩; clear hS; intro _ hS) | (go_at_call 146; (with_reducible refine Gives.use (G) hS ?_); clear hS; intro _ hS) | (go_at_call 147; (with_reducible refine Gives.use (checked_no _ _ hkl.out) hS ?_); clear hS; intro _ hS))
    (try simp only [Exit.inBlock, Exit.then]); refine bodyPost_ret (res_cell_tmp rfl _ _ _ (run_loadRow hS _ _ _ _ (.inl (.tail _ (.head _))) _ Tryz.underlying25 rfl (size25_iv _ _)) rfl _ rfl) rfl ⟨?_, hS.below⟩
    rw [HR.out]; rfl
end Go.Proofs.YtkiefjbfepjcbaaGreatDoor
end
section
namespace Go.Proofs.YtkiefjbfepjcbaaGreatDoor

def quoL (hi lo y : Nat) : Nat := (hi * 4294967296 + lo) / y
def remL (hi lo y : Nat) : Nat := (hi * 4294967296 + lo) % y
theorem quoL_lt {hi lo y : Nat} (h : hi < y) (hl : lo < 4294967296) : quoL hi lo y < 4294967296 := by
  unfold quoL
  rw [Nat.div_lt_iff_lt_mul (by omega)]
  have : (hi + 1) * 4294967296 ≤ y * 4294967296 := Nat.mul_le_mul_right _ h
  rw [Nat.mul_comm 4294967296]; omega
theorem remL_lt {hi lo y : Nat} (h : 0 < y) : remL hi lo y < y := Nat.mod_lt _ h

def dq (a d k : Nat) : Nat := a / pw k / d * pw k
def dr (a d k : Nat) : Nat := a / pw k % d
theorem dr_next (a d j : Nat) : dr a d j = remL (dr a d (j + 1)) (limb a j) d := by
  unfold dr remL
  rw [div_pw a j, Nat.add_mod, Nat.mul_mod, ← Nat.mod_mod_of_dvd 4294967296 (Nat.dvd_refl d), ← Nat.mul_mod, ← Nat.add_mod]
  simp [Nat.add_mod, Nat.mul_mod]
theorem dq_digit (a d j : Nat) (hd : 0 < d) : a / pw j / d = a / pw (j + 1) / d * 4294967296 + quoL (dr a d (j + 1)) (limb a j) d := by
  unfold dr quoL
  rw [div_pw a j]
  have h := Nat.div_add_mod (a / pw (j + 1)) d
  generalize a / pw (j + 1) = A at *
  have e : A * 4294967296 + limb a j = d * (A / d * 4294967296) + (A % d * 4294967296 + limb a j) := by
    have := congrArg (· * 4294967296) h
    simp only [Nat.add_mul] at this
    rw [Nat.mul_assoc] at this
    omega
  rw [e, Nat.mul_add_div hd]
theorem dq_next (a d j : Nat) (hd : 0 < d) : put (dq a d (j + 1)) j (quoL (dr a d (j + 1)) (limb a j) d) = dq a d j := by
  have h0 : limb (dq a d (j + 1)) j = 0 := by
    unfold limb dq
    rw [pw_succ, Nat.mul_comm (pw j), ← Nat.mul_assoc, Nat.mul_div_cancel _ (pw_pos j), Nat.mul_mod_left]
  unfold put
  rw [h0, Nat.zero_mul, Nat.sub_zero]
  unfold dq
  rw [dq_digit a d j hd, Nat.add_mul, pw_succ, Nat.mul_comm (pw j), ← Nat.mul_assoc]
theorem dq_end (a d : Nat) : dq a d 0 = a / d := by unfold dq; rw [div_pw_zero, pw_zero, Nat.mul_one]
theorem dr_end (a d : Nat) : dr a d 0 = a % d := by unfold dr; rw [div_pw_zero]
theorem dq_start {a d k : Nat} (h : a < pw k) : dq a d k = 0 := by unfold dq; rw [Nat.div_eq_of_lt h]; simp
theorem dr_start {a d k : Nat} (h : a < pw k) : dr a d k = 0 := by unfold dr; rw [Nat.div_eq_of_lt h]; simp
theorem dr_lt {a d k : Nat} (h : 0 < d) : dr a d k < d := Nat.mod_lt _ h

theorem ediv_of {a b q r : Int} (hb : b ≠ 0) (h : a = b * q + r) (h0 : 0 ≤ r) (h1 : r < b.natAbs) : a / b = q ∧ a % b = r := by
  rcases Int.lt_trichotomy b 0 with hb' | hb' | hb'
  · have hp : 0 < -b := by omega
    have := (Int.ediv_emod_unique (a := a) (b := -b) (r := r) (q := -q) hp).2 ⟨by rw [Int.neg_mul_neg]; omega, h0, by omega⟩
    rw [Int.ediv_neg, Int.emod_neg] at this
    exact ⟨by omega, this.2⟩
  · exact absurd hb' hb
  · exact (Int.ediv_emod_unique hb').2 ⟨by omega, h0, by omega⟩
theorem vz_ne {t : Bool} {m : Nat} (h : 0 < m) : vz t m ≠ 0 := by cases t <;> simp [vz] <;> omega
theorem vz_mul' (s t : Bool) (n m : Nat) : vz s n * vz t m = vz (s != t) (n * m) := by
  cases s <;> cases t <;> simp [vz, Int.natCast_mul, Int.neg_mul, Int.mul_neg]
theorem divZ_plain {s t : Bool} {n m : Nat} (hm : 0 < m) (h : s = false ∨ n % m = 0) : vz s n / vz t m = vz (s != t) (n / m) ∧ vz s n % vz t m = ((n % m : Nat) : Int) := by
  refine ediv_of (vz_ne hm) ?_ (by omega) (by rw [vz_abs]; have := Nat.mod_lt n hm; omega)
  rw [vz_mul']
  have e : (t != (s != t)) = s := by cases s <;> cases t <;> rfl
  rw [e]
  have hd := Nat.div_add_mod n m
  cases s
  · simp only [vz, Bool.false_eq_true, if_false]; omega
  · have h0 : n % m = 0 := h.resolve_left (by simp)
    simp only [vz, if_true]; omega
theorem divZ_more {t : Bool} {n m : Nat} (hm : 0 < m) (h : n % m ≠ 0) : vz true n / vz t m = vz (true != t) (n / m + 1) ∧ vz true n % vz t m = ((m - n % m : Nat) : Int) := by
  have hlt := Nat.mod_lt n hm
  refine ediv_of (vz_ne hm) ?_ (by omega) (by rw [vz_abs]; omega)
  rw [vz_mul']
  have e : (t != (true != t)) = true := by cases t <;> rfl
  rw [e]
  have hd := Nat.div_add_mod n m
  simp only [vz, if_true]
  rw [Nat.mul_add]; omega
theorem div_room {n m K : Nat} (hn : n < K) (hm : 0 < m) (h : n % m ≠ 0) : n / m + 1 < K := by
  have h2 : 2 ≤ m := by
    rcases Nat.lt_or_ge m 2 with h1 | h1
    · have : m = 1 := by omega
      subst this; simp [Nat.mod_one] at h
    · exact h1
  have : n / m ≤ n / 2 := Nat.div_le_div_left h2 (by omega)
  have hn0 : n ≠ 0 := fun e => h (by rw [e]; simp)
  omega
end Go.Proofs.YtkiefjbfepjcbaaGreatDoor
end
section
namespace Go.Proofs.YtkiefjbfepjcbaaGreatDoor
open Go.RowKit

theorem or_limb (x y : Nat) (hx : x < 4294967296) (hy : y < 4294967296) : bits BinOp.or IntKind.u64 ((x : Int) * 4294967296) (y : Int) = ((x * 4294967296 + y : Nat) : Int) := by
  rw [show ((x : Int) * 4294967296 : Int) = ((x * 4294967296 : Nat) : Int) by simp, u64_or_nat _ _ (by omega) (by omega), nat_join 32 _ _ (by omega) (by omega)]

set_option maxRecDepth 10000 in
set_option maxHeartbeats 800000 in
theorem div32_any (x y d : Nat) (hx : x < d) (hy : y < 4294967296) (hd : d < 4294967296) :
    Gives Tryz.prog 170 #[.int .u32 x, .int .u32 y, .int .u32 d] (.tuple #[.int .u32 ((quoL x y d : Nat) : Int), .int .u32 ((remL x y d : Nat) : Int)]) := by
  intro w
  have hS := St.start w
  obtain ⟨z, hz⟩ : ∃ z, z = x * 4294967296 + y := ⟨_, rfl⟩
  have hor : bits BinOp.or IntKind.u64 ((x : Int) * 4294967296) (y : Int) = ((z : Nat) : Int) := by rw [hz]; exact or_limb x y (by omega) hy
  have hz2 : z ≤ 18446744073709551615 := by omega
  have hne : ¬ ((d : Int) = 0) := by omega
  have hdn : ¬ (d = 0) := by omega
  have hnb : ((d : Int) == 0) = false := by simp; omega
  have hnb2 : ((d : Int) != 0) = true := by simp; omega
  have hle : ¬ ((d : Int) ≤ (x : Int)) := by omega
  have hled : decide ((d : Int) ≤ (x : Int)) = false := decide_eq_false hle
  have hd1 : (1 : Int) ≤ (d : Int) := by omega
  obtain ⟨q, hq⟩ : ∃ q, q = quoL x y d := ⟨_, rfl⟩
  obtain ⟨r, hr⟩ : ∃ r, r = remL x y d := ⟨_, rfl⟩
  have hqb : q < 4294967296 := by rw [hq]; exact quoL_lt hx hy
  have hrb : r < 4294967296 := by have := remL_lt (hi := x) (lo := y) (y := d) (by omega); omega
  have hqz : ((z : Nat) : Int) / ((d : Nat) : Int) = ((q : Nat) : Int) := by rw [hq, hz]; unfold quoL; rw [Int.natCast_ediv]
  have hrz : ((z : Nat) : Int) % ((d : Nat) : Int) = ((r : Nat) : Int) := by rw [hr, hz]; unfold remL; rw [Int.natCast_emod]
  rw [← hq, ← hr]
  clear hq hr hz
  go_enter Tryz.func170, Tryz.ntmps170
  go_wp2_with (fail)
  (try simp only [Act.put]); (try simp only [List.setIfInBounds_toArray, List.set_cons_succ, List.set_cons_zero]); refine wp_region_w0 hS (by kernel_rfl) (by kernel_rfl) ?_
  repeat (first | (refine S_run rfl rfl ?_; apply Exists.intro; refine ⟨fun _ => ?_, ?_⟩; (focus (go_simp; (try go_bits); exact rfl)); simp only [Act.put, List.setIfInBounds_toArray, List.set_cons_succ, List.set_cons_zero]))
  refine S_end0 ?_; clear hS; intro _ hS
  go_wp2
  go_ret2
  exact ⟨rfl, hS.below⟩

set_option maxRecDepth 10000 in
set_option maxHeartbeats 1000000 in
theorem divideByLimb_any (a d : Nat) (ha : a < pw 32) (hd0 : 0 < d) (hd : d < 4294967296) :
    Gives Tryz.prog 137 #[.agg (mgk 32 a), .int .u32 d] (.tuple #[.agg (mgk 32 (a / d)), .int .u32 ((a % d : Nat) : Int)]) := by
  intro w
  have hS := St.start w
  have HA := Lib.hid (nl_lt ha)
  have hla := nl_le a
  clear ha
  go_enter Tryz.func137, Tryz.ntmps137
  go_wp2_with (first | (refine L_box_agg (o := ⟨some 2, _, _, _, _, _⟩) hS rfl rfl ?_; refine ⟨_, rfl, ?_⟩; clear hS; intro b2 _ hS) | (refine L_alloc_agg (o := ⟨some 4, _, _, _, _, _⟩) hS rfl rfl ?_; refine ⟨_, zero119, ?_⟩; clear hS; intro b4 _ hS) | (refine L_load (t := 119) rfl rfl ?_; refine ⟨_, run_load_row hS _ _ rfl _ rfl _ _ (.inl (.tail _ (.head _))) _ Tryz.underlying119 rfl (size119_mg _), ?_⟩) | (go_at_call 169; (with_reducible refine Gives.use (limbCount_any _) hS ?_); clear hS; intro _ hS))
  go_loopw [5, 6] (fun rs i wr => ∃ k : Nat, k ≤ 32 ∧ i = .int .i64 ((k : Int) - 1) ∧ rs = .int .u32 ((dr a d k : Nat) : Int) ∧ St none w wr [] [(b4, .cells (mgk 32 (dq a d k)) 119), (b2, .cells (mgk 32 a) 119)]) (fun _ i _ => (intOf i + 1).toNat)
  case atStart => exact ⟨nl a, by omega, by go_num, by rw [dr_start HA.out]; rfl, by rw [dq_start HA.out]; exact hS⟩
  case round =>
    clear hS
    obtain ⟨k, hk, rfl, rfl, hS⟩ := hrel
    rcases k with _ | j
    · go_wp2_with (first | (refine L_load (t := 119) rfl rfl ?_; refine ⟨_, run_load_row hS _ _ rfl _ rfl _ _ (.inl (.head _)) _ Tryz.underlying119 rfl (size119_mg _), ?_⟩) | (refine L_store (t := 119) hS rfl rfl ?_; refine ⟨_, _, _, _, _, (.head), run_store_row hS _ _ _ rfl _ rfl _ _ rfl _ (.head) (size119_mg _) (mg_sizes _ _ _) (oneCells _ _), ?_⟩; clear hS; intro _ hS))
      (try simp only [Exit.inBlock, Exit.then]); refine bodyPost_ret (res_cell_tmp rfl _ _ _ (run_loadRow hS _ _ _ _ (.inl (.head _)) _ Tryz.underlying119 rfl (size119_mg _)) rfl _ rfl) rfl ⟨?_, hS.below⟩
      rw [dq_end, dr_end]; rfl
    · have ej : ((j + 1 : Nat) : Int) - 1 = (j : Int) := by omega
      rw [ej]
      clear ej
      have hj : (j : Int) < 32 := by omega
      have hl := limb_lt a j
      have hr := dr_lt (a := a) (k := j + 1) hd0
      have HQ := Lib.hid (quoL_lt hr hl)
      have HN := Lib.hid (dq_next a d j hd0)
      have HR := Lib.hid (dr_next a d j)
      go_wp2_with (first | (refine L_load (t := 22) rfl rfl ?_; refine ⟨_, run_load_cell hS _ _ rfl _ _ rfl _ _ (.inl (.tail _ (.head _))) _ Tryz.underlying22 rfl _ (mgk_get' (by omega)), ?_⟩) | (go_at_call 170; (with_reducible refine Gives.use (div32_any _ _ _ hr hl hd) hS ?_); clear hS; intro _ hS) | (refine L_store (t := 22) hS rfl rfl ?_; refine ⟨_, _, mgk 32 (dq a d j), _, _, (.head), run_store_cell hS _ _ _ rfl _ _ rfl _ rfl _ _ _ (.head) size22 rfl rfl ?_ ?_, ?_⟩; (focus (rw [mgk_size]; omega)); (focus (exact (mgk_put' _ (quoL _ _ _) rfl HQ.out).trans (congrArg (mgk 32) HN.out))); clear hS; intro _ hS))
      go_roundw
      case rel => exact ⟨j, by omega, rfl, by rw [HR.out], hS⟩
      case measure => simp [intOf]

def DivGives (n m : Nat) : Prop := Gives Tryz.prog 148 #[.agg (mgk 32 n), .agg (mgk 32 m)] (.tuple #[.agg (mgk 32 (n / m)), .agg (mgk 32 (n % m))])
theorem nl_one {m : Nat} (h0 : 0 < m) (h : m < 4294967296) : nl m = 1 := by
  have : ∀ k, nlG (k + 1) m = 1 := fun k => by
    induction k with
    | zero => exact nlG_not (by rw [limb_small m h, if_pos rfl]; omega)
    | succ k ih => rw [nlG_zero (by rw [limb_small m h, if_neg (by omega)]), ih]
  exact this 31
set_option maxRecDepth 10000 in
set_option maxHeartbeats 1000000 in
theorem divide_one (n m : Nat) (hn : n < pw 32) (h0 : 0 < m) (h : m < 4294967296) : DivGives n m := by
  intro w
  have hS := St.start w
  have HN := Lib.hid hn
  have HL := Lib.hid (nl_one h0 h)
  have hl0 : limb m 0 = m := by rw [limb_small m h, if_pos rfl]
  have G : Gives Tryz.prog 169 #[.agg (mgk 32 m)] (.int .i64 1) := by
    have := limbCount_any m; rwa [HL.out] at this
  obtain ⟨q, hq⟩ : ∃ q, q = n / m := ⟨_, rfl⟩
  obtain ⟨r, hr⟩ : ∃ r, r = n % m := ⟨_, rfl⟩
  have hrb : r < 4294967296 := by have := Nat.mod_lt n h0; omega
  have G2 : Gives Tryz.prog 137 #[.agg (mgk 32 n), .int .u32 ((m : Nat) : Int)] (.tuple #[.agg (mgk 32 q), .int .u32 ((r : Nat) : Int)]) := by
    rw [hq, hr]; exact divideByLimb_any n m hn h0 h
  have HP : Hid (put 0 0 r = r) := by show put 0 0 r = r; rw [put_low r (by rw [pw_zero]; omega), pw_zero]; omega
  rw [← hq, ← hr]
  clear hn h0 h hq hr
  unfold DivGives at *
  go_enter Tryz.func148, Tryz.ntmps148
  go_wp2_with (first | (refine L_box_agg hS rfl rfl ?_; refine ⟨_, rfl, ?_⟩; clear hS; intro _ _ hS) | (refine L_alloc_agg hS rfl rfl ?_; refine ⟨_, zero119, ?_⟩; clear hS; intro _ _ hS) | (refine L_load (t := 119) rfl rfl ?_; refine ⟨_, run_load_row hS _ _ rfl _ rfl _ _ (.inl (.tail _ (.tail _ (.head _)))) _ Tryz.underlying119 rfl (size119_mg _), ?_⟩) | (refine L_load (t := 119) rfl rfl ?_; refine ⟨_, run_load_row hS _ _ rfl _ rfl _ _ (.inl (.tail _ (.tail _ (.tail _ (.head _))))) _ Tryz.underlying119 rfl (size119_mg _), ?_⟩) | (go_at_call 169; (with_reducible refine Gives.use (G) hS ?_); clear hS; intro _ hS) | (refine L_load (t := 22) rfl rfl ?_; refine ⟨_, run_load_cell hS _ _ rfl _ _ rfl _ _ (.inl (.tail _ (.tail _ (.head _)))) _ Tryz.underlying22 rfl _ (mgk_get' (by omega)), ?_⟩) | (go_at_call 137; (with_reducible refine Gives.use (G2) hS ?_); clear hS; intro _ hS) | (refine L_store (t := 119) hS rfl rfl ?_; refine ⟨_, _, _, _, _, (.tail .head), run_store_row hS _ _ _ rfl _ rfl _ _ rfl _ (.tail .head) (size119_mg _) (mg_sizes _ _ _) (oneCells _ _), ?_⟩; clear hS; intro _ hS) | (refine L_store (t := 22) hS rfl rfl ?_; refine ⟨_, _, mgk 32 r, _, _, (.head), run_store_cell hS _ _ _ rfl _ _ rfl _ rfl _ _ _ (.head) size22 rfl rfl ?_ ?_, ?_⟩; (focus (rw [mgk_size]; omega)); (focus (exact (mgk_put' 0 r rfl hrb).trans (congrArg (mgk 32) HP.out))); clear hS; intro _ hS))
  (try simp only [Act.put]); (try simp only [List.setIfInBounds_toArray, List.set_cons_succ, List.set_cons_zero]); refine wp_region_u2 hS 2 3 [1] (.tail (.head (o' := .cells (mgk 32 q) 119))) (.head (o' := .cells (mgk 32 r) 119)) (by kernel_rfl) (by kernel_rfl) ?_
  (refine S_load (t := 119) rfl rfl rfl rfl ?_; refine ⟨_, fun _ hS' => run_load_row hS' _ _ rfl _ rfl _ _ (.inl (.tail _ (.head _))) _ Tryz.underlying119 rfl (size119_mg _), ?_⟩; simp only [Act.put, List.setIfInBounds_toArray, List.set_cons_succ, List.set_cons_zero])
  (refine S_float (t := 119) rfl rfl rfl ?_ (by decide); refine ⟨.agg (mgk 32 (r)), fun q _ hq _ hS' => run_load_row hS' _ _ rfl _ rfl (mgk 32 (r)) 119 (by rcases q with _ | _ | _ | q; (focus exact .inl (.head _)); (focus exact .inl (.head _)); (focus exact .inl (.head _)); exact absurd hq (by simp)) _ Tryz.underlying119 rfl (size119_mg _), ?_⟩; simp only [Act.put, List.setIfInBounds_toArray, List.set_cons_succ, List.set_cons_zero])
  (refine S_store (t := 119) rfl rfl rfl ?_; refine ⟨_, _, _, _, (.tail .head), fun _ hS' => run_store_row hS' _ _ _ rfl _ rfl _ _ rfl _ (.tail .head) (size119_mg _) (mg_sizes _ _ _) (oneCells _ _), ?_⟩; simp only [Act.put])
  (refine S_store (t := 119) rfl rfl rfl ?_; refine ⟨_, _, _, _, (.head), fun _ hS' => run_store_row hS' _ _ _ rfl _ rfl _ _ rfl _ (.head) (size119_mg _) (mg_sizes _ _ _) (oneCells _ _), ?_⟩; simp only [Act.put])
  refine S_end2 ?_; clear hS; intro _ hS
  go_wp2
  (try simp only [Exit.inBlock, Exit.then])
  (try simp only [Exit.inBlock, Exit.then]); refine bodyPost_ret (res_cell_cell rfl _ _ _ _ _ (run_loadRow hS _ _ _ _ (.inl (.tail _ (.head _))) _ Tryz.underlying119 rfl (size119_mg _)) (run_loadRow hS _ _ _ _ (.inl (.head _)) _ Tryz.underlying119 rfl (size119_mg _)) rfl rfl) rfl ⟨?_, hS.below⟩
  rfl

def divR (x y : Int) : Value := .tuple #[.agg (ivZ (x / y)), .agg (ivZ (x % y)), .int .i64 0]
set_option maxRecDepth 100000 in
set_option maxHeartbeats 1000000 in
theorem divMod_plain (s t : Bool) (n m : Nat) (hn : n < pw 32) (hm : m < pw 32) (h0 : 0 < m) (hs : s = false ∨ n % m = 0) (G : DivGives n m) : Gives Tryz.prog 100 #[.agg (iv s n), .agg (iv t m)] (divR (vz s n) (vz t m)) := by
  intro w
  have hS := St.start w
  have HM := Lib.hid hm
  unfold divR
  rw [(divZ_plain (t := t) h0 hs).1, (divZ_plain (t := t) h0 hs).2]
  unfold DivGives at G
  have HZ := isz_false (show m ≠ 0 by omega)
  have HQ : Hid (n / m < pw 32) := Nat.lt_of_le_of_lt (Nat.div_le_self _ _) hn
  have HR : Hid (n % m < pw 32) := Nat.lt_trans (Nat.mod_lt n h0) hm
  have HZ2 : s = false ∨ isz (n % m) = true := hs.imp id isz_true
  generalize n / m = q at *
  generalize n % m = r at *
  have GR : Gives Tryz.prog 118 #[.bool false, .agg (mgk 32 r)] (.agg (ivZ ((r : Nat) : Int))) := signed_any false r HR.out
  clear hn hm h0 hs
  cases s
  · have GQ : Gives Tryz.prog 118 #[.bool t, .agg (mgk 32 q)] (.agg (ivZ (vz (false != t) q))) := by
      have := signed_any t q HQ.out; simpa using this
    clear HZ2
    go_enter Tryz.func100, Tryz.ntmps100
    go_wp2_with (first | (refine L_box_agg hS rfl rfl ?_; refine ⟨_, rfl, ?_⟩; clear hS; intro _ _ hS) | (refine L_alloc_agg hS rfl rfl ?_; refine ⟨_, zero25, ?_⟩; clear hS; intro _ _ hS) | (refine L_alloc_agg hS rfl rfl ?_; refine ⟨_, zero119, ?_⟩; clear hS; intro _ _ hS) | (refine L_load (t := 23) rfl rfl ?_; refine ⟨_, run_load_mid hS _ _ rfl _ _ rfl _ _ (.inl (.tail _ (.tail _ (.head _)))) _ Tryz.underlying23 rfl (mgk 32 _) (size23_mg _) (fun k _ => iv_mag _ _ k), ?_⟩) | (refine L_load (t := 23) rfl rfl ?_; refine ⟨_, run_load_mid hS _ _ rfl _ _ rfl _ _ (.inl (.tail _ (.tail _ (.tail _ (.head _))))) _ Tryz.underlying23 rfl (mgk 32 _) (size23_mg _) (fun k _ => iv_mag _ _ k), ?_⟩) | (refine L_load (t := 4) rfl rfl ?_; refine ⟨_, run_load_cell hS _ _ rfl _ _ rfl _ _ (.inl (.tail _ (.tail _ (.tail _ (.tail _ (.tail _ (.head _))))))) _ Tryz.underlying4 rfl _ (iv_neg _ _), ?_⟩) | (refine L_store (t := 119) hS rfl rfl ?_; refine ⟨_, _, _, _, _, (.tail .head), run_store_row hS _ _ _ rfl _ rfl _ _ rfl _ (.tail .head) (size119_mg _) (mg_sizes _ _ _) (oneCells _ _), ?_⟩; clear hS; intro _ hS) | (refine L_store (t := 119) hS rfl rfl ?_; refine ⟨_, _, _, _, _, (.head), run_store_row hS _ _ _ rfl _ rfl _ _ rfl _ (.head) (size119_mg _) (mg_sizes _ _ _) (oneCells _ _), ?_⟩; clear hS; intro _ hS) | (go_at_call 127; (with_reducible refine Gives.use (isZero _ HM.out) hS ?_); clear hS; intro _ hS) | (go_at_call 148; (with_reducible refine Gives.use (G) hS ?_); clear hS; intro _ hS))
    (try simp only [Act.put]); (try simp only [List.setIfInBounds_toArray, List.set_cons_succ, List.set_cons_zero]); refine wp_region_u2 hS 9 10 [] (.tail (.tail (.tail (.head (o' := .cells (ivZ (vz (false != t) q)) 25))))) (.tail (.tail (.head (o' := .cells (ivZ ((r : Nat) : Int)) 25)))) (by kernel_rfl) (by kernel_rfl) ?_
    (refine S_run rfl rfl ?_; apply Exists.intro; refine ⟨fun _ => ?_, ?_⟩; (focus (go_simp; (try go_bits); exact rfl)); simp only [Act.put, List.setIfInBounds_toArray, List.set_cons_succ, List.set_cons_zero])
    (refine S_load (t := 4) rfl rfl rfl rfl ?_; refine ⟨_, fun _ hS' => run_load_cell hS' _ _ rfl _ _ rfl _ _ (.inl (.tail _ (.tail _ (.tail _ (.tail _ (.tail _ (.head _))))))) _ Tryz.underlying4 rfl _ (iv_neg _ _), ?_⟩; simp only [Act.put, List.setIfInBounds_toArray, List.set_cons_succ, List.set_cons_zero])
    (refine S_run rfl rfl ?_; apply Exists.intro; refine ⟨fun _ => ?_, ?_⟩; (focus (go_simp; (try go_bits); exact rfl)); simp only [Act.put, List.setIfInBounds_toArray, List.set_cons_succ, List.set_cons_zero])
    (refine S_load (t := 4) rfl rfl rfl rfl ?_; refine ⟨_, fun _ hS' => run_load_cell hS' _ _ rfl _ _ rfl _ _ (.inl (.tail _ (.tail _ (.tail _ (.tail _ (.head _)))))) _ Tryz.underlying4 rfl _ (iv_neg _ _), ?_⟩; simp only [Act.put, List.setIfInBounds_toArray, List.set_cons_succ, List.set_cons_zero])
    (refine S_run rfl rfl ?_; apply Exists.intro; refine ⟨fun _ => ?_, ?_⟩; (focus (go_simp; (try go_bits); exact rfl)); simp only [Act.put, List.setIfInBounds_toArray, List.set_cons_succ, List.set_cons_zero])
    (refine S_load (t := 119) rfl rfl rfl rfl ?_; refine ⟨_, fun _ hS' => run_load_row hS' _ _ rfl _ rfl _ _ (.inl (.tail _ (.head _))) _ Tryz.underlying119 rfl (size119_mg _), ?_⟩; simp only [Act.put, List.setIfInBounds_toArray, List.set_cons_succ, List.set_cons_zero])
    (refine S_call 118 rfl rfl rfl rfl ?_; apply Exists.intro; refine ⟨fun _ => ?_, ?_⟩; (focus (go_simp; exact rfl)); apply Exists.intro; (with_reducible refine ⟨GQ, ?_⟩); simp only [Act.put, List.setIfInBounds_toArray, List.set_cons_succ, List.set_cons_zero])
    (refine S_load (t := 119) rfl rfl rfl rfl ?_; refine ⟨_, fun _ hS' => run_load_row hS' _ _ rfl _ rfl _ _ (.inl (.head _)) _ Tryz.underlying119 rfl (size119_mg _), ?_⟩; simp only [Act.put, List.setIfInBounds_toArray, List.set_cons_succ, List.set_cons_zero])
    (refine S_call 118 rfl rfl rfl rfl ?_; apply Exists.intro; refine ⟨fun _ => ?_, ?_⟩; (focus (go_simp; exact rfl)); apply Exists.intro; (with_reducible refine ⟨GR, ?_⟩); simp only [Act.put, List.setIfInBounds_toArray, List.set_cons_succ, List.set_cons_zero])
    (refine S_store (t := 25) rfl rfl rfl ?_; refine ⟨_, _, _, _, (.tail (.tail (.tail .head))), fun _ hS' => run_store_row hS' _ _ _ rfl _ rfl _ _ rfl _ (.tail (.tail (.tail .head))) (size25_iv _ _) (iv_sizes _ _ _ _) (oneCells_iv _ _), ?_⟩; simp only [Act.put])
    (refine S_store (t := 25) rfl rfl rfl ?_; refine ⟨_, _, _, _, (.tail (.tail .head)), fun _ hS' => run_store_row hS' _ _ _ rfl _ rfl _ _ rfl _ (.tail (.tail .head)) (size25_iv _ _) (iv_sizes _ _ _ _) (oneCells_iv _ _), ?_⟩; simp only [Act.put])
    (refine S_run rfl rfl ?_; apply Exists.intro; refine ⟨fun _ => ?_, ?_⟩; (focus (go_simp; (try go_bits); exact rfl)); simp only [Act.put, List.setIfInBounds_toArray, List.set_cons_succ, List.set_cons_zero])
    refine S_end2 ?_; clear hS; intro _ hS
    go_wp2
    (try simp only [Exit.inBlock, Exit.then]); refine bodyPost_ret (res_cell_cell_tmp rfl _ _ _ _ _ (run_loadRow hS _ _ _ _ (.inl (.tail _ (.tail _ (.tail _ (.head _))))) _ Tryz.underlying25 rfl (size25_iv _ _)) (run_loadRow hS _ _ _ _ (.inl (.tail _ (.tail _ (.head _)))) _ Tryz.underlying25 rfl (size25_iv _ _)) rfl rfl _ rfl) rfl ⟨?_, hS.below⟩
    rfl
  · have GQ : Gives Tryz.prog 118 #[.bool !t, .agg (mgk 32 q)] (.agg (ivZ (vz (true != t) q))) := by
      have := signed_any (!t) q HQ.out; simpa using this
    have HZ3 : isz r = true := HZ2.resolve_left (by simp)
    clear HZ2
    go_enter Tryz.func100, Tryz.ntmps100
    go_wp2_with (first | (refine L_box_agg hS rfl rfl ?_; refine ⟨_, rfl, ?_⟩; clear hS; intro _ _ hS) | (refine L_alloc_agg hS rfl rfl ?_; refine ⟨_, zero25, ?_⟩; clear hS; intro _ _ hS) | (refine L_alloc_agg hS rfl rfl ?_; refine ⟨_, zero119, ?_⟩; clear hS; intro _ _ hS) | (refine L_load (t := 23) rfl rfl ?_; refine ⟨_, run_load_mid hS _ _ rfl _ _ rfl _ _ (.inl (.tail _ (.tail _ (.head _)))) _ Tryz.underlying23 rfl (mgk 32 _) (size23_mg _) (fun k _ => iv_mag _ _ k), ?_⟩) | (refine L_load (t := 23) rfl rfl ?_; refine ⟨_, run_load_mid hS _ _ rfl _ _ rfl _ _ (.inl (.tail _ (.tail _ (.tail _ (.head _))))) _ Tryz.underlying23 rfl (mgk 32 _) (size23_mg _) (fun k _ => iv_mag _ _ k), ?_⟩) | (refine L_load (t := 4) rfl rfl ?_; refine ⟨_, run_load_cell hS _ _ rfl _ _ rfl _ _ (.inl (.tail _ (.tail _ (.tail _ (.tail _ (.tail _ (.head _))))))) _ Tryz.underlying4 rfl _ (iv_neg _ _), ?_⟩) | (refine L_load (t := 119) rfl rfl ?_; refine ⟨_, run_load_row hS _ _ rfl _ rfl _ _ (.inl (.head _)) _ Tryz.underlying119 rfl (size119_mg _), ?_⟩) | (refine L_store (t := 119) hS rfl rfl ?_; refine ⟨_, _, _, _, _, (.tail .head), run_store_row hS _ _ _ rfl _ rfl _ _ rfl _ (.tail .head) (size119_mg _) (mg_sizes _ _ _) (oneCells _ _), ?_⟩; clear hS; intro _ hS) | (refine L_store (t := 119) hS rfl rfl ?_; refine ⟨_, _, _, _, _, (.head), run_store_row hS _ _ _ rfl _ rfl _ _ rfl _ (.head) (size119_mg _) (mg_sizes _ _ _) (oneCells _ _), ?_⟩; clear hS; intro _ hS) | (go_at_call 127; (with_reducible refine Gives.use (isZero _ HM.out) hS ?_); clear hS; intro _ hS) | (go_at_call 127; (with_reducible refine Gives.use (isZero _ HR.out) hS ?_); clear hS; intro _ hS) | (go_at_call 148; (with_reducible refine Gives.use (G) hS ?_); clear hS; intro _ hS))
    (try simp only [Act.put]); (try simp only [List.setIfInBounds_toArray, List.set_cons_succ, List.set_cons_zero]); refine wp_region_u2 hS 9 10 [] (.tail (.tail (.tail (.head (o' := .cells (ivZ (vz (true != t) q)) 25))))) (.tail (.tail (.head (o' := .cells (ivZ ((r : Nat) : Int)) 25)))) (by kernel_rfl) (by kernel_rfl) ?_
    (refine S_run rfl rfl ?_; apply Exists.intro; refine ⟨fun _ => ?_, ?_⟩; (focus (go_simp; (try go_bits); exact rfl)); simp only [Act.put, List.setIfInBounds_toArray, List.set_cons_succ, List.set_cons_zero])
    (refine S_load (t := 4) rfl rfl rfl rfl ?_; refine ⟨_, fun _ hS' => run_load_cell hS' _ _ rfl _ _ rfl _ _ (.inl (.tail _ (.tail _ (.tail _ (.tail _ (.tail _ (.head _))))))) _ Tryz.underlying4 rfl _ (iv_neg _ _), ?_⟩; simp only [Act.put, List.setIfInBounds_toArray, List.set_cons_succ, List.set_cons_zero])
    (refine S_run rfl rfl ?_; apply Exists.intro; refine ⟨fun _ => ?_, ?_⟩; (focus (go_simp; (try go_bits); exact rfl)); simp only [Act.put, List.setIfInBounds_toArray, List.set_cons_succ, List.set_cons_zero])
    (refine S_load (t := 4) rfl rfl rfl rfl ?_; refine ⟨_, fun _ hS' => run_load_cell hS' _ _ rfl _ _ rfl _ _ (.inl (.tail _ (.tail _ (.tail _ (.tail _ (.head _)))))) _ Tryz.underlying4 rfl _ (iv_neg _ _), ?_⟩; simp only [Act.put, List.setIfInBounds_toArray, List.set_cons_succ, List.set_cons_zero])
    (refine S_run rfl rfl ?_; apply Exists.intro; refine ⟨fun _ => ?_, ?_⟩; (focus (go_simp; (try go_bits); exact rfl)); simp only [Act.put, List.setIfInBounds_toArray, List.set_cons_succ, List.set_cons_zero])
    (refine S_load (t := 119) rfl rfl rfl rfl ?_; refine ⟨_, fun _ hS' => run_load_row hS' _ _ rfl _ rfl _ _ (.inl (.tail _ (.head _))) _ Tryz.underlying119 rfl (size119_mg _), ?_⟩; simp only [Act.put, List.setIfInBounds_toArray, List.set_cons_succ, List.set_cons_zero])
    (refine S_call 118 rfl rfl rfl rfl ?_; apply Exists.intro; refine ⟨fun _ => ?_, ?_⟩; (focus (go_simp; exact rfl)); apply Exists.intro; (with_reducible refine ⟨GQ, ?_⟩); simp only [Act.put, List.setIfInBounds_toArray, List.set_cons_succ, List.set_cons_zero])
    (refine S_load (t := 119) rfl rfl rfl rfl ?_; refine ⟨_, fun _ hS' => run_load_row hS' _ _ rfl _ rfl _ _ (.inl (.head _)) _ Tryz.underlying119 rfl (size119_mg _), ?_⟩; simp only [Act.put, List.setIfInBounds_toArray, List.set_cons_succ, List.set_cons_zero])
    (refine S_call 118 rfl rfl rfl rfl ?_; apply Exists.intro; refine ⟨fun _ => ?_, ?_⟩; (focus (go_simp; exact rfl)); apply Exists.intro; (with_reducible refine ⟨GR, ?_⟩); simp only [Act.put, List.setIfInBounds_toArray, List.set_cons_succ, List.set_cons_zero])
    (refine S_store (t := 25) rfl rfl rfl ?_; refine ⟨_, _, _, _, (.tail (.tail (.tail .head))), fun _ hS' => run_store_row hS' _ _ _ rfl _ rfl _ _ rfl _ (.tail (.tail (.tail .head))) (size25_iv _ _) (iv_sizes _ _ _ _) (oneCells_iv _ _), ?_⟩; simp only [Act.put])
    (refine S_store (t := 25) rfl rfl rfl ?_; refine ⟨_, _, _, _, (.tail (.tail .head)), fun _ hS' => run_store_row hS' _ _ _ rfl _ rfl _ _ rfl _ (.tail (.tail .head)) (size25_iv _ _) (iv_sizes _ _ _ _) (oneCells_iv _ _), ?_⟩; simp only [Act.put])
    (refine S_run rfl rfl ?_; apply Exists.intro; refine ⟨fun _ => ?_, ?_⟩; (focus (go_simp; (try go_bits); exact rfl)); simp only [Act.put, List.setIfInBounds_toArray, List.set_cons_succ, List.set_cons_zero])
    refine S_end2 ?_; clear hS; intro _ hS
    go_wp2
    (try simp only [Exit.inBlock, Exit.then]); refine bodyPost_ret (res_cell_cell_tmp rfl _ _ _ _ _ (run_loadRow hS _ _ _ _ (.inl (.tail _ (.tail _ (.tail _ (.head _))))) _ Tryz.underlying25 rfl (size25_iv _ _)) (run_loadRow hS _ _ _ _ (.inl (.tail _ (.tail _ (.head _)))) _ Tryz.underlying25 rfl (size25_iv _ _)) rfl rfl _ rfl) rfl ⟨?_, hS.below⟩
    rfl

set_option maxRecDepth 100000 in
set_option maxHeartbeats 1000000 in
theorem divMod_more (t : Bool) (n m : Nat) (hn : n < pw 32) (hm : m < pw 32) (h0 : 0 < m) (hr : n % m ≠ 0) (G : DivGives n m) : Gives Tryz.prog 100 #[.agg (iv true n), .agg (iv t m)] (divR (vz true n) (vz t m)) := by
  intro w
  have hS := St.start w
  have HM := Lib.hid hm
  unfold divR
  rw [(divZ_more (t := t) h0 hr).1, (divZ_more (t := t) h0 hr).2]
  unfold DivGives at G
  have HZ := isz_false (show m ≠ 0 by omega)
  have hq1 := div_room hn h0 hr
  have HQ := Lib.hid hq1
  have HR : Hid (n % m < pw 32) := Nat.lt_trans (Nat.mod_lt n h0) hm
  have HZ3 : isz (n % m) = false := isz_false hr
  have HE : Hid (n % m ≤ m) := Nat.le_of_lt (Nat.mod_lt n h0)
  have GP : Gives Tryz.prog 149 #[.agg (mgk 32 (n / m)), .agg (mgk 32 1)] (.tuple #[.agg (mgk 32 (n / m + 1)), .bool true]) := by
    have := plus (n / m) 1 (by omega) (by have := pw_lt (show 0 < 32 by omega); rw [pw_zero] at this; omega)
    rwa [Nat.mod_eq_of_lt hq1, decide_eq_true hq1] at this
  generalize n / m = q at *
  generalize n % m = r at *
  obtain ⟨q', hq'⟩ : ∃ q', q' = q + 1 := ⟨_, rfl⟩
  obtain ⟨r', hr'⟩ : ∃ r', r' = m - r := ⟨_, rfl⟩
  have GM : Gives Tryz.prog 150 #[.agg (mgk 32 m), .agg (mgk 32 r)] (.agg (mgk 32 r')) := by rw [hr']; exact minus m r HM.out HE.out
  have GR : Gives Tryz.prog 118 #[.bool false, .agg (mgk 32 r')] (.agg (ivZ ((r' : Nat) : Int))) := signed_any false r' (by have := HM.out; omega)
  have GQ : Gives Tryz.prog 118 #[.bool !t, .agg (mgk 32 q')] (.agg (ivZ (vz (true != t) q'))) := by
    have := signed_any (!t) q' (by rw [hq']; exact HQ.out); simpa using this
  rw [← hq'] at GP
  rw [← hq', ← hr']
  clear hn hm h0 hr hq1 HQ hq' hr' HE
  · go_enter Tryz.func100, Tryz.ntmps100
    go_wp2_with (first | (refine L_box_agg hS rfl rfl ?_; refine ⟨_, rfl, ?_⟩; clear hS; intro _ _ hS) | (refine L_alloc_agg hS rfl rfl ?_; refine ⟨_, zero25, ?_⟩; clear hS; intro _ _ hS) | (refine L_alloc_agg hS rfl rfl ?_; refine ⟨_, zero119, ?_⟩; clear hS; intro _ _ hS) | (refine L_load (t := 23) rfl rfl ?_; refine ⟨_, run_load_mid hS _ _ rfl _ _ rfl _ _ (.inl (.tail _ (.tail _ (.head _)))) _ Tryz.underlying23 rfl (mgk 32 _) (size23_mg _) (fun k _ => iv_mag _ _ k), ?_⟩) | (refine L_load (t := 23) rfl rfl ?_; refine ⟨_, run_load_mid hS _ _ rfl _ _ rfl _ _ (.inl (.tail _ (.tail _ (.tail _ (.head _))))) _ Tryz.underlying23 rfl (mgk 32 _) (size23_mg _) (fun k _ => iv_mag _ _ k), ?_⟩) | (refine L_load (t := 23) rfl rfl ?_; refine ⟨_, run_load_mid hS _ _ rfl _ _ rfl _ _ (.inl (.tail _ (.tail _ (.tail _ (.tail _ (.head _)))))) _ Tryz.underlying23 rfl (mgk 32 _) (size23_mg _) (fun k _ => iv_mag _ _ k), ?_⟩) | (refine L_load (t := 4) rfl rfl ?_; refine ⟨_, run_load_cell hS _ _ rfl _ _ rfl _ _ (.inl (.tail _ (.tail _ (.tail _ (.tail _ (.tail _ (.head _))))))) _ Tryz.underlying4 rfl _ (iv_neg _ _), ?_⟩) | (refine L_load (t := 119) rfl rfl ?_; refine ⟨_, run_load_row hS _ _ rfl _ rfl _ _ (.inl (.head _)) _ Tryz.underlying119 rfl (size119_mg _), ?_⟩) | (refine L_load (t := 119) rfl rfl ?_; refine ⟨_, run_load_row hS _ _ rfl _ rfl _ _ (.inl (.tail _ (.head _))) _ Tryz.underlying119 rfl (size119_mg _), ?_⟩) | (refine L_store (t := 119) hS rfl rfl ?_; refine ⟨_, _, _, _, _, (.tail .head), run_store_row hS _ _ _ rfl _ rfl _ _ rfl _ (.tail .head) (size119_mg _) (mg_sizes _ _ _) (oneCells _ _), ?_⟩; clear hS; intro _ hS) | (refine L_store (t := 119) hS rfl rfl ?_; refine ⟨_, _, _, _, _, (.head), run_store_row hS _ _ _ rfl _ rfl _ _ rfl _ (.head) (size119_mg _) (mg_sizes _ _ _) (oneCells _ _), ?_⟩; clear hS; intro _ hS) | (refine L_build rfl rfl ?_; refine ⟨_, built119_one 1 1 rfl (by omega), ?_⟩) | (go_at_call 127; (with_reducible refine Gives.use (isZero _ HM.out) hS ?_); clear hS; intro _ hS) | (go_at_call 127; (with_reducible refine Gives.use (isZero _ HR.out) hS ?_); clear hS; intro _ hS) | (go_at_call 148; (with_reducible refine Gives.use (G) hS ?_); clear hS; intro _ hS) | (go_at_call 149; (with_reducible refine Gives.use (GP) hS ?_); clear hS; intro _ hS) | (go_at_call 150; (with_reducible refine Gives.use (GM) hS ?_); clear hS; intro _ hS))
    (try simp only [Act.put]); (try simp only [List.setIfInBounds_toArray, List.set_cons_succ, List.set_cons_zero]); refine wp_region_u2 hS 9 10 [] (.tail (.tail (.tail (.head (o' := .cells (ivZ (vz (true != t) q')) 25))))) (.tail (.tail (.head (o' := .cells (ivZ ((r' : Nat) : Int)) 25)))) (by kernel_rfl) (by kernel_rfl) ?_
    (refine S_run rfl rfl ?_; apply Exists.intro; refine ⟨fun _ => ?_, ?_⟩; (focus (go_simp; (try go_bits); exact rfl)); simp only [Act.put, List.setIfInBounds_toArray, List.set_cons_succ, List.set_cons_zero])
    (refine S_load (t := 4) rfl rfl rfl rfl ?_; refine ⟨_, fun _ hS' => run_load_cell hS' _ _ rfl _ _ rfl _ _ (.inl (.tail _ (.tail _ (.tail _ (.tail _ (.tail _ (.head _))))))) _ Tryz.underlying4 rfl _ (iv_neg _ _), ?_⟩; simp only [Act.put, List.setIfInBounds_toArray, List.set_cons_succ, List.set_cons_zero])
    (refine S_run rfl rfl ?_; apply Exists.intro; refine ⟨fun _ => ?_, ?_⟩; (focus (go_simp; (try go_bits); exact rfl)); simp only [Act.put, List.setIfInBounds_toArray, List.set_cons_succ, List.set_cons_zero])
    (refine S_load (t := 4) rfl rfl rfl rfl ?_; refine ⟨_, fun _ hS' => run_load_cell hS' _ _ rfl _ _ rfl _ _ (.inl (.tail _ (.tail _ (.tail _ (.tail _ (.head _)))))) _ Tryz.underlying4 rfl _ (iv_neg _ _), ?_⟩; simp only [Act.put, List.setIfInBounds_toArray, List.set_cons_succ, List.set_cons_zero])
    (refine S_run rfl rfl ?_; apply Exists.intro; refine ⟨fun _ => ?_, ?_⟩; (focus (go_simp; (try go_bits); exact rfl)); simp only [Act.put, List.setIfInBounds_toArray, List.set_cons_succ, List.set_cons_zero])
    (refine S_load (t := 119) rfl rfl rfl rfl ?_; refine ⟨_, fun _ hS' => run_load_row hS' _ _ rfl _ rfl _ _ (.inl (.tail _ (.head _))) _ Tryz.underlying119 rfl (size119_mg _), ?_⟩; simp only [Act.put, List.setIfInBounds_toArray, List.set_cons_succ, List.set_cons_zero])
    (refine S_call 118 rfl rfl rfl rfl ?_; apply Exists.intro; refine ⟨fun _ => ?_, ?_⟩; (focus (go_simp; exact rfl)); apply Exists.intro; (with_reducible refine ⟨GQ, ?_⟩); simp only [Act.put, List.setIfInBounds_toArray, List.set_cons_succ, List.set_cons_zero])
    (refine S_load (t := 119) rfl rfl rfl rfl ?_; refine ⟨_, fun _ hS' => run_load_row hS' _ _ rfl _ rfl _ _ (.inl (.head _)) _ Tryz.underlying119 rfl (size119_mg _), ?_⟩; simp only [Act.put, List.setIfInBounds_toArray, List.set_cons_succ, List.set_cons_zero])
    (refine S_call 118 rfl rfl rfl rfl ?_; apply Exists.intro; refine ⟨fun _ => ?_, ?_⟩; (focus (go_simp; exact rfl)); apply Exists.intro; (with_reducible refine ⟨GR, ?_⟩); simp only [Act.put, List.setIfInBounds_toArray, List.set_cons_succ, List.set_cons_zero])
    (refine S_store (t := 25) rfl rfl rfl ?_; refine ⟨_, _, _, _, (.tail (.tail (.tail .head))), fun _ hS' => run_store_row hS' _ _ _ rfl _ rfl _ _ rfl _ (.tail (.tail (.tail .head))) (size25_iv _ _) (iv_sizes _ _ _ _) (oneCells_iv _ _), ?_⟩; simp only [Act.put])
    (refine S_store (t := 25) rfl rfl rfl ?_; refine ⟨_, _, _, _, (.tail (.tail .head)), fun _ hS' => run_store_row hS' _ _ _ rfl _ rfl _ _ rfl _ (.tail (.tail .head)) (size25_iv _ _) (iv_sizes _ _ _ _) (oneCells_iv _ _), ?_⟩; simp only [Act.put])
    (refine S_run rfl rfl ?_; apply Exists.intro; refine ⟨fun _ => ?_, ?_⟩; (focus (go_simp; (try go_bits); exact rfl)); simp only [Act.put, List.setIfInBounds_toArray, List.set_cons_succ, List.set_cons_zero])
    refine S_end2 ?_; clear hS; intro _ hS
    go_wp2
    (try simp only [Exit.inBlock, Exit.then]); refine bodyPost_ret (res_cell_cell_tmp rfl _ _ _ _ _ (run_loadRow hS _ _ _ _ (.inl (.tail _ (.tail _ (.tail _ (.head _))))) _ Tryz.underlying25 rfl (size25_iv _ _)) (run_loadRow hS _ _ _ _ (.inl (.tail _ (.tail _ (.head _)))) _ Tryz.underlying25 rfl (size25_iv _ _)) rfl rfl _ rfl) rfl ⟨?_, hS.below⟩
    rfl

theorem divMod_of (s t : Bool) (n m : Nat) (hn : n < pw 32) (hm : m < pw 32) (h0 : 0 < m) (G : DivGives n m) : Gives Tryz.prog 100 #[.agg (iv s n), .agg (iv t m)] (divR (vz s n) (vz t m)) := by
  by_cases hs : s = false ∨ n % m = 0
  · exact divMod_plain s t n m hn hm h0 hs G
  · have : s = true := by cases s <;> simp_all
    subst this
    exact divMod_more t n m hn hm h0 (fun h => hs (.inr h)) G
end Go.Proofs.YtkiefjbfepjcbaaGreatDoor
end
section
namespace Go.Proofs.YtkiefjbfepjcbaaGreatDoor
open Go.RowKit Go.Proofs.YtkiefjbfepjcbaaGreatDoor.Sx
set_option linter.unusedSimpArgs false
set_option linter.unusedVariables false

theorem ari_or32 {s : Nat} (a b : Nat) (ha : a < 4294967296) (hb : b < 4294967296) (hs : b < 2 ^ s) (hm : a % 2 ^ s = 0) : ariI .or .u32 ((a : Nat) : Int) ((b : Nat) : Int) = ((a + b : Nat) : Int) := by
  have := u32_or_nat a b ha hb
  rw [nat_join s a b hm hs] at this
  exact this
theorem ari_or64 {s : Nat} (a b : Nat) (ha : a < 18446744073709551616) (hb : b < 18446744073709551616) (hs : b < 2 ^ s) (hm : a % 2 ^ s = 0) : ariI .or .u64 ((a : Nat) : Int) ((b : Nat) : Int) = ((a + b : Nat) : Int) := by
  have := u64_or_nat a b ha hb
  rw [nat_join s a b hm hs] at this
  exact this
theorem wrap_u64n (n : Nat) : IntKind.u64.wrap ((n : Nat) : Int) = ((n % 18446744073709551616 : Nat) : Int) := by rw [IntKind.wrap_u64]; omega
theorem shl32_of (x s p : Nat) (hs : s ≤ 32) (hp : 2 ^ s = p) : shfI .shl .u32 ((x : Nat) : Int) ((s : Nat) : Int) = ((x * p % 4294967296 : Nat) : Int) := by
  have : min ((s : Nat) : Int).toNat 32 = s := by omega
  simp only [shfI, IntKind.bits, this]
  rw [← wrap_u32]
  congr 1
  rw [← hp]; push_cast; rfl
theorem shl64_of (x s p : Nat) (hs : s ≤ 64) (hp : 2 ^ s = p) : shfI .shl .u64 ((x : Nat) : Int) ((s : Nat) : Int) = ((x * p % 18446744073709551616 : Nat) : Int) := by
  have : min ((s : Nat) : Int).toNat 64 = s := by omega
  simp only [shfI, IntKind.bits, this]
  rw [← wrap_u64n]
  congr 1
  rw [← hp]; push_cast; rfl
theorem shr_of {k : IntKind} (x s p : Nat) (hs : s ≤ k.bits) (hp : 2 ^ s = p) : shfI .shr k ((x : Nat) : Int) ((s : Nat) : Int) = ((x / p : Nat) : Int) := by
  have : min ((s : Nat) : Int).toNat k.bits = s := by omega
  simp only [shfI, this]
  rw [Int.fdiv_eq_ediv_of_nonneg _ (by rw [show ((2 : Int) ^ s) = ((2 ^ s : Nat) : Int) by push_cast; rfl]; exact Int.natCast_nonneg _)]
  rw [← hp]; push_cast; rfl
def dblT (n b i : Nat) : Nat := 2 * (n % pw i) + b
def dblC (n b i : Nat) : Nat := dblT n b i / pw i
def dblR (n b i : Nat) : Nat := dblT n b i % pw i + n / pw i * pw i
theorem dblC_le {n b i : Nat} (hb : b ≤ 1) : dblC n b i ≤ 1 := by
  have h1 := Nat.mod_lt n (pw_pos i)
  unfold dblC dblT
  have : (2 * (n % pw i) + b) / pw i < 2 := by rw [Nat.div_lt_iff_lt_mul (pw_pos i)]; omega
  omega
theorem dbl_zero (n b : Nat) : dblC n b 0 = b ∧ dblR n b 0 = n := by
  unfold dblC dblR dblT; rw [mod_pw_zero, pw_zero]; simp [Nat.mod_one]
theorem dblT_next (n b i : Nat) : dblT n b (i + 1) = (2 * limb n i + dblC n b i) * pw i + dblT n b i % pw i := by
  have h := Nat.div_add_mod (dblT n b i) (pw i)
  have h2 := mod_pw n i
  have e : 2 * (limb n i * pw i) = 2 * limb n i * pw i := by rw [Nat.mul_assoc]
  have e2 : dblT n b (i + 1) = dblT n b i + 2 * (limb n i * pw i) := by unfold dblT; omega
  rw [e2, Nat.add_mul, ← e]
  unfold dblC
  rw [Nat.mul_comm (dblT n b i / pw i)]
  omega
theorem dbl_limb (n b i : Nat) : limb (dblR n b i) i = limb n i := by
  unfold dblR
  rw [Nat.add_comm, limb_split _ _ _ _ (Nat.mod_lt _ (pw_pos i)), if_neg (by omega), Nat.sub_self]
  unfold limb; rw [div_pw_zero]
theorem dbl_next {n b i : Nat} (hb : b ≤ 1) : dblC n b (i + 1) = limb n i / 2147483648 ∧ put (dblR n b i) i ((2 * limb n i) % 4294967296 + dblC n b i) = dblR n b (i + 1) := by
  have hc := dblC_le (n := n) (i := i) hb
  have hx := limb_lt n i
  have h := split_next (dblT_next n b i) (Nat.mod_lt _ (pw_pos i))
  have hs : (dblT n b i % pw i) < pw i := Nat.mod_lt _ (pw_pos i)
  constructor
  · rw [show dblC n b (i + 1) = dblT n b (i + 1) / pw (i + 1) from rfl, h.2]; omega
  · rw [put_eq]
    have e1 : dblR n b i % pw i = dblT n b i % pw i := by
      unfold dblR; rw [Nat.add_mul_mod_self_right, Nat.mod_mod]
    have e2 : dblR n b i / pw (i + 1) = n / pw (i + 1) := by
      rw [pw_succ, ← Nat.div_div_eq_div_mul, ← Nat.div_div_eq_div_mul]
      congr 1
      unfold dblR
      rw [Nat.add_mul_div_right _ _ (pw_pos i), Nat.div_eq_of_lt hs, Nat.zero_add]
    rw [e1, e2, show dblR n b (i + 1) = dblT n b (i + 1) % pw (i + 1) + n / pw (i + 1) * pw (i + 1) from rfl, h.1]
    have e3 : (2 * limb n i + dblC n b i) % 4294967296 = (2 * limb n i) % 4294967296 + dblC n b i := by omega
    rw [e3, pw_succ, Nat.add_mul]
    have e4 : ∀ N : Nat, N * 4294967296 * pw i = N * (pw i * 4294967296) := fun N => by rw [Nat.mul_assoc, Nat.mul_comm 4294967296]
    rw [e4]
    omega
theorem dbl_end {n b : Nat} (hn : n < pw 32) : dblC n b 32 = (2 * n + b) / pw 32 ∧ dblR n b 32 = (2 * n + b) % pw 32 := by
  unfold dblC dblR dblT
  rw [Nat.mod_eq_of_lt hn, Nat.div_eq_of_lt hn]; simp
end Go.Proofs.YtkiefjbfepjcbaaGreatDoor
end
section
namespace Go.Proofs.YtkiefjbfepjcbaaGreatDoor
open Go.RowKit Go.Proofs.YtkiefjbfepjcbaaGreatDoor.Sx
set_option linter.unusedSimpArgs false
set_option linter.unusedVariables false

set_option maxHeartbeats 1000000 in
theorem rdouble_loop (n b : Nat) (hn : n < pw 32) (hb : b ≤ 1) :
    Ev.holds Tryz.prog (env [.agg (mgk 32 n), .int .u32 (b : Nat), .int .i64 (32 : Nat), .int .u32 (dblC n b 32 : Nat), .agg (mgk 32 (dblR n b 32))]) (.loop 159 0 divS159_0 divH159_0 (.exit 0) .none 3) := by
  refine loop_holds plain (m := 3) (x := .exit 0) (alt := none) [.agg (mgk 32 n), .int .u32 (b : Nat)] [.int .i64 (32 : Nat), .int .u32 (dblC n b 32 : Nat), .agg (mgk 32 (dblR n b 32))] tDouble0_ok tDouble0_fine
    (fun vs => ∃ i : Nat, i ≤ 32 ∧ vs = [.int .i64 (i : Nat), .int .u32 (dblC n b i : Nat), .agg (mgk 32 (dblR n b i))])
    (fun vs => 32 - (vInt (vs.getD 0 undef)).toNat) tDouble0_diff ?_ ?_
  · refine ⟨[.int .i64 (0 : Nat), .int .u32 (dblC n b 0 : Nat), .agg (mgk 32 (dblR n b 0))], rfl, ⟨0, by omega, rfl⟩, ?_⟩
    rw [(dbl_zero n b).1, (dbl_zero n b).2]
    simp [tDouble0_d, BTm.den, Tm.i, Tm.s, Tm.den, env, vInt, vBool, vStr, exI, SW.den, SV.den, Cell.den, densP, Piece.den, denV, denT]
  · rintro vs hl ⟨i, hi, rfl⟩
    clear hl
    refine tree_ite (ev_nil ⟨fun hlt => tree_leaf ?_, fun hlt => tree_leaf (ev_nil ?_)⟩)
    · have hlt : i < 32 := by
        have : (i : Int) < 32 := by simpa [BTm.den, Tm.i, Tm.s, Tm.den, env, vInt, vBool, vStr, exI] using hlt
        omega
      have hx := limb_lt n i
      have hc := dblC_le (n := n) (i := i) hb
      obtain ⟨h1, h2⟩ := dbl_next (n := n) (i := i) hb
      have h0 := dbl_limb n b i
      obtain ⟨c, hcc⟩ : ∃ c, c = dblC n b i := ⟨_, rfl⟩
      obtain ⟨c', hcc'⟩ : ∃ c, c = dblC n b (i + 1) := ⟨_, rfl⟩
      obtain ⟨W, hW⟩ : ∃ c, c = dblR n b i := ⟨_, rfl⟩
      obtain ⟨W', hW'⟩ : ∃ c, c = dblR n b (i + 1) := ⟨_, rfl⟩
      rw [← hcc, ← hW, ← hW'] at h2
      rw [← hcc'] at h1
      rw [← hW] at h0
      rw [← hcc] at hc
      rw [← hcc, ← hW]
      refine ev_need (by simp [BTm.den, Tm.i, Tm.s, Tm.den, env, vInt, vBool, vStr, exI] <;> omega) ?_
      refine ev_need (by simp [BTm.den, Tm.i, Tm.s, Tm.den, env, vInt, vBool, vStr, exI] <;> omega) ?_
      refine ev_elem [.int .u32 (limb n i : Nat)] rfl rfl (l := mgl 32 W) (m := [.int .u32 (limb n i : Nat)]) (k := i) (by simp [BTm.den, Tm.i, Tm.s, Tm.den, env, vInt, vBool, vStr, exI] <;> omega) (fun β => rowCells_mgk 32 W) (fun β => rfl) (by rw [← h0]; exact mgl_elem (by omega)) ?_
      refine ev_need (by simp [BTm.den, Tm.i, Tm.s, Tm.den, env, vInt, vBool, vStr, exI] <;> omega) ?_
      refine ev_need (by simp [BTm.den, Tm.i, Tm.s, Tm.den, env, vInt, vBool, vStr, exI] <;> omega) ?_
      refine ev_elem [.int .u32 (limb n i : Nat)] rfl rfl (l := mgl 32 W) (m := [.int .u32 (limb n i : Nat)]) (k := i) (by simp [BTm.den, Tm.i, Tm.s, Tm.den, env, vInt, vBool, vStr, exI] <;> omega) (fun β => rowCells_mgk 32 W) (fun β => rfl) (by rw [← h0]; exact mgl_elem (by omega)) ?_
      refine ev_need (by simp [BTm.den, Tm.i, Tm.s, Tm.den, env, vInt, vBool, vStr, exI] <;> omega) ?_
      refine ev_need (by simp [BTm.den, Tm.i, Tm.s, Tm.den, env, vInt, vBool, vStr, exI] <;> omega) ?_
      have hor := ari_or32 (s := 1) (2 * limb n i % 4294967296) c (by omega) (by omega) (by omega) (by omega)
      have hsl := shl32_of (limb n i) 1 2 (by omega) rfl
      rw [Nat.mul_comm] at hsl
      rw [← hsl] at hor
      have hsr := shr_of (k := .u32) (limb n i) 31 2147483648 (by decide) rfl
      have hput : mgl 32 W' = (mgl 32 W).take i ++ [.int .u32 ((2 * limb n i % 4294967296 + c : Nat) : Int)] ++ (mgl 32 W).drop (i + 1) := by
        rw [← h2]; exact mgl_put (by omega) rfl (by omega)
      refine ev_put [.agg (mgk 32 W')] rfl rfl (l := mgl 32 W) (l' := mgl 32 W') (m := [.int .u32 ((2 * limb n i % 4294967296 + c : Nat) : Int)]) (k := i) (by simp [BTm.den, Tm.i, Tm.s, Tm.den, env, vInt, vBool, vStr, exI] <;> omega) (fun β => rowCells_mgk 32 _) (fun β => rowCells_mgk 32 _) (fun β => ?_) hput (by rw [mgl_length]; simp; omega) ?_
      · rw [← hor]; simp [BTm.den, Tm.i, Tm.s, Tm.den, env, vInt, vBool, vStr, exI, SW.den, SV.den, Cell.den, densP, Piece.den, denV, denT]
      refine ev_fits (((i + 1 : Nat) : Int)) (by simp [BTm.den, Tm.i, Tm.s, Tm.den, env, vInt, vBool, vStr, exI]) (rng_i64 _ (by omega)) ?_
      refine ev_nil ⟨[.int .i64 (i + 1 : Nat), .int .u32 (c' : Nat), .agg (mgk 32 W')], rfl, ⟨i + 1, by omega, by rw [hcc', hW']⟩, ?_, ?_⟩
      · simp [vInt]; omega
      · rw [h1, ← hsr]; simp [BTm.den, Tm.i, Tm.s, Tm.den, env, vInt, vBool, vStr, exI, SW.den, SV.den, Cell.den, densP, Piece.den, denV, denT]
    · have hlt : i = 32 := by
        have : ¬ (i : Int) < 32 := by simpa [BTm.den, Tm.i, Tm.s, Tm.den, env, vInt, vBool, vStr, exI] using hlt
        omega
      subst hlt
      exact ⟨rfl, by simp [BTm.den, Tm.i, Tm.s, Tm.den, env, vInt, vBool, vStr, exI, SW.den, SV.den, Cell.den, densP, Piece.den, denV, denT]⟩
theorem rdouble (n b : Nat) (hn : n < pw 32) (hb : b ≤ 1) : Gives Tryz.prog 159 #[.agg (mgk 32 n), .int .u32 ((b : Nat) : Int)] (.tuple #[.agg (mgk 32 ((2 * n + b) % pw 32)), .bool (decide ((2 * n + b) / pw 32 = 1))]) := by
  have h := pure_of plain [.agg (mgk 32 n), .int .u32 (b : Nat)] tDouble_ok (by kernel_rfl) (.tuple #[.agg (mgk 32 ((2 * n + b) % pw 32)), .bool (decide ((2 * n + b) / pw 32 = 1))]) (tree_leaf ?_)
  · refine gives_pure ?_
    simpa [rowB, BTm.den, Tm.i, Tm.s, Tm.den, env, vInt, vBool, vStr, exI, SW.den, SV.den, Cell.den, densP, Piece.den, denV, denT, rowCells_mgk, mgl_agg] using h
  · have hl := rdouble_loop n b hn hb
    obtain ⟨e1, e2⟩ := dbl_end (b := b) hn
    rw [e1, e2] at hl
    refine ev_loop [.int .i64 (32 : Nat), .int .u32 ((2 * n + b) / pw 32 : Nat), .agg (mgk 32 ((2 * n + b) % pw 32))] rfl rfl hl (ev_nil fun β => ?_)
    obtain ⟨V, hV⟩ : ∃ V, V = (2 * n + b) % pw 32 := ⟨_, rfl⟩
    obtain ⟨c, hc⟩ : ∃ V, V = (2 * n + b) / pw 32 := ⟨_, rfl⟩
    rw [← hV, ← hc]
    simp [BTm.den, Tm.i, Tm.s, Tm.den, env, vInt, vBool, vStr, exI, SW.den, SV.den, Cell.den, densP, Piece.den, denV, denT, rowCells_mgk, mgl_agg]
    rw [Bool.eq_iff_iff]; simp; omega
end Go.Proofs.YtkiefjbfepjcbaaGreatDoor
end
section
namespace Go.Proofs.YtkiefjbfepjcbaaGreatDoor
open Go.RowKit
variable {P : Program} {c : Option Nat} {w0 w w' : World} {r l : List (Nat × Obj)} {Q : Exit → Act → World → Prop}

theorem St.drop {x : Nat × Obj} (h : St c w0 w r (x :: l)) : St c w0 w r l :=
  ⟨h.os, h.tape, h.output, h.size, h.block, h.ro, fun y hy => h.own y (.tail _ hy), (List.pairwise_cons.1 h.apart).2⟩
theorem St.swap {x y : Nat × Obj} (h : St c w0 w r (x :: y :: l)) : St c w0 w r (y :: x :: l) := by
  refine ⟨h.os, h.tape, h.output, h.size, h.block, h.ro, fun z hz => h.own z ?_, ?_⟩
  · rcases List.mem_cons.1 hz with rfl | hz
    · exact .tail _ (.head _)
    · rcases List.mem_cons.1 hz with rfl | hz
      · exact .head _
      · exact .tail _ (.tail _ hz)
  · have h1 := List.pairwise_cons.1 h.apart
    have h2 := List.pairwise_cons.1 h1.2
    refine List.pairwise_cons.2 ⟨fun z hz => ?_, List.pairwise_cons.2 ⟨fun z hz => h1.1 z (.tail _ hz), h2.2⟩⟩
    rcases List.mem_cons.1 hz with rfl | hz
    · exact fun e => h1.1 y (.head _) e.symm
    · exact h2.1 z hz

def wpHd (P : Program) (ops : Array Oper) (S : World → Prop) (K : Act → Prop) : List Oper → Act → Prop
  | [], a => K a
  | o :: rest, a => ∃ v, YieldsIf P ops S o v a ∧ wpHd P ops S K rest (a.put o.dst v)

theorem wpHd_cons {ops : Array Oper} {S : World → Prop} {K : Act → Prop} {o : Oper} {rest : List Oper} {a : Act} (h : ∃ v, YieldsIf P ops S o v a ∧ wpHd P ops S K rest (a.put o.dst v)) : wpHd P ops S K (o :: rest) a := h

def okHd (md : Region.Mode) (ops : Array Oper) : Nat → Nat → Array Bool → Bool
  | 0, k, listed => decide (Region.ready md ops listed = [k, k + 1]) && decide (Region.ready md ops (listed.setIfInBounds k true) = [k + 1]) && decide (Region.ready md ops (listed.setIfInBounds (k + 1) true) = [k]) &&
      decide (Region.ready md ops ((listed.setIfInBounds k true).setIfInBounds (k + 1) true) = [k + 2]) &&
      decide (Region.ready md ops (((listed.setIfInBounds k true).setIfInBounds (k + 1) true).setIfInBounds (k + 2) true) = [k + 3]) &&
      decide (Region.ready md ops ((((listed.setIfInBounds k true).setIfInBounds (k + 1) true).setIfInBounds (k + 2) true).setIfInBounds (k + 3) true) = [])
  | n + 1, k, listed => (Region.ready md ops listed).contains k && Region.free md ops listed k && okHd md ops n (k + 1) (listed.setIfInBounds k true)

structure New (P : Program) (c : Option Nat) (w0 : World) (r l : List (Nat × Obj)) (Q : Exit → Act → World → Prop) (o1 o2 o3 o4 : Oper) (t1 t2 : TypeId) (z1 z2 cs1 cs2 : Array Value) (a : Act) : Prop where
  g1 : o1.guard = none
  g2 : o2.guard = none
  g3 : o3.guard = none
  g4 : o4.guard = none
  op1 : o1.op = .alloc t1
  op2 : o2.op = .alloc t2
  zero1 : (P.info? t1).map (·.zero) = some (some (.agg z1))
  zero2 : (P.info? t2).map (·.zero) = some (some (.agg z2))
  comm : ∀ v1 v2, (a.put o2.dst v2).put o1.dst v1 = (a.put o1.dst v1).put o2.dst v2
  run3 : ∀ b1 b2 w, St c w0 w r ((b2, .cells z2 t2) :: (b1, .cells z1 t1) :: l) → (execOp ((a.put o1.dst (.pointer (some ⟨b1, 0, none⟩))).put o2.dst (.pointer (some ⟨b2, 0, none⟩))).eval o3).run P w = .ok .skip (w.setRow b1 cs1)
  run4 : ∀ b1 b2 w, St c w0 w r ((b2, .cells z2 t2) :: (b1, .cells cs1 t1) :: l) → (execOp (((a.put o1.dst (.pointer (some ⟨b1, 0, none⟩))).put o2.dst (.pointer (some ⟨b2, 0, none⟩))).put o3.dst undef).eval o4).run P w = .ok .skip (w.setRow b2 cs2)
  rest : ∀ b1 b2 w, St c w0 w r ((b2, .cells cs2 t2) :: (b1, .cells cs1 t1) :: l) → Q .normal ((((a.put o1.dst (.pointer (some ⟨b1, 0, none⟩))).put o2.dst (.pointer (some ⟨b2, 0, none⟩))).put o3.dst undef).put o4.dst undef) w

theorem run_alloc_op {o : Oper} {a : Act} (w : World) (t : TypeId) (ho : o.op = .alloc t) (z : Array Value) (hz : (P.info? t).map (·.zero) = some (some (.agg z))) :
    (execOp a.eval o).run P w = .ok (.value (.pointer (some ⟨w.heap.size, 0, none⟩))) (w.alloc (.cells z t)) := by
  have hzv : ∀ w, (zeroValue t).run P w = .ok (.agg z) w := by
    intro w
    cases hq : P.info? t with
    | none => simp [hq] at hz
    | some i => simp [hq] at hz; simp [zeroValue, typeInfo, hq, hz]
  unfold execOp
  simp only [ho, Instr.alloc, newVar, Value.cells, Sem.run_bind, Sem.run_pure, run_alloc_row, Result.andThen_ok, hzv]

theorem wpOp_value {ops : Array Oper} {i : Nat} {o : Oper} {a : Act} {K : Act → World → Prop} {v : Value} (hi : ops[i]? = some o) (hg : o.guard = none) (hrun : (execOp a.eval o).run P w = .ok (.value v) w') (h : K (a.put o.dst v) w') : wpOp P ops Q i K a w := by
  unfold wpOp
  simp only [hi]
  rw [if_pos (by simp [Region.wanted, hg])]
  refine .inl ?_
  unfold Oper.wp
  rw [hrun]
  exact h
theorem wpOp_skip {ops : Array Oper} {i : Nat} {o : Oper} {a : Act} {K : Act → World → Prop} (hi : ops[i]? = some o) (hg : o.guard = none) (hrun : (execOp a.eval o).run P w = .ok .skip w') (h : K (a.put o.dst undef) w') : wpOp P ops Q i K a w := by
  unfold wpOp
  simp only [hi]
  rw [if_pos (by simp [Region.wanted, hg])]
  refine .inl ?_
  unfold Oper.wp
  rw [hrun]
  exact h

theorem wpAnyH_one {ops : Array Oper} {md : Region.Mode} {S : World → Prop} {i f : Nat} {listed : Array Bool} {a : Act} (hr : Region.ready md ops listed = [i])
    (h : wpOp P ops Q i (fun a' w' => S w' ∧ wpAnyH P md ops Q S f (listed.setIfInBounds i true) a' w') a w) : wpAnyH P md ops Q S (f + 1) listed a w :=
  wpAnyH_all hr (by simp) fun j hj => by
    have : j = i := by simpa using hj
    subst this; exact h

theorem wpAnyH_new {ops : Array Oper} {md : Region.Mode} {k : Nat} {o1 o2 o3 o4 : Oper} {t1 t2 : TypeId} {z1 z2 cs1 cs2 : Array Value} (h1 : ops[k]? = some o1) (h2 : ops[k + 1]? = some o2) (h3 : ops[k + 2]? = some o3) (h4 : ops[k + 3]? = some o4)
    {listed : Array Bool} {a : Act} (hS : St c w0 w r l) (hB : okHd md ops 0 k listed = true) (hN : New P c w0 r l Q o1 o2 o3 o4 t1 t2 z1 z2 cs1 cs2 a) : wpAnyH P md ops Q (fun w => St c w0 w r l) 4 listed a w := by
  simp only [okHd, Bool.and_eq_true, decide_eq_true_eq] at hB
  obtain ⟨⟨⟨⟨⟨r0, r1⟩, r2⟩, r3⟩, r4⟩, r5⟩ := hB
  -- behind both allocations
  have fin : ∀ b1 b2 w, St c w0 w r ((b2, .cells z2 t2) :: (b1, .cells z1 t1) :: l) →
      wpAnyH P md ops Q (fun w => St c w0 w r l) 2 ((listed.setIfInBounds k true).setIfInBounds (k + 1) true) ((a.put o1.dst (.pointer (some ⟨b1, 0, none⟩))).put o2.dst (.pointer (some ⟨b2, 0, none⟩))) w := fun b1 b2 w hS2 => by
    refine wpAnyH_one r3 (wpOp_skip h3 hN.g3 (hN.run3 b1 b2 w hS2) ?_)
    have hS3 := hS2.setRow (cs' := cs1) (.tail .head)
    refine ⟨hS3.drop.drop, wpAnyH_one r4 (wpOp_skip h4 hN.g4 (hN.run4 b1 b2 _ hS3) ?_)⟩
    have hS4 := hS3.setRow (cs' := cs2) .head
    exact ⟨hS4.drop.drop, wpAnyH_done r5 (hN.rest b1 b2 _ hS4) _⟩
  refine wpAnyH_all r0 (by simp) fun i hi => ?_
  have hi' : i = k ∨ i = k + 1 := by simpa using hi
  rcases hi' with rfl | rfl
  · refine wpOp_value h1 hN.g1 (run_alloc_op w t1 hN.op1 z1 hN.zero1) ?_
    have hS1 := hS.alloc (.cells z1 t1)
    refine ⟨hS1.drop, wpAnyH_one r1 (wpOp_value h2 hN.g2 (run_alloc_op _ t2 hN.op2 z2 hN.zero2) ?_)⟩
    have hS2 := hS1.alloc (.cells z2 t2)
    exact ⟨hS2.drop.drop, fin _ _ _ hS2⟩
  · refine wpOp_value h2 hN.g2 (run_alloc_op w t2 hN.op2 z2 hN.zero2) ?_
    have hS1 := hS.alloc (.cells z2 t2)
    refine ⟨hS1.drop, wpAnyH_one r2 (wpOp_value h1 hN.g1 (run_alloc_op _ t1 hN.op1 z1 hN.zero1) ?_)⟩
    have hS2 := hS1.alloc (.cells z1 t1)
    rw [hN.comm, Array.setIfInBounds_comm _ _ (by omega)]
    exact ⟨hS2.drop.drop, fin _ _ _ hS2.swap⟩

theorem wpAnyH_hd {ops : Array Oper} {o1 o2 o3 o4 : Oper} {t1 t2 : TypeId} {z1 z2 cs1 cs2 : Array Value} (hsel : Region.noSelect ops = true) (hQ : ∀ ch d v a w, Q (.panic ch) (a.put d v) w → Q (.panic ch) a w) :
    ∀ (hd : List Oper) (k : Nat) (listed : Array Bool) (a : Act) (w : World), (∀ j, j < hd.length → hd[j]? = ops[k + j]?) → ops[k + hd.length]? = some o1 → ops[k + hd.length + 1]? = some o2 → ops[k + hd.length + 2]? = some o3 → ops[k + hd.length + 3]? = some o4 →
    okHd .any ops hd.length k listed = true → St c w0 w r l → wpHd P ops (fun w => St c w0 w r l) (New P c w0 r l Q o1 o2 o3 o4 t1 t2 z1 z2 cs1 cs2) hd a →
    wpAnyH P .any ops Q (fun w => St c w0 w r l) (hd.length + 4) listed a w
  | [], k, listed, a, w, _, h1, h2, h3, h4, hB, hS, h => wpAnyH_new h1 h2 h3 h4 hS hB h
  | o :: hd, k, listed, a, w, hl, h1, h2, h3, h4, hB, hS, ⟨v, hy, h⟩ => by
    have h0 : ops[k]? = some o := by simpa using (hl 0 (by simp)).symm
    simp only [List.length_cons, okHd, Bool.and_eq_true] at hB
    obtain ⟨⟨hr, hf⟩, hB⟩ := hB
    have e : k + (o :: hd).length = k + 1 + hd.length := by simp only [List.length_cons]; omega
    rw [e] at h1 h2 h3 h4
    rw [show (o :: hd).length + 4 = hd.length + 4 + 1 by simp only [List.length_cons]]
    exact wpAnyH_take h0 hsel hf hr (fun _ _ _ => hQ _ _ _ _ _) hy hS
      (wpAnyH_hd hsel hQ hd (k + 1) _ _ w (fun j hj => by have := hl (j + 1) (by simp [hj]); simpa [Nat.add_assoc, Nat.add_comm 1 j] using this) h1 h2 h3 h4 hB hS h)

theorem wp_region_2new {id : Nat} {a : Act} {hd : List Oper} {o1 o2 o3 o4 : Oper} (t1 t2 : TypeId) (z1 z2 cs1 cs2 : Array Value) (hS : St c w0 w r l) (hm : P.follows .mixedOrders = true) (hsel : Region.noSelect (hd ++ [o1, o2, o3, o4]).toArray = true)
    (hQ : ∀ ch d v a w, Q (.panic ch) (a.put d v) w → Q (.panic ch) a w) (hB : okHd .any (hd ++ [o1, o2, o3, o4]).toArray hd.length 0 (Array.replicate (hd ++ [o1, o2, o3, o4]).toArray.size false) = true)
    (h : wpHd P (hd ++ [o1, o2, o3, o4]).toArray (fun w => St c w0 w r l) (New P c w0 r l Q o1 o2 o3 o4 t1 t2 z1 z2 cs1 cs2) hd a) : (Code.region id (hd ++ [o1, o2, o3, o4]).toArray true).wp P Q a w := by
  refine wp_region_held (S := fun w => St c w0 w r l) hm ?_
  have := wpAnyH_hd (Q := Q) hsel hQ hd 0 (Array.replicate (hd ++ [o1, o2, o3, o4]).toArray.size false) a w.drew (fun j hj => by rw [Nat.zero_add, List.getElem?_toArray]; exact (List.getElem?_append_left hj).symm) (by simp) (by simp) (by simp) (by simp) hB hS.drew h
  simpa using this
end Go.Proofs.YtkiefjbfepjcbaaGreatDoor
end
section
namespace Go.Proofs.YtkiefjbfepjcbaaGreatDoor
open Go.RowKit
set_option maxRecDepth 10000 in
set_option maxHeartbeats 1000000 in
theorem gcd_of (L : Nat) (s t : Bool) (n m : Nat) (hn : n < pw 32) (hm : m < pw 32) (hL : m < L) (G : ∀ x y, x < pw 32 → y < pw 32 → 0 < y → y < L → DivGives x y) :
    Gives Tryz.prog 120 #[.agg (iv s n), .agg (iv t m)] (.agg (ivZ ((Nat.gcd n m : Nat) : Int))) := by
  intro w
  have hS := St.start w
  have HB : Hid (n < pw 32 ∧ m < pw 32 ∧ m < L) := ⟨hn, hm, hL⟩
  have HG := Lib.hid G
  clear hn hm hL G
  go_enter Tryz.func120, Tryz.ntmps120
  go_wp2_with (first | (refine L_box_agg (o := ⟨some 2, _, _, _, _, _⟩) hS rfl rfl ?_; refine ⟨_, rfl, ?_⟩; clear hS; intro b2 _ hS) | (refine L_box_agg (o := ⟨some 3, _, _, _, _, _⟩) hS rfl rfl ?_; refine ⟨_, rfl, ?_⟩; clear hS; intro b3 _ hS) | (refine L_alloc_agg (o := ⟨some 4, _, _, _, _, _⟩) hS rfl rfl ?_; refine ⟨_, zero25, ?_⟩; clear hS; intro b4 _ hS))
  (try simp only [Act.put]); (try simp only [List.setIfInBounds_toArray, List.set_cons_succ, List.set_cons_zero]); refine wp_region_2new (hd := [_, _, _, _]) 119 119 (mgk 32 0) (mgk 32 0) (mgk 32 n) (mgk 32 m) hS (by kernel_rfl) (by kernel_rfl) (fun _ d _ _ _ h => (by cases d <;> exact h)) (by kernel_rfl) ?_
  (refine wpHd_cons ?_; apply Exists.intro; refine ⟨.inl ⟨rfl, fun _ _ => ?_⟩, ?_⟩; (focus (go_simp; (try go_bits); exact rfl)); simp only [Act.put, List.setIfInBounds_toArray, List.set_cons_succ, List.set_cons_zero])
  (refine wpHd_cons ⟨_, .inl ⟨rfl, fun _ hS' => run_load_mid hS' 23 _ rfl _ _ rfl _ _ (.inl (.tail _ (.tail _ (.head _)))) _ Tryz.underlying23 rfl (mgk 32 _) (size23_mg _) (fun k _ => iv_mag _ _ k)⟩, ?_⟩; simp only [Act.put, List.setIfInBounds_toArray, List.set_cons_succ, List.set_cons_zero])
  (refine wpHd_cons ?_; apply Exists.intro; refine ⟨.inl ⟨rfl, fun _ _ => ?_⟩, ?_⟩; (focus (go_simp; (try go_bits); exact rfl)); simp only [Act.put, List.setIfInBounds_toArray, List.set_cons_succ, List.set_cons_zero])
  (refine wpHd_cons ⟨_, .inl ⟨rfl, fun _ hS' => run_load_mid hS' 23 _ rfl _ _ rfl _ _ (.inl (.tail _ (.head _))) _ Tryz.underlying23 rfl (mgk 32 _) (size23_mg _) (fun k _ => iv_mag _ _ k)⟩, ?_⟩; simp only [Act.put, List.setIfInBounds_toArray, List.set_cons_succ, List.set_cons_zero])
  refine ⟨rfl, rfl, rfl, rfl, rfl, rfl, zero119, zero119, fun _ _ => rfl, fun _ _ _ hS' => run_store_row hS' 119 _ _ rfl _ rfl _ _ rfl _ (.tail .head) (size119_mg _) (mg_sizes _ _ _) (oneCells _ _), fun _ _ _ hS' => run_store_row hS' 119 _ _ rfl _ rfl _ _ rfl _ .head (size119_mg _) (mg_sizes _ _ _) (oneCells _ _), ?_⟩; clear hS
  intro b5 b6 w1 hS
  simp only [Act.put, List.setIfInBounds_toArray, List.set_cons_succ, List.set_cons_zero]
  go_wp2_with (fail)
  go_loopg [15] m (fun k _ wr => ∃ x y : Nat, y ≤ k ∧ Hid (x < pw 32 ∧ y < pw 32 ∧ y < L) ∧ Hid (Nat.gcd x y = Nat.gcd n m) ∧ St none w wr [] [(b6, .cells (mgk 32 y) 119), (b5, .cells (mgk 32 x) 119), (b4, .cells (iv false 0) 25), (b3, .cells (iv t m) 25), (b2, .cells (iv s n) 25)])
  case atStart => exact ⟨n, m, Nat.le_refl _, HB, rfl, hS⟩
  case round =>
    clear hS
    obtain ⟨x, y, hyk, HX, HE, hS⟩ := hrel
    by_cases hy0 : y = 0
    · have hz := isz_true hy0
      have HR : Hid (x = Nat.gcd n m) := by show x = Nat.gcd n m; rw [← HE.out, hy0, Nat.gcd_zero_right]
      clear hy0
      go_wp2_with (first | (refine L_load (t := 119) rfl rfl ?_; refine ⟨_, run_load_row hS _ _ rfl _ rfl _ _ (.inl (.head _)) _ Tryz.underlying119 rfl (size119_mg _), ?_⟩) | (refine L_load (t := 119) rfl rfl ?_; refine ⟨_, run_load_row hS _ _ rfl _ rfl _ _ (.inl (.tail _ (.head _))) _ Tryz.underlying119 rfl (size119_mg _), ?_⟩) | (go_at_call 127; (with_reducible refine Gives.use (isZero _ HX.out.2.1) hS ?_); clear hS; intro _ hS) | (go_at_call 118; (with_reducible refine Gives.use (signed_any _ _ HX.out.1) hS ?_); clear hS; intro _ hS) | (refine L_store (t := 25) hS rfl rfl ?_; refine ⟨_, _, _, _, _, (.tail (.tail .head)), run_store_row hS _ _ _ rfl _ rfl _ _ rfl _ (.tail (.tail .head)) (size25_iv _ _) (iv_sizes _ _ _ _) (oneCells_iv _ _), ?_⟩; clear hS; intro _ hS))
      (try simp only [Exit.inBlock, Exit.then]); refine bodyPost_ret (res_cell rfl hS _ _ _ _ (.inl (.tail _ (.tail _ (.head _)))) rfl _ Tryz.underlying25 rfl (size25_iv _ _)) rfl ⟨?_, hS.below⟩
      rw [← HR.out]; rfl
    · have hz := isz_false hy0
      have GD := HG.out x y HX.out.1 HX.out.2.1 (by omega) HX.out.2.2
      unfold DivGives at GD
      have hlt : x % y < y := Nat.mod_lt _ (by omega)
      have hge : x % y < gk := by omega
      have HX2 : Hid (y < pw 32 ∧ x % y < pw 32 ∧ x % y < L) := ⟨HX.out.2.1, by have := HX.out.2.1; omega, by have := HX.out.2.2; omega⟩
      have HE2 : Hid (Nat.gcd y (x % y) = Nat.gcd n m) := by show Nat.gcd y (x % y) = _; rw [← HE.out, Nat.gcd_comm x y, Nat.gcd_rec y x, Nat.gcd_comm]
      obtain ⟨r, hr⟩ : ∃ r, r = x % y := ⟨_, rfl⟩
      obtain ⟨q, hq⟩ : ∃ q, q = x / y := ⟨_, rfl⟩
      rw [← hr, ← hq] at GD
      rw [← hr] at HX2 HE2 hlt hge
      clear hr hq hy0
      go_wp2_with (first | (refine L_load (t := 119) rfl rfl ?_; refine ⟨_, run_load_row hS _ _ rfl _ rfl _ _ (.inl (.head _)) _ Tryz.underlying119 rfl (size119_mg _), ?_⟩) | (refine L_load (t := 119) rfl rfl ?_; refine ⟨_, run_load_row hS _ _ rfl _ rfl _ _ (.inl (.tail _ (.head _))) _ Tryz.underlying119 rfl (size119_mg _), ?_⟩) | (refine L_alloc_agg hS rfl rfl ?_; refine ⟨_, zero119, ?_⟩; clear hS; intro _ _ hS) | (refine L_store (t := 119) hS rfl rfl ?_; refine ⟨_, _, _, _, _, (.tail .head), run_store_row hS _ _ _ rfl _ rfl _ _ rfl _ (.tail .head) (size119_mg _) (mg_sizes _ _ _) (oneCells _ _), ?_⟩; clear hS; intro _ hS) | (refine L_store (t := 119) hS rfl rfl ?_; refine ⟨_, _, _, _, _, (.head), run_store_row hS _ _ _ rfl _ rfl _ _ rfl _ (.head) (size119_mg _) (mg_sizes _ _ _) (oneCells _ _), ?_⟩; clear hS; intro _ hS) | (go_at_call 127; (with_reducible refine Gives.use (isZero _ HX.out.2.1) hS ?_); clear hS; intro _ hS) | (go_at_call 148; (with_reducible refine Gives.use (GD) hS ?_); clear hS; intro _ hS))
      (try simp only [Act.put]); (try simp only [List.setIfInBounds_toArray, List.set_cons_succ, List.set_cons_zero]); refine wp_region_u2 hS 2 3 [1] (.tail (.tail (.tail (.head (o' := .cells (mgk 32 y) 119))))) (.tail (.tail (.head (o' := .cells (mgk 32 r) 119)))) (by kernel_rfl) (by kernel_rfl) ?_
      (refine S_load (t := 119) rfl rfl rfl rfl ?_; refine ⟨_, fun _ hS' => run_load_row hS' _ _ rfl _ rfl _ _ (.inl (.tail _ (.tail _ (.head _)))) _ Tryz.underlying119 rfl (size119_mg _), ?_⟩; simp only [Act.put, List.setIfInBounds_toArray, List.set_cons_succ, List.set_cons_zero])
      (refine S_float (t := 119) rfl rfl rfl ?_ (by decide); refine ⟨.agg (mgk 32 (r)), fun q _ hq _ hS' => run_load_row hS' _ _ rfl _ rfl (mgk 32 (r)) 119 (by rcases q with _ | _ | _ | q; (focus exact .inl (.head _)); (focus exact .inl (.head _)); (focus exact .inl (.head _)); exact absurd hq (by simp)) _ Tryz.underlying119 rfl (size119_mg _), ?_⟩; simp only [Act.put, List.setIfInBounds_toArray, List.set_cons_succ, List.set_cons_zero])
      (refine S_store (t := 119) rfl rfl rfl ?_; refine ⟨_, _, _, _, (.tail (.tail (.tail .head))), fun _ hS' => run_store_row hS' _ _ _ rfl _ rfl _ _ rfl _ (.tail (.tail (.tail .head))) (size119_mg _) (mg_sizes _ _ _) (oneCells _ _), ?_⟩; simp only [Act.put])
      (refine S_store (t := 119) rfl rfl rfl ?_; refine ⟨_, _, _, _, (.tail (.tail .head)), fun _ hS' => run_store_row hS' _ _ _ rfl _ rfl _ _ rfl _ (.tail (.tail .head)) (size119_mg _) (mg_sizes _ _ _) (oneCells _ _), ?_⟩; simp only [Act.put])
      refine S_end2 ?_; clear hS; intro _ hS
      go_wp2
      go_roundg r
      case rel => exact ⟨y, r, Nat.le_refl _, HX2, HE2, hS.drop.drop⟩
      case measure => exact hge
end Go.Proofs.YtkiefjbfepjcbaaGreatDoor
end
section
namespace Go.Proofs
open Go.Shelf
def Tryz.lays128_ren : Go.Shelf.Ren := ⟨fun | 128 => 202 | n => n, fun | 51 => 22 | 3 => 3 | 4 => 4 | 46 => 116 | 5 => 5 | 9 => 9 | n => n, fun | n => n⟩
theorem Tryz.lays128 : Go.Proofs.Lays.n128 Tryz.prog Tryz.lays128_ren := {
  mixed := by kernel_rfl
  f128 := Tryz.func202.trans (congrArg some (by kernel_rfl))
  t3 := Tryz.underlying3
  a3 := Tryz.isAgg3
  z3 := Tryz.sizeOf3
  v3 := Tryz.zeroValue3
  t4 := Tryz.underlying4
  a4 := Tryz.isAgg4
  z4 := Tryz.sizeOf4
  v4 := Tryz.zeroValue4
  t5 := Tryz.underlying5
  a5 := Tryz.isAgg5
  z5 := Tryz.sizeOf5
  v5 := Tryz.zeroValue5
  t9 := Tryz.underlying9
  a9 := Tryz.isAgg9
  z9 := Tryz.sizeOf9
  v9 := Tryz.zeroValue9
  t46 := Tryz.underlying116
  a46 := Tryz.isAgg116
  z46 := Tryz.sizeOf116
  v46 := Tryz.zeroValue116
  t51 := Tryz.underlying22
  a51 := Tryz.isAgg22
  z51 := Tryz.sizeOf22
  v51 := Tryz.zeroValue22 }
theorem Tryz.bits_Len32 (x : Int) (w : World) (h0 : 0 ≤ x) (h1 : x ≤ 4294967295) :
    Calls Tryz.prog 202 #[.int .u32 x] w fun e w' => e = .returned (.int .i64 (Lib.bitLen x.toNat)) ∧ w' = w := Any.bits_Len32 Tryz.lays128 x w h0 h1
end Go.Proofs
end
section
namespace Go.Proofs.YtkiefjbfepjcbaaGreatDoor
open Go.RowKit

def bl (n : Nat) : Nat := if n = 0 then 0 else n.log2 + 1
theorem bl_zero : bl 0 = 0 := rfl
theorem bl_lt (n : Nat) : n < 2 ^ bl n := by
  unfold bl; split
  · rename_i h; subst h; decide
  · exact Nat.lt_log2_self
theorem bl_pos {n : Nat} (h : n ≠ 0) : 0 < bl n := by unfold bl; rw [if_neg h]; omega
theorem bl_ge {n : Nat} (h : n ≠ 0) : 2 ^ (bl n - 1) ≤ n := by unfold bl; rw [if_neg h]; exact Nat.log2_self_le h
theorem bl_le {n k : Nat} (h : n < 2 ^ k) : bl n ≤ k := by
  by_cases h0 : n = 0
  · subst h0; exact Nat.zero_le _
  · have h1 := bl_ge h0
    have h2 := bl_pos h0
    have := (Nat.pow_lt_pow_iff_right (a := 2) (by omega)).1 (Nat.lt_of_le_of_lt h1 h)
    omega
theorem bl_gt {n k : Nat} (h : 2 ^ k ≤ n) : k < bl n := (Nat.pow_lt_pow_iff_right (a := 2) (by omega)).1 (Nat.lt_of_le_of_lt h (bl_lt n))
theorem bl_is {n k : Nat} (h1 : 2 ^ k ≤ n) (h2 : n < 2 ^ (k + 1)) : bl n = k + 1 := by have := bl_gt h1; have := bl_le h2; omega
theorem bl_lib (x : Nat) (h : x < 2 ^ 64) : Lib.bitLen x = bl x := by
  by_cases h0 : x = 0
  · subst h0; rfl
  · obtain ⟨h1, h2, h3⟩ := Lib.bitLenAux_bounds 64 x h h0
    have := bl_is (n := x) (k := Lib.bitLenAux 64 x - 1) h2 (by rw [Nat.sub_add_cancel h1]; exact h3)
    rw [this, Nat.sub_add_cancel h1]; rfl
theorem pw_bits (k : Nat) : pw k = 2 ^ (32 * k) := by unfold pw; rw [Nat.pow_mul]
theorem pw32_bits : ∃ K, K = 1024 ∧ pw 32 = 2 ^ K := ⟨32 * 32, rfl, pw_bits 32⟩
theorem bl_shift {n k : Nat} (h : n / 2 ^ k ≠ 0) : bl n = k + bl (n / 2 ^ k) := by
  have h1 := bl_ge h
  have h2 := bl_lt (n / 2 ^ k)
  have h3 := bl_pos h
  have e1 : 2 ^ (k + (bl (n / 2 ^ k) - 1)) ≤ n := by
    rw [Nat.pow_add]
    exact Nat.le_trans (Nat.mul_le_mul_left _ h1) (by rw [Nat.mul_comm]; exact Nat.div_mul_le_self _ _)
  have e2 : n < 2 ^ (k + (bl (n / 2 ^ k) - 1) + 1) := by
    have : k + (bl (n / 2 ^ k) - 1) + 1 = bl (n / 2 ^ k) + k := by omega
    rw [this, Nat.pow_add]
    exact (Nat.div_lt_iff_lt_mul (Nat.pow_pos (by omega))).1 h2
  have := bl_is e1 e2
  omega
theorem bl_limb {n j : Nat} (h : n < pw (j + 1)) (h0 : limb n j ≠ 0) : bl n = j * 32 + bl (limb n j) := by
  have e : limb n j = n / 2 ^ (32 * j) := by
    unfold limb
    rw [pw_bits]
    refine Nat.mod_eq_of_lt ((Nat.div_lt_iff_lt_mul (Nat.pow_pos (by omega))).2 ?_)
    rw [pw_succ, pw_bits, Nat.mul_comm] at h
    exact h
  rw [e] at h0 ⊢
  rw [bl_shift h0]; omega
theorem bl_top {n : Nat} (h : n < pw 32) : bl n ≤ 1024 := by
  obtain ⟨K, hK, e⟩ := pw32_bits
  rw [e] at h
  have := bl_le h
  omega
theorem len32_any (x : Nat) (h : x < 4294967296) : Gives Tryz.prog 202 #[.int .u32 ((x : Nat) : Int)] (.int .i64 ((bl x : Nat) : Int)) := fun w =>
  (Tryz.bits_Len32 x w (by omega) (by omega)).mono fun e w' ⟨he, hw⟩ => by
    subst hw
    refine ⟨?_, Below.refl _ _⟩
    rw [he, Int.toNat_natCast, bl_lib x (by omega)]

set_option maxHeartbeats 400000 in
theorem bitCount_any (n : Nat) (hn : n < pw 32) : Gives Tryz.prog 179 #[.agg (mgk 32 n)] (.int .i64 ((bl n : Nat) : Int)) := by
  intro w
  have hS := St.start w
  have HL := limbCount_any n
  rcases hk : nl n with _ | j
  · have hz : n = 0 := by have := nl_lt hn; rw [hk, pw_zero] at this; omega
    have HV : Hid (bl n = 0) := by subst hz; exact bl_zero
    rw [hk] at HL
    clear hz hn hk
    go_enter Tryz.func179, Tryz.ntmps179
    go_wp2_with (first | (refine L_box_agg hS rfl rfl ?_; refine ⟨_, rfl, ?_⟩; clear hS; intro _ _ hS) | (refine L_load (t := 119) rfl rfl ?_; refine ⟨_, run_load_row hS _ _ rfl _ rfl _ _ (.inl (.head _)) _ Tryz.underlying119 rfl (size119_mg _), ?_⟩) | (go_at_call 169; (with_reducible refine Gives.use (HL) hS ?_); clear hS; intro _ hS))
    go_ret
    exact ⟨by rw [HV.out]; rfl, hS.below⟩
  · have hj : j < 32 := by have := nl_le n; omega
    have hne : limb n j ≠ 0 := by
      rcases nl_top n with h | h
      · omega
      · rw [hk] at h; exact h
    have hb : Hid (bl n = j * 32 + bl (limb n j)) := bl_limb (by rw [← hk]; exact nl_lt hn) hne
    rw [hk] at HL
    have hB : bl (limb n j) ≤ 32 := bl_le (limb_lt n j)
    have HC := len32_any (limb n j) (limb_lt n j)
    obtain ⟨c, hc⟩ : ∃ c, c = bl (limb n j) := ⟨_, rfl⟩
    rw [← hc] at hb hB HC
    have hj1 : (j : Int) < 32 := by omega
    have hz : ((((j + 1 : Nat) : Int)) == 0) = false := by simp; omega
    have ej : (((j + 1 : Nat) : Int) - 1) = (j : Int) := by omega
    clear hn hk hne hc
    go_enter Tryz.func179, Tryz.ntmps179
    go_wp2_with (first | (refine L_box_agg hS rfl rfl ?_; refine ⟨_, rfl, ?_⟩; clear hS; intro _ _ hS) | (refine L_load (t := 119) rfl rfl ?_; refine ⟨_, run_load_row hS _ _ rfl _ rfl _ _ (.inl (.head _)) _ Tryz.underlying119 rfl (size119_mg _), ?_⟩) | (refine L_load (t := 22) rfl rfl ?_; refine ⟨_, run_load_cell hS _ _ rfl _ _ rfl _ _ (.inl (.head _)) _ Tryz.underlying22 rfl _ (mgk_get' (by omega)), ?_⟩) | (go_at_call 169; (with_reducible refine Gives.use (HL) hS ?_); clear hS; intro _ hS) | (go_at_call 202; (with_reducible refine Gives.use (HC) hS ?_); clear hS; intro _ hS))
    go_ret
    refine ⟨?_, hS.below⟩
    rw [hb.out]
    refine ret1 (congrArg (Value.int .i64) ?_)
    omega

theorem bits_any (s : Bool) (n : Nat) (hn : n < pw 32) : Gives Tryz.prog 160 #[.agg (iv s n)] (.int .i64 ((bl n : Nat) : Int)) := by
  intro w
  have hS := St.start w
  have HB := bitCount_any n hn
  clear hn
  go_enter Tryz.func160, Tryz.ntmps160
  go_wp2_with (first | (refine L_box_agg hS rfl rfl ?_; refine ⟨_, rfl, ?_⟩; clear hS; intro _ _ hS) | (refine L_load (t := 23) rfl rfl ?_; refine ⟨_, run_load_mid hS _ _ rfl _ _ rfl _ _ (.inl (.head _)) _ Tryz.underlying23 rfl (mgk 32 _) (size23_mg _) (fun k _ => iv_mag _ _ k), ?_⟩) | (go_at_call 179; (with_reducible refine Gives.use (HB) hS ?_); clear hS; intro _ hS))
  go_ret
  exact ⟨rfl, hS.below⟩
end Go.Proofs.YtkiefjbfepjcbaaGreatDoor
end
section
namespace Go.Proofs.YtkiefjbfepjcbaaGreatDoor

def win (i x r k H : Nat) : Nat := x + (r + H * pw k) * pw i
theorem win_start (i x W : Nat) : win i x 0 0 W = x + W * pw i := by unfold win; rw [pw_zero, Nat.mul_one, Nat.zero_add]
theorem win_end (i x r k : Nat) : win i x r k 0 = x + r * pw i := by unfold win; rw [Nat.zero_mul, Nat.add_zero]
theorem win_div {i x r k : Nat} (H : Nat) (hx : x < pw i) (hr : r < pw k) : win i x r k H / pw (i + k) = H ∧ win i x r k H % pw (i + k) = x + r * pw i := by
  have h1 : x + r * pw i < pw (i + k) := by
    rw [pw_add, Nat.mul_comm (pw i) (pw k)]
    have : (r + 1) * pw i ≤ pw k * pw i := Nat.mul_le_mul_right _ hr
    rw [Nat.add_mul] at this; omega
  have e : win i x r k H = (x + r * pw i) + pw (i + k) * H := by
    unfold win
    rw [pw_add, Nat.add_mul]
    have : H * pw k * pw i = pw i * pw k * H := by rw [Nat.mul_comm (pw i), Nat.mul_comm _ H, Nat.mul_assoc]
    omega
  rw [e]
  exact ⟨by rw [Nat.add_mul_div_left _ _ (pw_pos _), Nat.div_eq_of_lt h1, Nat.zero_add], by rw [Nat.add_mul_mod_self_left, Nat.mod_eq_of_lt h1]⟩
theorem win_limb {i x r k : Nat} (H : Nat) (hx : x < pw i) (hr : r < pw k) : limb (win i x r k H) (i + k) = H % 4294967296 := by
  unfold limb; rw [(win_div H hx hr).1]
theorem win_put {i x r k : Nat} (H v : Nat) (hx : x < pw i) (hr : r < pw k) : put (win i x r k H) (i + k) v = win i x (r + v * pw k) (k + 1) (H / 4294967296) := by
  rw [put_eq, (win_div H hx hr).2, show i + k + 1 = (i + k) + 1 from rfl, pw_succ, ← Nat.div_div_eq_div_mul, (win_div H hx hr).1]
  unfold win
  rw [pw_succ, pw_add, Nat.add_mul, Nat.add_mul, Nat.add_mul]
  have e1 : H / 4294967296 * 4294967296 * (pw i * pw k) = H / 4294967296 * (pw k * 4294967296) * pw i := by ac_rfl
  have e2 : v * (pw i * pw k) = v * pw k * pw i := by rw [Nat.mul_comm (pw i), Nat.mul_assoc]
  omega
theorem top_next (W k : Nat) : W / pw k / 4294967296 = W / pw (k + 1) := by rw [Nat.div_div_eq_div_mul, pw_succ]

theorem off_next {W D g k r c br : Nat} (h : W % pw k + br * pw k + c * pw k = r + g * (D % pw k)) :
    W % pw (k + 1) + brw (limb W k) ((c + limb D k * g) % 4294967296) br * pw (k + 1) + (c + limb D k * g) / 4294967296 * pw (k + 1) = (r + subD (limb W k) ((c + limb D k * g) % 4294967296) br * pw k) + g * (D % pw (k + 1)) ∨ 1 < br := by
  by_cases hb : br ≤ 1
  · left
    have hw := limb_lt W k
    obtain ⟨w, hwe⟩ : ∃ w, limb W k = w := ⟨_, rfl⟩
    obtain ⟨t, ht⟩ : ∃ t, c + limb D k * g = t := ⟨_, rfl⟩
    have key : w + brw w (t % 4294967296) br * 4294967296 = subD w (t % 4294967296) br + t % 4294967296 + br := by
      have := Nat.mod_lt t (show 0 < 4294967296 by omega)
      rw [hwe] at hw
      unfold brw subD
      split <;> omega
    have ht2 := Nat.div_add_mod t 4294967296
    rw [mod_pw W, mod_pw D, hwe, ht, pw_succ]
    have e0 : g * (D % pw k + limb D k * pw k) = g * (D % pw k) + limb D k * g * pw k := by rw [Nat.mul_add]; congr 1; ac_rfl
    rw [e0]
    have k1 : (w + brw w (t % 4294967296) br * 4294967296) * pw k = (subD w (t % 4294967296) br + t % 4294967296 + br) * pw k := by rw [key]
    have k2 : (4294967296 * (t / 4294967296) + t % 4294967296) * pw k = (c + limb D k * g) * pw k := by rw [ht2, ht]
    simp only [Nat.add_mul] at k1 k2
    have m1 : brw w (t % 4294967296) br * 4294967296 * pw k = brw w (t % 4294967296) br * (pw k * 4294967296) := by rw [Nat.mul_assoc, Nat.mul_comm (pw k)]
    have m2 : 4294967296 * (t / 4294967296) * pw k = t / 4294967296 * (pw k * 4294967296) := by rw [Nat.mul_comm 4294967296, Nat.mul_assoc, Nat.mul_comm (pw k)]
    omega
  · exact .inr (by omega)
theorem off_carry {c d g : Nat} (hc : c < 4294967296) (hd : d < 4294967296) (hg : g < 4294967296) : c + d * g < 18446744073709551616 ∧ (c + d * g) / 4294967296 < 4294967296 := by
  have : d * g ≤ 4294967295 * 4294967295 := Nat.mul_le_mul (by omega) (by omega)
  omega
theorem lim_add {r v k : Nat} (hr : r < pw k) (hv : v < 4294967296) : r + v * pw k < pw (k + 1) := low_lt hr hv

theorem back_next {W D k r c : Nat} (h : W % pw k + D % pw k = r + c * pw k) :
    W % pw (k + 1) + D % pw (k + 1) = (r + (limb W k + limb D k + c) % 4294967296 * pw k) + (limb W k + limb D k + c) / 4294967296 * pw (k + 1) := by
  obtain ⟨t, ht⟩ : ∃ t, limb W k + limb D k + c = t := ⟨_, rfl⟩
  have ht2 := Nat.div_add_mod t 4294967296
  rw [mod_pw W, mod_pw D, ht, pw_succ]
  have k2 : (4294967296 * (t / 4294967296) + t % 4294967296) * pw k = (limb W k + limb D k + c) * pw k := by rw [ht2, ht]
  simp only [Nat.add_mul] at k2
  have m2 : 4294967296 * (t / 4294967296) * pw k = t / 4294967296 * (pw k * 4294967296) := by rw [Nat.mul_comm 4294967296, Nat.mul_assoc, Nat.mul_comm (pw k)]
  omega

section
variable {W D n f s h w2 q g t : Nat}
theorem est_low (hq : q * (f * 4294967296 + s) ≤ h * 4294967296 + w2) (hw : w2 < 4294967296) (hf : 0 < f) : q ≤ h / f := by
  rw [Nat.le_div_iff_mul_le hf]
  have e : q * (f * 4294967296 + s) = q * f * 4294967296 + q * s := by rw [Nat.mul_add, Nat.mul_assoc q f]
  generalize q * f = u at *
  generalize q * s = v at *
  rw [e] at hq
  omega
theorem est_down (hq : q * (f * 4294967296 + s) ≤ h * 4294967296 + w2) (hi : g * f + t = h) (hc : t * 4294967296 + w2 < g * s) : q < g := by
  refine Classical.byContradiction fun hn => ?_
  have h1 : g * (f * 4294967296 + s) ≤ q * (f * 4294967296 + s) := Nat.mul_le_mul_right _ (by omega)
  have h2 : g * (f * 4294967296 + s) = g * f * 4294967296 + g * s := by rw [Nat.mul_add, Nat.mul_assoc g f]
  have h3 : h * 4294967296 = g * f * 4294967296 + t * 4294967296 := by rw [← hi, Nat.add_mul]
  omega
theorem est_high (hi : g * f + t = h) (hg : g < 4294967296) (hs : s < 4294967296) (hc : 4294967296 ≤ t ∨ g * s ≤ t * 4294967296 + w2) : g * (f * 4294967296 + s) ≤ h * 4294967296 + w2 := by
  have h2 : g * (f * 4294967296 + s) = g * f * 4294967296 + g * s := by rw [Nat.mul_add, Nat.mul_assoc g f]
  have h3 : h * 4294967296 = g * f * 4294967296 + t * 4294967296 := by rw [← hi, Nat.add_mul]
  rcases hc with hc | hc
  · have : g * s ≤ 4294967295 * 4294967295 := Nat.mul_le_mul (by omega) (by omega)
    omega
  · omega
theorem est_top (hi : g * f + t = h) (hh : h < f * 4294967296 + 4294967296) (ht : 4294967296 ≤ t) : g < 4294967296 := by
  refine Classical.byContradiction fun hn => ?_
  have : 4294967296 * f ≤ g * f := Nat.mul_le_mul_right _ (by omega)
  omega
end
end Go.Proofs.YtkiefjbfepjcbaaGreatDoor
end
section
namespace Go.Proofs.YtkiefjbfepjcbaaGreatDoor
open Go.RowKit
variable {P : Program} {ops : Array Oper} {rest : List Oper} {a : Act} {w : World} {Q : Exit → Act → World → Prop} {d : Option Tmp} {op : Op} {ty : TypeId} {pos : String} {after : Array Edge} {g : Option (Nat × Bool)}
theorem L_slot (n : Nat) (h : wpList P ops Q (⟨some n, op, ty, pos, after, g⟩ :: rest) a w) : wpList P ops Q (⟨some n, op, ty, pos, after, g⟩ :: rest) a w := h
theorem L_alloc? {t : TypeId} (h : wpList P ops Q (⟨d, .alloc t, ty, pos, after, g⟩ :: rest) a w) : wpList P ops Q (⟨d, .alloc t, ty, pos, after, g⟩ :: rest) a w := h
theorem L_box? {t : TypeId} {x : Operand} (h : wpList P ops Q (⟨d, .box t x, ty, pos, after, g⟩ :: rest) a w) : wpList P ops Q (⟨d, .box t x, ty, pos, after, g⟩ :: rest) a w := h
theorem L_store? {t : TypeId} {y x : Operand} (h : wpList P ops Q (⟨d, .store t y x, ty, pos, after, g⟩ :: rest) a w) : wpList P ops Q (⟨d, .store t y x, ty, pos, after, g⟩ :: rest) a w := h
theorem L_storeAt (n : Nat) {t : TypeId} {x : Operand} (h : wpList P ops Q (⟨d, .store t (.tmp n) x, ty, pos, after, g⟩ :: rest) a w) : wpList P ops Q (⟨d, .store t (.tmp n) x, ty, pos, after, g⟩ :: rest) a w := h
variable {ws fl : List Nat} {cls : Nat → World → Prop} {k p : Nat}
theorem S_slot (n : Nat) (h : wpS P ops ws fl cls Q (⟨some n, op, ty, pos, after, g⟩ :: rest) k p a) : wpS P ops ws fl cls Q (⟨some n, op, ty, pos, after, g⟩ :: rest) k p a := h
end Go.Proofs.YtkiefjbfepjcbaaGreatDoor
end
section
namespace Go.Proofs.YtkiefjbfepjcbaaGreatDoor
open Go.RowKit
variable {P : Program} {ops : Array Oper} {rest : List Oper} {o : Oper} {a : Act} {w : World} {Q : Exit → Act → World → Prop}
theorem run_index_cell {o : Oper} {a : Act} (w : World) (t : TypeId) (x y : Operand) (ho : o.op = .index t x y) (cs : Array Value) (hx : a.eval x = .agg cs) (i : Int) (k : Nat) (hy : a.eval y = .int .i64 i) (hi : i = ((k : Nat) : Int)) (n : Nat) (e : TypeId) (hu : P.underlying t = some (.array n e)) (hk : k < n)
    (d : TypeDesc) (hd : P.underlying e = some d) (hrow : d.isRow = false) (hs : (P.info? e).map (·.size) = some 1) (v : Value) (hv : cs[k]? = some v) : (execOp a.eval o).run P w = .ok (.value v) w := by
  subst hi
  have hagg : (isAgg e).run P w = .ok false w := by
    unfold isAgg
    rw [Sem.run_bind, run_underlying hd w]
    cases d <;> simp_all
  have hsz : (sizeOf e).run P w = .ok 1 w := by
    cases hq : P.info? e with
    | none => simp [hq] at hs
    | some q => simp [hq] at hs; simp [sizeOf, typeInfo, hq, hs]
  have h1 : (0 : Int) ≤ ((k : Nat) : Int) ∧ ((k : Nat) : Int) < ((n : Nat) : Int) := by omega
  unfold execOp
  simp [ho, hx, hy, Instr.index, asIntOf, run_underlying hu, h1, hsz, part, hagg, hv]
  intro h; omega
theorem L_index (hgd : o.guard = none) {t : TypeId} {x y : Operand} (_ho : o.op = .index t x y) (h : ∃ v, (execOp a.eval o).run P w = .ok (.value v) w ∧ wpList P ops Q rest (a.put o.dst v) w) : wpList P ops Q (o :: rest) a w :=
  let ⟨v, hr, h⟩ := h
  L_run hgd v hr h
end Go.Proofs.YtkiefjbfepjcbaaGreatDoor
end
section
namespace Go.Proofs.YtkiefjbfepjcbaaGreatDoor
open Go.RowKit
set_option linter.unusedVariables false
theorem size185 : (Tryz.prog.info? 185).map (·.size) = some 33 := by kernel_rfl
theorem size185_mg (n : Nat) : (Tryz.prog.info? 185).map (·.size) = some (mgk 33 n).size := by rw [mgk_size]; exact size185
theorem zero185 : (Tryz.prog.info? 185).map (·.zero) = some (some (.agg (mgk 33 0))) := by rw [mgk_zero]; kernel_rfl

theorem sh_next {m p k c lo t : Nat} (h : m % pw k * p = c * pw k + lo) (ht : c + limb m k * p = t) : m % pw (k + 1) * p = t / 4294967296 * pw (k + 1) + (lo + t % 4294967296 * pw k) := by
  have e : limb m k * pw k * p = limb m k * p * pw k := by ac_rfl
  have ht2 := Nat.div_add_mod t 4294967296
  have k2 : (4294967296 * (t / 4294967296) + t % 4294967296) * pw k = (c + limb m k * p) * pw k := by rw [ht2, ht]
  simp only [Nat.add_mul] at k2
  have m2 : 4294967296 * (t / 4294967296) * pw k = t / 4294967296 * (pw k * 4294967296) := by rw [Nat.mul_comm 4294967296, Nat.mul_assoc, Nat.mul_comm (pw k)]
  rw [mod_pw, Nat.add_mul, pw_succ]
  omega
theorem sh_carry {x p c s : Nat} (hx : x < 4294967296) (hp : 2 ^ s = p) (hc : c < p) : (c + x * p) / 4294967296 < p ∧ bits BinOp.or IntKind.u64 ((c : Nat) : Int) (((x * p : Nat)) : Int) = ((c + x * p : Nat) : Int) ∨ 2147483648 < p := by
  by_cases hb : p ≤ 2147483648
  · left
    have h1 : (x + 1) * p ≤ 4294967296 * p := Nat.mul_le_mul_right _ hx
    rw [Nat.add_mul, Nat.one_mul] at h1
    refine ⟨?_, ?_⟩
    · rw [Nat.div_lt_iff_lt_mul (by omega), Nat.mul_comm p]; omega
    · have h2 : 4294967296 * p ≤ 4294967296 * 2147483648 := Nat.mul_le_mul_left _ hb
      have h3 : x * p ||| c = x * p + c := nat_join s _ _ (by rw [hp]; exact Nat.mul_mod_left ..) (by rw [hp]; exact hc)
      rw [u64_or_nat _ _ (by omega) (by omega), Nat.or_comm, h3, Nat.add_comm]
  · exact .inr (by omega)

set_option maxRecDepth 10000 in
set_option maxHeartbeats 1000000 in
theorem shiftLeft_core (m s p : Nat) (hm : m < pw 32) (hs : s < 32) (hp : 2 ^ s = p) (hpp : 0 < p) (hpb : p ≤ 2147483648) : Gives Tryz.prog 196 #[.agg (mgk 32 m), .int .i64 ((s : Nat) : Int)] (.agg (mgk 33 (m * p))) := by
  intro w
  have hS := St.start w
  have HM := Lib.hid hm
  have HP := Lib.hid hp
  have hpz : (2 : Int) ^ s = ((p : Nat) : Int) := by rw [← hp]; simp
  clear hm hp
  go_enter Tryz.func196, Tryz.ntmps196
  go_wp2_with (first | (refine L_box_agg (o := ⟨some 2, _, _, _, _, _⟩) hS rfl rfl ?_; refine ⟨_, rfl, ?_⟩; clear hS; intro b2 _ hS) | (refine L_alloc_agg (o := ⟨some 4, _, _, _, _, _⟩) hS rfl rfl ?_; refine ⟨_, zero185, ?_⟩; clear hS; intro b4 _ hS) | (refine L_alloc_agg (o := ⟨some 5, _, _, _, _, _⟩) hS rfl rfl ?_; refine ⟨_, zero185, ?_⟩; clear hS; intro b5 _ hS) | (refine L_load (t := 119) rfl rfl ?_; refine ⟨_, run_load_row hS _ _ rfl _ rfl _ _ (.inl (.tail _ (.tail _ (.head _)))) _ Tryz.underlying119 rfl (size119_mg _), ?_⟩))
  go_loopw [6, 10] (fun cy i wr => ∃ k c lo : Nat, k ≤ 32 ∧ i = .int .i64 k ∧ cy = .int .u64 ((c : Nat) : Int) ∧ c < p ∧ Hid (lo < pw k) ∧ Hid (m % pw k * p = c * pw k + lo) ∧ St none w wr [] [(b5, .cells (mgk 33 lo) 185), (b4, .cells (mgk 33 0) 185), (b2, .cells (mgk 32 m) 119)]) (fun _ i _ => 32 - (intOf i).toNat)
  case atStart => exact ⟨0, 0, 0, by omega, rfl, rfl, hpp, pw_pos 0, (show m % pw 0 * p = 0 * pw 0 + 0 by rw [mod_pw_zero]; simp), hS⟩
  case round =>
    clear hS
    obtain ⟨k, c, lo, hk, rfl, rfl, hc, HL, HI, hS⟩ := hrel
    have hx := limb_lt m k
    by_cases hlt : k < 32
    · have hj := (sh_carry hx HP.out hc).resolve_right (by omega)
      obtain ⟨V, hV⟩ : ∃ V, limb m k * p = V := ⟨_, rfl⟩
      have hVZ : ((limb m k : Nat) : Int) * ((p : Nat) : Int) = ((V : Nat) : Int) := by rw [← hV]; simp
      have hVb : V ≤ 9223372036854775807 := by
        have : limb m k * p ≤ 4294967295 * 2147483648 := Nat.mul_le_mul (by omega) hpb
        omega
      have HN := Lib.hid (sh_next HI.out (rfl : c + limb m k * p = _))
      rw [hV] at hj HN
      obtain ⟨hj1, hor⟩ := hj
      obtain ⟨t, ht⟩ : ∃ t, c + V = t := ⟨_, rfl⟩
      rw [ht] at hj1 hor HN
      have htb : t ≤ 18446744073709551615 := by omega
      clear hV ht
      have HLt : Hid (lo + t % 4294967296 * pw k < pw (k + 1)) := low_lt HL.out (Nat.mod_lt _ (by omega))
      go_wp2_with (first | ((with_reducible refine L_slot 13 ?_); refine L_index rfl rfl ?_; refine ⟨_, run_index_cell _ _ _ _ rfl _ rfl _ (k) rfl rfl 32 22 Tryz.underlying119 (hlt) _ Tryz.underlying22 rfl size22 _ (mgk_get' (hlt)), ?_⟩) | ((with_reducible refine L_storeAt 23 ?_); (refine L_store (t := 22) hS rfl rfl ?_; refine ⟨_, _, mgk 33 (lo + t % 4294967296 * pw k), _, _, (.head), run_store_cell hS _ _ _ rfl _ _ rfl _ rfl _ _ _ (.head) size22 rfl rfl ?_ ?_, ?_⟩; (focus (rw [mgk_size]; omega)); (focus (exact mgk_fill' _ (t % 4294967296) rfl HL.out (Nat.mod_lt _ (by omega)))); clear hS; intro _ hS)))
      go_roundw
      case rel => exact ⟨k + 1, t / 4294967296, _, by omega, by go_num, rfl, hj1, HLt, HN, hS⟩
      case measure => simp [intOf]; omega
    · have ek : k = 32 := by omega
      subst ek
      have hcb : c ≤ 2147483647 := by omega
      have HE : Hid (lo + c * pw 32 = m * p) := by
        have := HI.out
        rw [Nat.mod_eq_of_lt HM.out] at this
        show lo + c * pw 32 = m * p
        omega
      go_wp2_with (first | ((with_reducible refine L_storeAt 29 ?_); (refine L_store (t := 22) hS rfl rfl ?_; refine ⟨_, _, mgk 33 (lo + c * pw 32), _, _, (.head), run_store_cell hS _ _ _ rfl _ _ rfl _ rfl _ _ _ (.head) size22 rfl rfl ?_ ?_, ?_⟩; (focus (rw [mgk_size]; omega)); (focus (exact mgk_fill' _ c rfl HL.out (by omega))); clear hS; intro _ hS)) | ((with_reducible refine L_slot 30 ?_); (refine L_load (t := 185) rfl rfl ?_; refine ⟨_, run_load_row hS _ _ rfl _ rfl _ _ (.inl (.head _)) _ Tryz.underlying185 rfl (size185_mg _), ?_⟩)) | ((with_reducible refine L_storeAt 4 ?_); (refine L_store (t := 185) hS rfl rfl ?_; refine ⟨_, _, _, _, _, (.tail .head), run_store_row hS _ _ _ rfl _ rfl _ _ rfl _ (.tail .head) (size185_mg _) (mg_sizes _ _ _) (oneCells _ _), ?_⟩; clear hS; intro _ hS)))
      (try simp only [Exit.inBlock, Exit.then]); refine bodyPost_ret (res_cell rfl hS _ _ _ _ (.inl (.tail _ (.head _))) rfl _ Tryz.underlying185 rfl (size185_mg _)) rfl ⟨?_, hS.below⟩
      rw [HE.out]
theorem shiftLeft_any (m s : Nat) (hm : m < pw 32) (hs : s < 32) : Gives Tryz.prog 196 #[.agg (mgk 32 m), .int .i64 ((s : Nat) : Int)] (.agg (mgk 33 (m * 2 ^ s))) :=
  shiftLeft_core m s (2 ^ s) hm hs rfl (Nat.pow_pos (by omega)) (Nat.pow_le_pow_right (by omega) (show s ≤ 31 by omega))
end Go.Proofs.YtkiefjbfepjcbaaGreatDoor
end
section
namespace Go.Proofs.YtkiefjbfepjcbaaGreatDoor
open Go.RowKit
set_option linter.unusedVariables false

theorem shr_limb {N p q k : Nat} (hpq : p * q = 4294967296) (hp : 0 < p) : limb (N / p) k = (limb N (k + 1) * 4294967296 + limb N k) / p % 4294967296 := by
  obtain ⟨M, hM⟩ : ∃ M, N / pw k = M := ⟨_, rfl⟩
  have e1 : limb N k = M % 4294967296 := by unfold limb; rw [hM]
  have e2 : limb N (k + 1) = M / 4294967296 % 4294967296 := by unfold limb; rw [pw_succ, ← Nat.div_div_eq_div_mul, hM]
  have e3 : N / p / pw k = M / p := by rw [Nat.div_div_eq_div_mul, Nat.mul_comm, ← Nat.div_div_eq_div_mul, hM]
  unfold limb at e1 ⊢
  rw [e3]
  obtain ⟨V, hV⟩ : ∃ V, N / pw (k + 1) % 4294967296 * 4294967296 + N / pw k % 4294967296 = V := ⟨_, rfl⟩
  rw [hV]
  have hMV : M = V + p * (q * (4294967296 * (M / 4294967296 / 4294967296))) := by
    unfold limb at e2
    rw [e2, e1] at hV
    have : p * (q * (4294967296 * (M / 4294967296 / 4294967296))) = 4294967296 * (4294967296 * (M / 4294967296 / 4294967296)) := by rw [← Nat.mul_assoc, hpq]
    omega
  have h1 : M / p = V / p + 4294967296 * (q * (M / 4294967296 / 4294967296)) := by
    have : M / p = (V + p * (q * (4294967296 * (M / 4294967296 / 4294967296)))) / p := by rw [← hMV]
    rw [this, Nat.add_mul_div_left _ _ hp]
    congr 1
    ac_rfl
  rw [h1, Nat.add_mul_mod_self_left]

set_option maxRecDepth 10000 in
set_option maxHeartbeats 1000000 in
theorem shiftRight_core (N s p q : Nat) (hN : N / p < pw 32) (hs : s < 32) (hp : 2 ^ s = p) (hpp : 0 < p) (hpq : p * q = 4294967296) : Gives Tryz.prog 200 #[.agg (mgk 33 N), .int .i64 ((s : Nat) : Int)] (.agg (mgk 32 (N / p))) := by
  intro w
  have hS := St.start w
  have HN := Lib.hid hN
  have HP := Lib.hid hpp
  have HQ := Lib.hid hpq
  have hpz : (2 : Int) ^ s = ((p : Nat) : Int) := by rw [← hp]; simp
  clear hN hp hpq hpp
  go_enter Tryz.func200, Tryz.ntmps200
  go_wp2_with (first | (refine L_box_agg (o := ⟨some 2, _, _, _, _, _⟩) hS rfl rfl ?_; refine ⟨_, rfl, ?_⟩; clear hS; intro b2 _ hS) | (refine L_alloc_agg (o := ⟨some 4, _, _, _, _, _⟩) hS rfl rfl ?_; refine ⟨_, zero119, ?_⟩; clear hS; intro b4 _ hS) | (refine L_alloc_agg (o := ⟨some 5, _, _, _, _, _⟩) hS rfl rfl ?_; refine ⟨_, zero119, ?_⟩; clear hS; intro b5 _ hS))
  go_loopw [8] (fun i wr => ∃ k : Nat, k ≤ 32 ∧ i = .int .i64 k ∧ St none w wr [] [(b5, .cells (mgk 32 (N / p % pw k)) 119), (b4, .cells (mgk 32 0) 119), (b2, .cells (mgk 33 N) 185)]) (fun i _ => 32 - (intOf i).toNat)
  case atStart => exact ⟨0, by omega, rfl, by rw [mod_pw_zero]; exact hS⟩
  case round =>
    clear hS
    obtain ⟨k, hk, rfl, hS⟩ := hrel
    by_cases hlt : k < 32
    · have hk1 : ((k : Nat) : Int) + 1 < 33 := by omega
      have hk0 : ((k : Nat) : Int) < 33 := by omega
      have hx := limb_lt N k
      have hy := limb_lt N (k + 1)
      have hor := or_limb _ _ hy hx
      obtain ⟨V, hV⟩ : ∃ V, limb N (k + 1) * 4294967296 + limb N k = V := ⟨_, rfl⟩
      have HL := Lib.hid (shr_limb (N := N) (k := k) HQ.out HP.out)
      rw [hV] at hor HL
      have hVb : V ≤ 18446744073709551615 := by omega
      obtain ⟨R, hR⟩ : ∃ R, V / p = R := ⟨_, rfl⟩
      have hRZ : ((V : Nat) : Int) / ((p : Nat) : Int) = ((R : Nat) : Int) := by rw [← hR]; simp
      have hRb : R ≤ 18446744073709551615 := by have := Nat.div_le_self V p; omega
      rw [hR] at HL
      have HS : Hid (N / p % pw k < pw k) := Nat.mod_lt _ (pw_pos k)
      have HE : Hid (N / p % pw k + R % 4294967296 * pw k = N / p % pw (k + 1)) := by
        show _ = _
        rw [mod_pw, HL.out]
      clear hV hR
      go_wp2_with (fail)
      (try simp only [Act.put]); (try simp only [List.setIfInBounds_toArray, List.set_cons_succ, List.set_cons_zero]); refine wp_region_w0 hS (by kernel_rfl) (by kernel_rfl) ?_
      repeat (first
        | ((with_reducible refine S_slot 14 ?_); (refine S_load (t := 22) rfl rfl rfl rfl ?_; refine ⟨_, fun _ hS' => run_load_cell hS' _ _ rfl _ _ rfl _ _ (.inl (.tail _ (.tail _ (.head _)))) _ Tryz.underlying22 rfl _ (mgk_get' (by omega)), ?_⟩; simp only [Act.put, List.setIfInBounds_toArray, List.set_cons_succ, List.set_cons_zero]))
        | ((with_reducible refine S_slot 19 ?_); (refine S_load (t := 22) rfl rfl rfl rfl ?_; refine ⟨_, fun _ hS' => run_load_cell hS' _ _ rfl _ _ rfl _ _ (.inl (.tail _ (.tail _ (.head _)))) _ Tryz.underlying22 rfl _ (mgk_get' (by omega)), ?_⟩; simp only [Act.put, List.setIfInBounds_toArray, List.set_cons_succ, List.set_cons_zero]))
        | (refine S_run rfl rfl ?_; apply Exists.intro; refine ⟨fun _ => ?_, ?_⟩; (focus (go_simp; (try go_bits); exact rfl)); simp only [Act.put, List.setIfInBounds_toArray, List.set_cons_succ, List.set_cons_zero]))
      refine S_end0 ?_; clear hS; intro _ hS
      go_wp2_with (first | ((with_reducible refine L_storeAt 27 ?_); (refine L_store (t := 22) hS rfl rfl ?_; refine ⟨_, _, mgk 32 (N / p % pw (k + 1)), _, _, (.head), run_store_cell hS _ _ _ rfl _ _ rfl _ rfl _ _ _ (.head) size22 rfl rfl ?_ ?_, ?_⟩; (focus (rw [mgk_size]; omega)); (focus (exact (mgk_fill' _ (R % 4294967296) rfl HS.out (Nat.mod_lt _ (by omega))).trans (congrArg (mgk 32) HE.out))); clear hS; intro _ hS)))
      go_roundw
      case rel => exact ⟨k + 1, by omega, by go_num, hS⟩
      case measure => simp [intOf]; omega
    · have ek : k = 32 := by omega
      subst ek
      go_wp2_with (first | ((with_reducible refine L_slot 29 ?_); (refine L_load (t := 119) rfl rfl ?_; refine ⟨_, run_load_row hS _ _ rfl _ rfl _ _ (.inl (.head _)) _ Tryz.underlying119 rfl (size119_mg _), ?_⟩)) | ((with_reducible refine L_storeAt 4 ?_); (refine L_store (t := 119) hS rfl rfl ?_; refine ⟨_, _, _, _, _, (.tail .head), run_store_row hS _ _ _ rfl _ rfl _ _ rfl _ (.tail .head) (size119_mg _) (mg_sizes _ _ _) (oneCells _ _), ?_⟩; clear hS; intro _ hS)))
      (try simp only [Exit.inBlock, Exit.then]); refine bodyPost_ret (res_cell rfl hS _ _ _ _ (.inl (.tail _ (.head _))) rfl _ Tryz.underlying119 rfl (size119_mg _)) rfl ⟨?_, hS.below⟩
      rw [Nat.mod_eq_of_lt HN.out]
theorem shiftRight_any (N s : Nat) (hN : N / 2 ^ s < pw 32) (hs : s < 32) : Gives Tryz.prog 200 #[.agg (mgk 33 N), .int .i64 ((s : Nat) : Int)] (.agg (mgk 32 (N / 2 ^ s))) :=
  shiftRight_core N s (2 ^ s) (2 ^ (32 - s)) hN hs rfl (Nat.pow_pos (by omega)) (by rw [← Nat.pow_add, show s + (32 - s) = 32 by omega])
end Go.Proofs.YtkiefjbfepjcbaaGreatDoor
end
section
namespace Go.Proofs.YtkiefjbfepjcbaaGreatDoor
open Go.RowKit Go.Proofs.YtkiefjbfepjcbaaGreatDoor.Sx
set_option linter.unusedSimpArgs false
set_option linter.unusedVariables false

theorem two_split (s : Nat) : 2 ^ s = pw (s / 32) * 2 ^ (s % 32) := by
  unfold pw
  rw [show (4294967296 : Nat) = 2 ^ 32 by rfl, ← Nat.pow_mul, ← Nat.pow_add, Nat.div_add_mod]
theorem shr_parts (N s i : Nat) : N / 2 ^ s = N / pw (s / 32) / 2 ^ (s % 32) := by
  rw [two_split s, Nat.div_div_eq_div_mul]
theorem pq32 {r : Nat} (h : r ≤ 32) : 2 ^ r * 2 ^ (32 - r) = 4294967296 := by
  rw [← Nat.pow_add, show r + (32 - r) = 32 by omega]
theorem shrd_limb (N k r i : Nat) (hr : r ≤ 32) : limb (N / pw k / 2 ^ r) i = (limb N (i + k + 1) * 2 ^ (32 - r)) % 4294967296 + limb N (i + k) / 2 ^ r := by
  rw [shr_limb (pq32 hr) (Nat.two_pow_pos r), ← limb_up, ← limb_up, show k + (i + 1) = i + k + 1 by omega, show k + i = i + k by omega]
  have hx := limb_lt N (i + k)
  obtain ⟨x, hxx⟩ : ∃ x, x = limb N (i + k) := ⟨_, rfl⟩
  obtain ⟨y, hyy⟩ : ∃ x, x = limb N (i + k + 1) := ⟨_, rfl⟩
  have hpq := pq32 hr
  have hp := Nat.two_pow_pos r
  have hq := Nat.two_pow_pos (32 - r)
  rw [← hxx, ← hyy]
  rw [← hxx] at hx
  generalize 2 ^ r = p at *
  generalize 2 ^ (32 - r) = q at *
  have h1 : (y * 4294967296 + x) / p = y * q + x / p := by
    rw [← hpq, show y * (p * q) + x = x + y * q * p by rw [Nat.mul_comm p q]; rw [Nat.mul_assoc]; omega, Nat.add_mul_div_right _ _ hp, Nat.add_comm]
  have h2 : x / p < q := by rw [Nat.div_lt_iff_lt_mul hp, Nat.mul_comm, hpq]; exact hx
  rw [h1]
  have h3 : (y * q) % 4294967296 = (y % p) * q := by
    rw [← hpq, Nat.mul_mod_mul_right]
  have h4 : (y % p) * q + q ≤ 4294967296 := by
    have : (y % p + 1) * q ≤ p * q := Nat.mul_le_mul_right _ (Nat.mod_lt _ hp)
    rw [Nat.add_mul, Nat.one_mul, hpq] at this
    exact this
  rw [h3]
  have h5 : (y * q + x / p) % 4294967296 = ((y * q) % 4294967296 + x / p) % 4294967296 := by omega
  rw [h5, h3, Nat.mod_eq_of_lt (by omega)]
theorem shr_or (y x r : Nat) (hx : x < 4294967296) (hr : r ≤ 32) : ariI .or .u32 ((x / 2 ^ r : Nat) : Int) ((y * 2 ^ (32 - r) % 4294967296 : Nat) : Int) = ((y * 2 ^ (32 - r) % 4294967296 + x / 2 ^ r : Nat) : Int) := by
  have hpq := pq32 hr
  have hp := Nat.two_pow_pos r
  have hq := Nat.two_pow_pos (32 - r)
  have h2 : x / 2 ^ r < 2 ^ (32 - r) := by rw [Nat.div_lt_iff_lt_mul hp, Nat.mul_comm, hpq]; exact hx
  have h3 : (y * 2 ^ (32 - r)) % 4294967296 = (y % 2 ^ r) * 2 ^ (32 - r) := by
    rw [← hpq, Nat.mul_mod_mul_right]
  have h4 : (y * 2 ^ (32 - r)) % 4294967296 % 2 ^ (32 - r) = 0 := by rw [h3]; exact Nat.mul_mod_left ..
  have h5 : 2 ^ (32 - r) ≤ 4294967296 := by rw [show (4294967296 : Nat) = 2 ^ 32 by rfl]; exact Nat.pow_le_pow_right (by omega) (by omega)
  have h6 : (y * 2 ^ (32 - r)) % 4294967296 < 4294967296 := Nat.mod_lt _ (by omega)
  have := u32_or_nat (x / 2 ^ r) ((y * 2 ^ (32 - r)) % 4294967296) (by omega) h6
  rw [Nat.or_comm, nat_join (32 - r) _ _ h4 h2] at this
  exact this
theorem tdivN (a b : Nat) : ((a : Nat) : Int).tdiv ((b : Nat) : Int) = ((a / b : Nat) : Int) := rfl
theorem tmodN (a b : Nat) : ((a : Nat) : Int).tmod ((b : Nat) : Int) = ((a % b : Nat) : Int) := rfl
theorem limb_row {N i : Nat} (h : True) : (N % pw (i + 1)) = put (N % pw i) i (limb N i) := by
  rw [put_low _ (Nat.mod_lt _ (pw_pos i)), mod_pw]
theorem put_put (n j v w : Nat) (hv : v < 4294967296) (hw : w < 4294967296) : put (put n j v) j w = put n j w := by
  have h := put_add (put n j v) j w
  have h1 := put_add n j v
  have h2 := put_add n j w
  rw [limb_put _ _ _ _ hv, if_pos rfl] at h
  omega
set_option maxHeartbeats 2000000 in
theorem rshifted_loop (n s : Nat) (hn : n < pw 32) (hs : s ≤ 1024) (A : Nat) (hA : A = n / 2 ^ s) :
    Ev.holds Tryz.prog (env [.agg (mgk 32 n), .int .i64 (s : Nat), .int .i64 (32 - s / 32 : Nat), .agg (mgk 32 A)]) (.loop 158 0 divS158_0 divH158_0 (.exit 0) .none 2) := by
  have hq : (s : Int).tdiv 32 = ((s / 32 : Nat) : Int) := tdivN s 32
  have hr : (s : Int).tmod 32 = ((s % 32 : Nat) : Int) := tmodN s 32
  have hAk : A = n / pw (s / 32) / 2 ^ (s % 32) := by rw [hA, shr_parts n s 0]
  have hk : s / 32 ≤ 32 := by omega
  have hr2 : s % 32 ≤ 31 := by omega
  obtain ⟨k, hkk⟩ : ∃ k, k = s / 32 := ⟨_, rfl⟩
  obtain ⟨r, hrr⟩ : ∃ k, k = s % 32 := ⟨_, rfl⟩
  rw [← hkk] at hq hAk hk ⊢
  rw [← hrr] at hr hAk hr2
  refine loop_holds plain (m := 2) (x := .exit 0) (alt := none) [.agg (mgk 32 n), .int .i64 (s : Nat)] [.int .i64 (32 - k : Nat), .agg (mgk 32 A)] tShifted0_ok tShifted0_fine
    (fun vs => ∃ i : Nat, i ≤ 32 - k ∧ vs = [.int .i64 (i : Nat), .agg (mgk 32 (A % pw i))])
    (fun vs => 32 - (vInt (vs.getD 0 undef)).toNat) tShifted0_diff ?_ ?_
  · refine ⟨[.int .i64 (0 : Nat), .agg (mgk 32 (A % pw 0))], rfl, ⟨0, by omega, rfl⟩, ?_⟩
    have hz : rowCells (.agg (mgk 32 (A % pw 0))) 32 = List.replicate 32 (.int .u32 0) := by rw [rowCells_mgk, mod_pw_zero, mgl_zero]
    simp [tShifted0_d, BTm.den, Tm.i, Tm.s, Tm.den, env, vInt, vBool, vStr, exI, SW.den, SV.den, Cell.den, densP, Piece.den, denV, denT, hz]
  · rintro vs hl ⟨i, hi, rfl⟩
    clear hl
    have hsum : ((i : Int) + (k : Int)) = ((i + k : Nat) : Int) := by push_cast; rfl
    have hsum1 : ((i : Int) + (k : Int) + 1) = ((i + k + 1 : Nat) : Int) := by push_cast; rfl
    refine tree_ite ?_
    refine ev_fits ((i + k : Nat) : Int) (by simp [BTm.den, Tm.i, Tm.s, Tm.den, env, vInt, vBool, vStr, exI, hq]) (rng_i64 _ (by omega)) ?_
    refine ev_nil ⟨fun hlt => tree_ite ?_, fun hlt => tree_leaf (ev_nil ?_)⟩
    · have hlt : i + k < 32 := by
        have : (i : Int) + (k : Int) < 32 := by simpa [BTm.den, Tm.i, Tm.s, Tm.den, env, vInt, vBool, vStr, exI, hq] using hlt
        omega
      have hx := limb_lt n (i + k)
      have hy := limb_lt n (i + k + 1)
      have hL : limb A i = limb n (i + k + 1) * 2 ^ (32 - r) % 4294967296 + limb n (i + k) / 2 ^ r := by rw [hAk]; exact shrd_limb n k r i (by omega)
      have hor := shr_or (limb n (i + k + 1)) (limb n (i + k)) r hx (by omega)
      have hsl := shl32_of (limb n (i + k + 1)) (32 - r) (2 ^ (32 - r)) (by omega) rfl
      have hsr := shr_of (k := .u32) (limb n (i + k)) r (2 ^ r) (by show r ≤ 32; omega) rfl
      have hlr : limb n (i + k) / 2 ^ r < 4294967296 := Nat.lt_of_le_of_lt (Nat.div_le_self _ _) hx
      have hLl := limb_lt A i
      have hrow := limb_row (N := A) (i := i) trivial
      rw [← hL] at hor
      obtain ⟨L, hLL⟩ : ∃ L, L = limb A i := ⟨_, rfl⟩
      rw [← hLL] at hL hor hLl hrow
      obtain ⟨X, hX⟩ : ∃ L, L = limb n (i + k) / 2 ^ r := ⟨_, rfl⟩
      obtain ⟨Y, hY⟩ : ∃ L, L = limb n (i + k + 1) * 2 ^ (32 - r) % 4294967296 := ⟨_, rfl⟩
      rw [← hX] at hlr hsr hor hL
      rw [← hY] at hsl hor hL
      obtain ⟨W, hW⟩ : ∃ W, W = A % pw i := ⟨_, rfl⟩
      obtain ⟨W', hW'⟩ : ∃ W, W = A % pw (i + 1) := ⟨_, rfl⟩
      rw [← hW, ← hW'] at hrow
      rw [← hW]
      refine ev_fits ((i + k : Nat) : Int) (by simp [BTm.den, Tm.i, Tm.s, Tm.den, env, vInt, vBool, vStr, exI, hq]) (rng_i64 _ (by omega)) ?_
      refine ev_need (by simp [BTm.den, Tm.i, Tm.s, Tm.den, env, vInt, vBool, vStr, exI, hq] <;> omega) ?_
      refine ev_need (by simp [BTm.den, Tm.i, Tm.s, Tm.den, env, vInt, vBool, vStr, exI, hq] <;> omega) ?_
      refine ev_elem [.int .u32 (limb n (i + k) : Nat)] rfl rfl (l := mgl 32 n) (m := [.int .u32 (limb n (i + k) : Nat)]) (k := i + k) (by simp [BTm.den, Tm.i, Tm.s, Tm.den, env, vInt, vBool, vStr, exI, hq] <;> omega) (fun β => rowCells_mgk 32 n) (fun β => rfl) (mgl_elem (by omega)) ?_
      refine ev_need (by simp [BTm.den, Tm.i, Tm.s, Tm.den, env, vInt, vBool, vStr, exI, hr]) ?_
      refine ev_need (by simp [BTm.den, Tm.i, Tm.s, Tm.den, env, vInt, vBool, vStr, exI] <;> omega) ?_
      refine ev_need (by simp [BTm.den, Tm.i, Tm.s, Tm.den, env, vInt, vBool, vStr, exI] <;> omega) ?_
      have hput : mgl 32 (put W i X) = (mgl 32 W).take i ++ [.int .u32 (X : Nat)] ++ (mgl 32 W).drop (i + 1) := mgl_put (by omega) rfl hlr
      refine ev_put [.agg (mgk 32 (put W i X))] rfl rfl (l := mgl 32 W) (l' := mgl 32 (put W i X)) (m := [.int .u32 (X : Nat)]) (k := i) (by simp [BTm.den, Tm.i, Tm.s, Tm.den, env, vInt, vBool, vStr, exI] <;> omega) (fun β => rowCells_mgk 32 _) (fun β => rowCells_mgk 32 _) (fun β => ?_) hput (by rw [mgl_length]; simp; omega) ?_
      · simp [BTm.den, Tm.i, Tm.s, Tm.den, env, vInt, vBool, vStr, exI, SW.den, SV.den, Cell.den, densP, Piece.den, denV, denT, hr, hsr]
      have hfin : X = L → W' = put W i X := fun h => by rw [h]; exact hrow
      refine ev_nil ⟨fun h0 => tree_ite ?_, fun h0 => tree_leaf ?_⟩
      · have h0 : 0 < r := by simpa [BTm.den, Tm.i, Tm.s, Tm.den, env, vInt, vBool, vStr, exI, hr] using h0
        refine ev_fits ((i + k : Nat) : Int) (by simp [BTm.den, Tm.i, Tm.s, Tm.den, env, vInt, vBool, vStr, exI, hq]) (rng_i64 _ (by omega)) ?_
        refine ev_fits ((i + k + 1 : Nat) : Int) (by simp [BTm.den, Tm.i, Tm.s, Tm.den, env, vInt, vBool, vStr, exI, hq]) (rng_i64 _ (by omega)) ?_
        refine ev_nil ⟨fun h1 => tree_leaf ?_, fun h1 => tree_leaf ?_⟩
        · have h1 : i + k + 1 < 32 := by
            have : (i : Int) + (k : Int) + 1 < 32 := by simpa [BTm.den, Tm.i, Tm.s, Tm.den, env, vInt, vBool, vStr, exI, hq] using h1
            omega
          have hX2 : ((mgl 32 (put W i X)).drop i).take 1 = [.int .u32 ((X : Nat) : Int)] := by
            have := mgl_elem (n := put W i X) (show i < 32 by omega)
            rwa [limb_put _ _ _ _ hlr, if_pos rfl] at this
          refine ev_need (by simp [BTm.den, Tm.i, Tm.s, Tm.den, env, vInt, vBool, vStr, exI] <;> omega) ?_
          refine ev_need (by simp [BTm.den, Tm.i, Tm.s, Tm.den, env, vInt, vBool, vStr, exI] <;> omega) ?_
          refine ev_elem [.int .u32 (X : Nat)] rfl rfl (l := mgl 32 (put W i X)) (m := [.int .u32 (X : Nat)]) (k := i) (by simp [BTm.den, Tm.i, Tm.s, Tm.den, env, vInt, vBool, vStr, exI] <;> omega) (fun β => rowCells_mgk 32 _) (fun β => rfl) (hX2) ?_
          refine ev_fits ((i + k : Nat) : Int) (by simp [BTm.den, Tm.i, Tm.s, Tm.den, env, vInt, vBool, vStr, exI, hq]) (rng_i64 _ (by omega)) ?_
          refine ev_fits ((i + k + 1 : Nat) : Int) (by simp [BTm.den, Tm.i, Tm.s, Tm.den, env, vInt, vBool, vStr, exI, hq]) (rng_i64 _ (by omega)) ?_
          refine ev_need (by simp [BTm.den, Tm.i, Tm.s, Tm.den, env, vInt, vBool, vStr, exI, hq] <;> omega) ?_
          refine ev_need (by simp [BTm.den, Tm.i, Tm.s, Tm.den, env, vInt, vBool, vStr, exI, hq] <;> omega) ?_
          refine ev_elem [.int .u32 (limb n (i + k + 1) : Nat)] rfl rfl (l := mgl 32 n) (m := [.int .u32 (limb n (i + k + 1) : Nat)]) (k := i + k + 1) (by simp [BTm.den, Tm.i, Tm.s, Tm.den, env, vInt, vBool, vStr, exI, hq] <;> omega) (fun β => rowCells_mgk 32 n) (fun β => rfl) (mgl_elem (by omega)) ?_
          have hsub : ariI .sub .u64 32 ((r : Nat) : Int) = ((32 - r : Nat) : Int) := by
            simp only [ariI, IntKind.wrap_u64]; omega
          refine ev_need (by simp [BTm.den, Tm.i, Tm.s, Tm.den, env, vInt, vBool, vStr, exI, hr, hsub]) ?_
          refine ev_need (by simp [BTm.den, Tm.i, Tm.s, Tm.den, env, vInt, vBool, vStr, exI] <;> omega) ?_
          refine ev_need (by simp [BTm.den, Tm.i, Tm.s, Tm.den, env, vInt, vBool, vStr, exI] <;> omega) ?_
          have hput2 : mgl 32 W' = (mgl 32 (put W i X)).take i ++ [.int .u32 (L : Nat)] ++ (mgl 32 (put W i X)).drop (i + 1) := by
            rw [hrow, ← put_put W i X L hlr hLl]; exact mgl_put (by omega) rfl hLl
          refine ev_put [.agg (mgk 32 W')] rfl rfl (l := mgl 32 (put W i X)) (l' := mgl 32 W') (m := [.int .u32 (L : Nat)]) (k := i) (by simp [BTm.den, Tm.i, Tm.s, Tm.den, env, vInt, vBool, vStr, exI] <;> omega) (fun β => rowCells_mgk 32 _) (fun β => rowCells_mgk 32 _) (fun β => ?_) hput2 (by rw [mgl_length]; simp; omega) ?_
          · rw [← hor, ← hsl, ← hsub, ← hr]; simp [BTm.den, Tm.i, Tm.s, Tm.den, env, vInt, vBool, vStr, exI, SW.den, SV.den, Cell.den, densP, Piece.den, denV, denT]
          refine ev_fits (((i + 1 : Nat) : Int)) (by simp [BTm.den, Tm.i, Tm.s, Tm.den, env, vInt, vBool, vStr, exI]) (rng_i64 _ (by omega)) ?_
          refine ev_nil ⟨[.int .i64 (i + 1 : Nat), .agg (mgk 32 W')], rfl, ⟨i + 1, by omega, by rw [hW']⟩, ?_, ?_⟩
          · simp [vInt]; omega
          · simp [BTm.den, Tm.i, Tm.s, Tm.den, env, vInt, vBool, vStr, exI, SW.den, SV.den, Cell.den, densP, Piece.den, denV, denT]
        · have h1 : i + k + 1 = 32 := by
            have : ¬ (i : Int) + (k : Int) + 1 < 32 := by simpa [BTm.den, Tm.i, Tm.s, Tm.den, env, vInt, vBool, vStr, exI, hq] using h1
            omega
          have hY0 : Y = 0 := by rw [hY, h1, limb_of_ge hn, Nat.zero_mul, Nat.zero_mod]
          have e := hfin (by omega)
          refine ev_fits (((i + 1 : Nat) : Int)) (by simp [BTm.den, Tm.i, Tm.s, Tm.den, env, vInt, vBool, vStr, exI]) (rng_i64 _ (by omega)) ?_
          rw [← e]
          refine ev_nil ⟨[.int .i64 (i + 1 : Nat), .agg (mgk 32 W')], rfl, ⟨i + 1, by omega, by rw [hW']⟩, ?_, ?_⟩
          · simp [vInt]; omega
          · simp [BTm.den, Tm.i, Tm.s, Tm.den, env, vInt, vBool, vStr, exI, SW.den, SV.den, Cell.den, densP, Piece.den, denV, denT]
      · have h0 : r = 0 := by
          have : ¬ 0 < r := by simpa [BTm.den, Tm.i, Tm.s, Tm.den, env, vInt, vBool, vStr, exI, hr] using h0
          omega
        have hY0 : Y = 0 := by rw [hY, h0, show (2 : Nat) ^ (32 - 0) = 4294967296 by rfl, Nat.mul_mod_left]
        have e := hfin (by omega)
        refine ev_fits (((i + 1 : Nat) : Int)) (by simp [BTm.den, Tm.i, Tm.s, Tm.den, env, vInt, vBool, vStr, exI]) (rng_i64 _ (by omega)) ?_
        rw [← e]
        refine ev_nil ⟨[.int .i64 (i + 1 : Nat), .agg (mgk 32 W')], rfl, ⟨i + 1, by omega, by rw [hW']⟩, ?_, ?_⟩
        · simp [vInt]; omega
        · simp [BTm.den, Tm.i, Tm.s, Tm.den, env, vInt, vBool, vStr, exI, SW.den, SV.den, Cell.den, densP, Piece.den, denV, denT]
    · have hlt : i = 32 - k := by
        have : ¬ (i : Int) + (k : Int) < 32 := by simpa [BTm.den, Tm.i, Tm.s, Tm.den, env, vInt, vBool, vStr, exI, hq] using hlt
        omega
      subst hlt
      refine ⟨rfl, ?_⟩
      have hAs : A % pw (32 - k) = A := by
        refine Nat.mod_eq_of_lt ?_
        rw [hAk]
        refine Nat.lt_of_le_of_lt (Nat.div_le_self _ _) ?_
        rw [Nat.div_lt_iff_lt_mul (pw_pos k), ← pw_add, show 32 - k + k = 32 by omega]; exact hn
      rw [hAs]
      simp [BTm.den, Tm.i, Tm.s, Tm.den, env, vInt, vBool, vStr, exI, SW.den, SV.den, Cell.den, densP, Piece.den, denV, denT]
theorem rshifted (n s : Nat) (hn : n < pw 32) (hs : s ≤ 1024) : Gives Tryz.prog 158 #[.agg (mgk 32 n), .int .i64 ((s : Nat) : Int)] (.agg (mgk 32 (n / 2 ^ s))) := by
  obtain ⟨A, hA⟩ : ∃ A, A = n / 2 ^ s := ⟨_, rfl⟩
  have hl := rshifted_loop n s hn hs A hA
  rw [← hA]
  have hq : (s : Int).tdiv 32 = ((s / 32 : Nat) : Int) := tdivN s 32
  have hr : (s : Int).tmod 32 = ((s % 32 : Nat) : Int) := tmodN s 32
  have h := pure_of plain [.agg (mgk 32 n), .int .i64 (s : Nat)] tShifted_ok (by kernel_rfl) (.agg (mgk 32 A)) (tree_leaf ?_)
  · refine gives_pure ?_
    simpa [rowB, BTm.den, Tm.i, Tm.s, Tm.den, env, vInt, vBool, vStr, exI, SW.den, SV.den, Cell.den, densP, Piece.den, denV, denT, rowCells_mgk, mgl_agg] using h
  · refine ev_fits ((s / 32 : Nat) : Int) (by simp [BTm.den, Tm.i, Tm.s, Tm.den, env, vInt, vBool, vStr, exI, hq]) (rng_i64 _ (by omega)) ?_
    refine ev_fits ((s % 32 : Nat) : Int) (by simp [BTm.den, Tm.i, Tm.s, Tm.den, env, vInt, vBool, vStr, exI, hr]) (rng_i64 _ (by omega)) ?_
    refine ev_fits ((s % 32 : Nat) : Int) (by simp [BTm.den, Tm.i, Tm.s, Tm.den, env, vInt, vBool, vStr, exI, hr]) (rng_u64 _ (by omega)) ?_
    refine ev_loop [.int .i64 (32 - s / 32 : Nat), .agg (mgk 32 A)] rfl rfl hl (ev_nil fun β => ?_)
    simp [BTm.den, Tm.i, Tm.s, Tm.den, env, vInt, vBool, vStr, exI, SW.den, SV.den, Cell.den, densP, Piece.den, denV, denT, rowCells_mgk, mgl_agg]
end Go.Proofs.YtkiefjbfepjcbaaGreatDoor
end
