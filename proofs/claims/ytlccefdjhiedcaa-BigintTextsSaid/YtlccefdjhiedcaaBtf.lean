/- Merged: SxP, Plus, Mul, Wa, Wb, Wc, Wd, Ra, Rb, Qb, Div, Wf, Qk, Xb, Xa, Xc, Xe, Xh, Xi, Rc, Rd, Tb, Tp, New, Wg. -/
import Derived.Test.YtlccefdjhiedcaaBtd
import Derived.Test.YtlccefdjhiedcaaBta
import Derived.Test.YtlccefdjhiedcaaBte
import Derived.OrdersHeld
import Derived.Deep.LoopGhost
section
namespace Go.Proofs.Ytlccefdjhiedcaa
open Go.Proofs.Ytlccefdjhiedcaa.Sx

namespace Sx
instance (priority := low) noOuter : Outer := ⟨[]⟩
theorem pure_of {P : Program} (hP : Plain P) {cfg : Cfg} {f : FuncId} {args : List SW} {T : Tree Out} (ρ : List Value) (hT : treeOf P cfg f args [] 0 ρ.length = T) (hu : argsUnder args [] ρ.length = true) (v : Value)
    (h : T.den P (fun ρ' ret => ∀ β, ret.val.den (env ρ') β = v) ρ) : Pure P f (denT (env ρ) (fun _ => 0) args) v :=
  fun w => reads_of hP ρ hT hu v h w fun x hx => by cases hx
end Sx
section
variable [Outer]
variable {P : Program} {K : List Value → Prop} {es : List Ev} {ρ ρ' : List Value}
theorem ev_nil (h : K ρ) : evDen P K [] ρ := h
theorem ev_need {b : BTm} (h : b.den (env ρ) = true) (hK : evDen P K es ρ) : evDen P K (.need b :: es) ρ := ⟨h, hK⟩
theorem ev_fits {k : IntKind} {t : Tm} (z : Int) (hz : t.i (env ρ) = z) (h : k.min ≤ z ∧ z ≤ k.max) (hK : evDen P K es ρ) : evDen P K (.fits k t :: es) ρ := ⟨by rw [hz]; exact h, hK⟩
theorem ev_same {t : TypeId} {x y : SV} {i : Nat} (b : Bool) (hρ : ρ ++ [.bool b] = ρ') {u v : Value} (hx : ∀ β, x.den (env ρ) β = u) (hy : ∀ β, y.den (env ρ) β = v) (h : SameFact P t u v b) (hK : evDen P K es ρ') : evDen P K (.same t x y i :: es) ρ :=
  ⟨b, fun β => by rw [hx, hy]; exact h, by rw [hρ]; exact hK⟩
theorem ev_call {f : FuncId} {xs : List SV} {r : SW} {n : Nat} (vs : List Value) (hl : vs.length = n) (hρ : ρ ++ vs = ρ') {args : Array Value} {v : Value} (h : Pure P f args v) (ha : ∀ β, denV (env ρ) β xs = args) (hv : ∀ β, r.den (env ρ') β = v) (hK : evDen P K es ρ') : evDen P K (.call f xs r n :: es) ρ :=
  ⟨vs, hl, fun β => by rw [ha, hρ, hv]; exact h, by rw [hρ]; exact hK⟩
theorem ev_elem {s : Piece} {i : Tm} {e fo : Nat} {ps : List Piece} {n : Nat} (vs : List Value) (hl : vs.length = n) (hρ : ρ ++ vs = ρ') {l m : List Value} {k : Nat} (hi : (i.i (env ρ')).toNat * e + fo = k) (hs : ∀ β, s.den (env ρ') β = l) (hp : ∀ β, densP (env ρ') β ps = m) (h : (l.drop k).take m.length = m) (hK : evDen P K es ρ') :
    evDen P K (.elem s i e fo ps n :: es) ρ :=
  ⟨vs, hl, fun β => by rw [hρ, hi, hs, hp]; exact h, by rw [hρ]; exact hK⟩
theorem ev_put {s : Piece} {i : Tm} {e fo : Nat} {ps : List Piece} {q : Piece} {n : Nat} (vs : List Value) (hl : vs.length = n) (hρ : ρ ++ vs = ρ') {l l' m : List Value} {k : Nat} (hi : (i.i (env ρ')).toNat * e + fo = k) (hs : ∀ β, s.den (env ρ') β = l) (hq : ∀ β, q.den (env ρ') β = l') (hp : ∀ β, densP (env ρ') β ps = m)
    (h : l' = l.take k ++ m ++ l.drop (k + m.length)) (hk : k + m.length ≤ l.length) (hK : evDen P K es ρ') : evDen P K (.put s i e fo ps q n :: es) ρ :=
  ⟨vs, hl, fun β => by rw [hρ, hi, hs, hp, hq]; exact ⟨h, hk⟩, by rw [hρ]; exact hK⟩
theorem ev_join {ps : List Piece} {l : List (List Piece × Tm)} {e n : Nat} (vs : List Value) (hl : vs.length = n) (hρ : ρ ++ vs = ρ') (h : ∀ β, densP (env ρ') β ps = denJ (env ρ') β l) (hp : ∀ β, partsOk (env ρ') β e l) (hK : evDen P K es ρ') : evDen P K (.join ps l e n :: es) ρ :=
  ⟨vs, hl, by rw [hρ]; exact fun β => ⟨h β, hp β⟩, by rw [hρ]; exact hK⟩
theorem ev_loop {f k : Nat} {st st' : Sx.St} {x : SExit} {alt : Option (Nat × SExit)} {n : Nat} (vs : List Value) (hl : vs.length = n) (hρ : ρ ++ vs = ρ') (h : Ev.holds P (env ρ') (.loop f k st st' x alt n)) (hK : evDen P K es ρ') : evDen P K (.loop f k st st' x alt n :: es) ρ :=
  ⟨vs, hl, by rw [hρ]; exact h, by rw [hρ]; exact hK⟩
theorem tree_leaf {α : Type} {Q : List Value → α → Prop} {ret : α} (h : evDen P (fun ρ' => Q ρ' ret) es ρ) : (Tree.leaf es ret).den P Q ρ := h
theorem tree_ite {α : Type} {Q : List Value → α → Prop} {c : BTm} {t e : Tree α} (h : evDen P (fun ρ' => (c.den (env ρ') = true → t.den P Q ρ') ∧ (c.den (env ρ') = false → e.den P Q ρ')) es ρ) : (Tree.ite es c t e).den P Q ρ := h
theorem way_true {α : Type} {Q : List Value → α → Prop} {c : BTm} {t e : Tree α} (hc : c.den (env ρ) = true) (h : t.den P Q ρ) : (c.den (env ρ) = true → t.den P Q ρ) ∧ (c.den (env ρ) = false → e.den P Q ρ) := ⟨fun _ => h, fun h2 => (by rw [hc] at h2; cases h2)⟩
theorem way_false {α : Type} {Q : List Value → α → Prop} {c : BTm} {t e : Tree α} (hc : c.den (env ρ) = false) (h : e.den P Q ρ) : (c.den (env ρ) = true → t.den P Q ρ) ∧ (c.den (env ρ) = false → e.den P Q ρ) := ⟨fun h2 => (by rw [hc] at h2; cases h2), fun _ => h⟩
end

theorem rng_i64 (z : Int) (h : -9223372036854775808 ≤ z ∧ z ≤ 9223372036854775807) : IntKind.i64.min ≤ z ∧ z ≤ IntKind.i64.max := by simpa [IntKind.min, IntKind.max, IntKind.signed, IntKind.bits] using h
theorem rng_u64 (z : Int) (h : 0 ≤ z ∧ z ≤ 18446744073709551615) : IntKind.u64.min ≤ z ∧ z ≤ IntKind.u64.max := by simpa [IntKind.min, IntKind.max, IntKind.signed, IntKind.bits] using h
theorem rng_u32 (z : Int) (h : 0 ≤ z ∧ z ≤ 4294967295) : IntKind.u32.min ≤ z ∧ z ≤ IntKind.u32.max := by simpa [IntKind.min, IntKind.max, IntKind.signed, IntKind.bits] using h
theorem rng_u8 (z : Int) (h : 0 ≤ z ∧ z ≤ 255) : IntKind.u8.min ≤ z ∧ z ≤ IntKind.u8.max := by simpa [IntKind.min, IntKind.max, IntKind.signed, IntKind.bits] using h
theorem wrap_u32 (n : Nat) : IntKind.u32.wrap ((n : Nat) : Int) = ((n % 4294967296 : Nat) : Int) := by rw [IntKind.wrap_u32]; omega

def mgl (k n : Nat) : List Value := (mgk k n).toList
theorem mgl_length (k n : Nat) : (mgl k n).length = k := by simp [mgl, mgk_size]
theorem fix_lv (n : Nat) : fix (lv n) = lv n := rfl
theorem rowCells_mgk (k n : Nat) : rowCells (.agg (mgk k n)) k = mgl k n := by
  unfold rowCells
  have : ((Value.agg (mgk k n)).cells.toList.map fix) = mgl k n := by
    show (mgk k n).toList.map fix = (mgk k n).toList
    rw [List.map_congr_left (g := id) fun x hx => ?_, List.map_id]
    have : x ∈ mgk k n := by simpa using hx
    obtain ⟨i, hi, rfl⟩ := Array.mem_iff_getElem.1 this
    simp [mgk, fix_lv]
  rw [this, List.take_append_of_le_length (by rw [mgl_length]; exact Nat.le_refl _), List.take_of_length_le (by rw [mgl_length]; exact Nat.le_refl _)]
theorem mgl_get {k n i : Nat} (h : i < k) : (mgl k n)[i]? = some (.int .u32 ((limb n i : Nat) : Int)) := by
  simp only [mgl, Array.getElem?_toList]; exact mgk_get' h
theorem take_one {l : List Value} {i : Nat} {v : Value} (h : l[i]? = some v) : (l.drop i).take 1 = [v] := by
  obtain ⟨hi, rfl⟩ := List.getElem?_eq_some_iff.1 h
  rw [List.drop_eq_getElem_cons hi]; rfl
theorem mgl_elem {k n i : Nat} (h : i < k) : ((mgl k n).drop i).take 1 = [.int .u32 ((limb n i : Nat) : Int)] := take_one (mgl_get h)
theorem mgl_put {k n i v : Nat} {z : Int} (h : i < k) (hz : z = ((v : Nat) : Int)) (hv : v < 4294967296) : mgl k (put n i v) = (mgl k n).take i ++ [.int .u32 z] ++ (mgl k n).drop (i + 1) := by
  have hk : i < (mgk k n).toList.length := by simp [mgk_size, h]
  rw [mgl, ← mgk_put' n v hz hv]
  simp only [Array.toList_setIfInBounds, mgl]
  rw [List.set_eq_take_append_cons_drop, if_pos hk]
  simp
theorem mgl_zero (k : Nat) : mgl k 0 = List.replicate k (.int .u32 0) := by simp [mgl, mgk_zero]
theorem mgl_agg (k n : Nat) : Value.agg (mgl k n).toArray = .agg (mgk k n) := by simp [mgl]
theorem iv_list (s : Bool) (n : Nat) : (Value.bool s :: mgl 32 n).toArray = iv s n := by
  apply Array.toList_inj.1; simp [iv, mgl]
theorem plain : Plain Try.prog where
  names := by
    intro f fn h
    have : (Try.prog.funcs.toList.all fun fn => !(fn.name == "runtime.NumGoroutine")) = true := by kernel_rfl
    have h2 := List.all_eq_true.1 this fn (by
      have := Array.mem_of_getElem? h
      simpa using this)
    simpa using h2
  order := by kernel_rfl
theorem pure_gives {f : FuncId} {args : Array Value} {v : Value} (h : Gives Try.prog f args v) : Pure Try.prog f args v := h
theorem gives_pure {f : FuncId} {args : Array Value} {v : Value} (h : Pure Try.prog f args v) : Gives Try.prog f args v := h
end Go.Proofs.Ytlccefdjhiedcaa
end
section
namespace Go.Proofs.Ytlccefdjhiedcaa

def psum (n m k : Nat) : Nat := (n % pw k + m % pw k) % pw k
def pcar (n m k : Nat) : Nat := (n % pw k + m % pw k) / pw k
theorem pcar_le (n m k : Nat) : pcar n m k ≤ 1 := by
  unfold pcar
  have h1 := Nat.mod_lt n (pw_pos k)
  have h2 := Nat.mod_lt m (pw_pos k)
  have : (n % pw k + m % pw k) / pw k < 2 := by rw [Nat.div_lt_iff_lt_mul (pw_pos k)]; omega
  omega
theorem psum_lt (n m k : Nat) : psum n m k < pw k := Nat.mod_lt _ (pw_pos k)
theorem p_split (n m k : Nat) : n % pw k + m % pw k = pcar n m k * pw k + psum n m k := by
  unfold pcar psum
  have := Nat.div_add_mod (n % pw k + m % pw k) (pw k)
  rw [Nat.mul_comm]; omega
theorem p_next (n m k : Nat) : n % pw (k + 1) + m % pw (k + 1) = (limb n k + limb m k + pcar n m k) * pw k + psum n m k := by
  have := p_split n m k
  rw [mod_pw, mod_pw, Nat.add_mul, Nat.add_mul]; omega
theorem split_next {t c k s : Nat} (h : t = c * pw k + s) (h1 : s < pw k) : t % pw (k + 1) = s + c % 4294967296 * pw k ∧ t / pw (k + 1) = c / 4294967296 := by
  subst h
  constructor
  · rw [pw_succ, Nat.mod_mul, Nat.add_comm (_ * pw k), Nat.add_mul_mod_self_right, Nat.mod_eq_of_lt h1, Nat.add_mul_div_right _ _ (pw_pos k), Nat.div_eq_of_lt h1, Nat.zero_add, Nat.mul_comm (pw k)]
  · rw [pw_succ, ← Nat.div_div_eq_div_mul, Nat.add_comm (_ * pw k), Nat.add_mul_div_right _ _ (pw_pos k), Nat.div_eq_of_lt h1, Nat.zero_add]
theorem psum_next (n m k : Nat) : psum n m (k + 1) = psum n m k + (limb n k + limb m k + pcar n m k) % 4294967296 * pw k :=
  (split_next (p_next n m k) (psum_lt n m k)).1
theorem pcar_next (n m k : Nat) : pcar n m (k + 1) = (limb n k + limb m k + pcar n m k) / 4294967296 :=
  (split_next (p_next n m k) (psum_lt n m k)).2
theorem psum_end {n m k : Nat} (hn : n < pw k) (hm : m < pw k) : psum n m k = (n + m) % pw k := by
  unfold psum; rw [Nat.mod_eq_of_lt hn, Nat.mod_eq_of_lt hm]
theorem pcar_end {n m k : Nat} (hn : n < pw k) (hm : m < pw k) : pcar n m k = 0 ↔ n + m < pw k := by
  unfold pcar; rw [Nat.mod_eq_of_lt hn, Nat.mod_eq_of_lt hm, Nat.div_eq_zero_iff_lt (pw_pos k)]
def addS (x y c : Nat) : Nat := (x + y + c) % 4294967296
def addC (x y c : Nat) : Nat := (x + y + c) / 4294967296
def subD (x y c : Nat) : Nat := (x + 4294967296 - y - c) % 4294967296
theorem addS_lt (x y c : Nat) : addS x y c < 4294967296 := Nat.mod_lt _ (by omega)
theorem subD_lt (x y c : Nat) : subD x y c < 4294967296 := Nat.mod_lt _ (by omega)
theorem pcar_zero (n m : Nat) : pcar n m 0 = 0 := by simp [pcar, mod_pw_zero]
theorem psum_zero (n m : Nat) : psum n m 0 = 0 := by simp [psum, mod_pw_zero]

def brw (x y c : Nat) : Nat := if x < y + c then 1 else 0
def mdif (n m k : Nat) : Nat := (n % pw k + pw k - m % pw k) % pw k
def mbrw (n m k : Nat) : Nat := if n % pw k < m % pw k then 1 else 0
theorem mbrw_le (n m k : Nat) : mbrw n m k ≤ 1 := by unfold mbrw; split <;> omega
theorem mdif_lt (n m k : Nat) : mdif n m k < pw k := Nat.mod_lt _ (pw_pos k)
theorem m_split (n m k : Nat) : n % pw k + mbrw n m k * pw k = m % pw k + mdif n m k := by
  have h1 := Nat.mod_lt n (pw_pos k)
  have h2 := Nat.mod_lt m (pw_pos k)
  unfold mdif mbrw
  generalize n % pw k = x at *
  generalize m % pw k = y at *
  split
  · rename_i h; rw [Nat.mod_eq_of_lt (by omega)]; omega
  · rename_i h
    rw [show x + pw k - y = x - y + pw k by omega, Nat.add_mod_right, Nat.mod_eq_of_lt (by omega)]; omega
theorem mbrw_next (n m k : Nat) : mbrw n m (k + 1) = brw (limb n k) (limb m k) (mbrw n m k) := by
  have h := m_split n m k
  have hb := mbrw_le n m k
  have hd := mdif_lt n m k
  have hp := pw_pos k
  have h1 := Nat.mod_lt n (pw_pos k)
  have h2 := Nat.mod_lt m (pw_pos k)
  unfold brw
  rw [mbrw, mod_pw, mod_pw]
  by_cases hc : limb n k < limb m k + mbrw n m k
  · rw [if_pos hc, if_pos]
    by_cases hm : mbrw n m k = 0
    · have : (limb n k + 1) * pw k ≤ limb m k * pw k := Nat.mul_le_mul_right _ (by omega)
      rw [Nat.add_mul] at this; omega
    · have e : mbrw n m k = 1 := by omega
      rw [e] at h hc
      have : limb n k * pw k ≤ limb m k * pw k := Nat.mul_le_mul_right _ (by omega)
      omega
  · rw [if_neg hc, if_neg]
    by_cases hm : mbrw n m k = 0
    · rw [hm] at h
      have : limb m k * pw k ≤ limb n k * pw k := Nat.mul_le_mul_right _ (by omega)
      omega
    · have e : mbrw n m k = 1 := by omega
      rw [e] at h hc
      have : (limb m k + 1) * pw k ≤ limb n k * pw k := Nat.mul_le_mul_right _ (by omega)
      rw [Nat.add_mul] at this; omega
theorem mdif_next (n m k : Nat) : mdif n m (k + 1) = mdif n m k + (limb n k + 4294967296 - limb m k - mbrw n m k) % 4294967296 * pw k := by
  have h := m_split n m k
  have h' := m_split n m (k + 1)
  have hb := mbrw_le n m k
  have e := mbrw_next n m k
  have hl := limb_lt n k
  have hl' := limb_lt m k
  have key : limb n k + brw (limb n k) (limb m k) (mbrw n m k) * 4294967296 = limb m k + mbrw n m k + (limb n k + 4294967296 - limb m k - mbrw n m k) % 4294967296 := by
    unfold brw; split <;> omega
  rw [e, mod_pw, mod_pw, pw_succ] at h'
  have k2 := congrArg (· * pw k) key
  simp only [Nat.add_mul] at k2
  rw [Nat.mul_assoc, Nat.mul_comm 4294967296] at k2
  omega
theorem mdif_end {n m k : Nat} (hn : n < pw k) (hm : m ≤ n) : mdif n m k = n - m := by
  unfold mdif; rw [Nat.mod_eq_of_lt hn, Nat.mod_eq_of_lt (show m < pw k by omega), show n + pw k - m = n - m + pw k by omega, Nat.add_mod_right, Nat.mod_eq_of_lt (by omega)]
theorem mbrw_zero (n m : Nat) : mbrw n m 0 = 0 := by simp [mbrw, mod_pw_zero]
theorem mdif_zero (n m : Nat) : mdif n m 0 = 0 := by simp [mdif, pw_zero, Nat.mod_one]

end Go.Proofs.Ytlccefdjhiedcaa
end
section
namespace Go.Proofs.Ytlccefdjhiedcaa

def mulV (a b i j : Nat) : Nat := (a % pw i) * b + limb a i * pw i * (b % pw j)
def mulT (a b i j W c : Nat) : Nat := c + (limb a i * limb b j + limb W (i + j))

theorem mulV_next (a b i j : Nat) : mulV a b i (j + 1) = mulV a b i j + limb a i * limb b j * pw (i + j) := by
  unfold mulV
  rw [mod_pw, Nat.mul_add, pw_add]
  have : limb a i * pw i * (limb b j * pw j) = limb a i * limb b j * (pw i * pw j) := by
    rw [Nat.mul_assoc, Nat.mul_assoc, Nat.mul_left_comm (pw i)]
  omega
theorem mulV_zero (a b i : Nat) : mulV a b i 0 = (a % pw i) * b := by unfold mulV; rw [mod_pw_zero]; simp
theorem mulV_round {a b i n : Nat} (hb : b < pw n) : mulV a b i n = (a % pw (i + 1)) * b := by
  unfold mulV
  rw [Nat.mod_eq_of_lt hb, mod_pw, Nat.add_mul]
theorem put_add (W j v : Nat) : put W j v + limb W j * pw j = W + v * pw j := by
  have h : limb W j * pw j ≤ W := by
    have := Nat.div_add_mod W (pw (j + 1))
    rw [mod_pw] at this; omega
  unfold put; omega
theorem mul_step {a b i j W c : Nat} (h : W + c * pw (i + j) = mulV a b i j) :
    put W (i + j) (mulT a b i j W c % 4294967296) + mulT a b i j W c / 4294967296 * pw (i + (j + 1)) = mulV a b i (j + 1) := by
  have h1 := put_add W (i + j) (mulT a b i j W c % 4294967296)
  have h2 : mulT a b i j W c % 4294967296 * pw (i + j) + mulT a b i j W c / 4294967296 * pw (i + (j + 1)) = mulT a b i j W c * pw (i + j) := by
    rw [show i + (j + 1) = i + j + 1 by omega, pw_succ, Nat.mul_comm (pw (i + j)) 4294967296, ← Nat.mul_assoc, ← Nat.add_mul]
    congr 1
    have := Nat.div_add_mod (mulT a b i j W c) 4294967296
    omega
  have h3 : mulT a b i j W c * pw (i + j) = c * pw (i + j) + limb a i * limb b j * pw (i + j) + limb W (i + j) * pw (i + j) := by
    unfold mulT; rw [Nat.add_mul, Nat.add_mul]; omega
  rw [mulV_next]
  omega
theorem mul_bound (x y : Nat) (hx : x < 4294967296) (hy : y < 4294967296) : x * y ≤ 18446744065119617025 := by
  have : x * y ≤ 4294967295 * 4294967295 := Nat.mul_le_mul (by omega) (by omega)
  omega
theorem mulT_lt {a b i j W c : Nat} (hc : c < 4294967296) : mulT a b i j W c ≤ 18446744073709551615 ∧ mulT a b i j W c / 4294967296 < 4294967296 := by
  have h1 := mul_bound _ _ (limb_lt a i) (limb_lt b j)
  have h2 := limb_lt W (i + j)
  unfold mulT
  omega
theorem mul_small {a b i n : Nat} (hb : b < pw n) : (a % pw i) * b < pw (i + n) := by
  rw [pw_add]
  exact Nat.mul_lt_mul_of_lt_of_le (Nat.mod_lt _ (pw_pos i)) (Nat.le_of_lt hb) (Nat.lt_of_le_of_lt (Nat.zero_le _) hb)
theorem mul_end {a b m : Nat} (ha : a < pw m) : (a % pw m) * b = a * b := by rw [Nat.mod_eq_of_lt ha]

theorem limb_up (n i k : Nat) : limb n (k + i) = limb (n / pw k) i := by
  unfold limb; rw [pw_add, Nat.div_div_eq_div_mul]
end Go.Proofs.Ytlccefdjhiedcaa
end
section
namespace Go.Proofs.Ytlccefdjhiedcaa
open Go.RowKit
def cmpv (n m : Nat) : Int := if n < m then -1 else if n = m then 0 else 1

set_option maxHeartbeats 400000 in
theorem add32 (x y c : Nat) (hx : x < 4294967296) (hy : y < 4294967296) (hc : c ≤ 1) :
    Gives Try.prog 83 #[.int .u32 x, .int .u32 y, .int .u32 c] (.tuple #[.int .u32 ((addS x y c : Nat) : Int), .int .u32 ((addC x y c : Nat) : Int)]) := by
  intro w
  go_enter Try.func83, Try.ntmps83
  go_wp2
  go_ret2
  exact ⟨ret2 (u32_eq (by show ((x : Int) + (y : Int) + (c : Int)) % 4294967296 = _; unfold addS; omega)) (u32_eq (by show ((x : Int) + (y : Int) + (c : Int)) / 4294967296 = _; unfold addC; omega)), Below.refl _ _⟩

theorem top32 (a : Nat) (h : a < 4294967296) : a.testBit 31 = decide (2147483648 ≤ a) := by
  rw [Nat.testBit_eq_decide_div_mod_eq, show (2 : Nat) ^ 31 = 2147483648 from rfl]
  congr 1
  rw [eq_iff_iff]; omega
theorem div_top (a : Nat) (h : a < 4294967296) : a / 2147483648 = (a.testBit 31).toNat := by
  rw [top32 a h]
  by_cases h2 : 2147483648 ≤ a <;> simp [h2] <;> omega
theorem sub32_nat (x y c : Nat) (hx : x < 4294967296) (hy : y < 4294967296) (hc : c ≤ 1) :
    (((4294967295 ^^^ x) &&& y) ||| ((4294967295 ^^^ (x ^^^ y)) &&& ((x + 4294967296 - y - c) % 4294967296))) / 2147483648 = brw x y c := by
  have h1 : (4294967295 ^^^ x) &&& y < 2 ^ 32 := Nat.and_lt_two_pow _ hy
  have h2 : (4294967295 ^^^ (x ^^^ y)) &&& ((x + 4294967296 - y - c) % 4294967296) < 2 ^ 32 := Nat.and_lt_two_pow _ (by omega)
  rw [div_top _ (Nat.or_lt_two_pow h1 h2)]
  simp only [Nat.testBit_or, Nat.testBit_and, Nat.testBit_xor]
  rw [top32 x hx, top32 y hy, top32 _ (show (x + 4294967296 - y - c) % 4294967296 < 4294967296 by omega), show Nat.testBit 4294967295 31 = true by decide]
  unfold brw
  by_cases a1 : 2147483648 ≤ x <;> by_cases a2 : 2147483648 ≤ y <;> by_cases a3 : 2147483648 ≤ (x + 4294967296 - y - c) % 4294967296 <;> simp [a1, a2, a3] <;> omega
theorem sub32_bits (x y c : Nat) (hx : x < 4294967296) (hy : y < 4294967296) (hc : c ≤ 1) :
    bits BinOp.or IntKind.u32 (bits BinOp.and IntKind.u32 (bits BinOp.xor IntKind.u32 IntKind.u32.max (x : Int)) (y : Int))
                (bits BinOp.and IntKind.u32
                  (bits BinOp.xor IntKind.u32 IntKind.u32.max (bits BinOp.xor IntKind.u32 (x : Int) (y : Int)))
                  (((x : Int) - (y : Int) - (c : Int)) % 4294967296)) / 2147483648 = ((brw x y c : Nat) : Int) := by
  have hd : ((x : Int) - (y : Int) - (c : Int)) % 4294967296 = (((x + 4294967296 - y - c) % 4294967296 : Nat) : Int) := by omega
  have hM : IntKind.u32.max = ((4294967295 : Nat) : Int) := by rfl
  have hM2 : (4294967295 : Nat) < 2 ^ 32 := by decide
  have hxy : x ^^^ y < 4294967296 := Nat.xor_lt_two_pow (n := 32) hx hy
  have hnx : 4294967295 ^^^ x < 4294967296 := Nat.xor_lt_two_pow (n := 32) hM2 hx
  have hnxy : 4294967295 ^^^ (x ^^^ y) < 4294967296 := Nat.xor_lt_two_pow (n := 32) hM2 hxy
  have h1 : (4294967295 ^^^ x) &&& y < 4294967296 := Nat.and_lt_two_pow (n := 32) _ hy
  have h2 : (4294967295 ^^^ (x ^^^ y)) &&& ((x + 4294967296 - y - c) % 4294967296) < 4294967296 := Nat.and_lt_two_pow (n := 32) _ (by omega)
  rw [hd, hM, u32_xor_nat _ _ hx hy, u32_xor_nat _ _ (by omega) hx, u32_xor_nat _ _ (by omega) hxy, u32_and_nat _ _ hnx hy, u32_and_nat _ _ hnxy (by omega), u32_or_nat _ _ h1 h2, ← sub32_nat x y c hx hy hc]
  rfl
set_option maxHeartbeats 400000 in
theorem sub32 (x y c : Nat) (hx : x < 4294967296) (hy : y < 4294967296) (hc : c ≤ 1) :
    Gives Try.prog 84 #[.int .u32 x, .int .u32 y, .int .u32 c] (.tuple #[.int .u32 ((subD x y c : Nat) : Int), .int .u32 ((brw x y c : Nat) : Int)]) := by
  intro w
  have hk : IntKind.u32.signed = false := rfl
  go_enter Try.func84, Try.ntmps84
  go_wp2
  go_ret2
  exact ⟨ret2 (u32_eq (by show (((x : Int) - (y : Int)) % 4294967296 - (c : Int)) % 4294967296 = _; unfold subD; omega)) (u32_eq (sub32_bits x y c hx hy hc)), Below.refl _ _⟩

set_option maxRecDepth 10000 in
theorem isZero (n : Nat) (hn : n < pw 32) : Gives Try.prog 30 #[.agg (mgk 32 n)] (.bool (isz n)) := by
  intro w
  have hS := St.start w
  have HN := Lib.hid hn
  clear hn
  go_enter Try.func30, Try.ntmps30
  go_wp2_with (first
    | (refine L_box_agg hS rfl rfl ?_; refine ⟨_, rfl, ?_⟩; clear hS; intro _ _ hS)
    | (refine L_load (t := 54) rfl rfl ?_; refine ⟨_, run_load_row hS _ _ rfl _ rfl _ _ (.inl (.head _)) _ Try.underlying54 rfl (by rw [mgk_size]; exact size54), ?_⟩)
    | (refine L_build rfl rfl ?_; refine ⟨_, built54, ?_⟩)
    | (refine L_op rfl rfl ?_; refine ⟨_, run_eql_mgk _ _ _ _ _ _ rfl 32 _ _ rfl rfl _ guard54 Try.underlying54 size22 Try.underlying22 HN.out (pw_pos _), ?_⟩))
  go_ret
  exact ⟨rfl, hS.below⟩

set_option maxHeartbeats 400000 in
theorem plus (n m : Nat) (hn : n < pw 32) (hm : m < pw 32) : Gives Try.prog 64 #[.agg (mgk 32 n), .agg (mgk 32 m)] (.tuple #[.agg (mgk 32 ((n + m) % pw 32)), .bool (decide (n + m < pw 32))]) := by
  intro w
  have hS := St.start w
  have HN := Lib.hid hn
  have HM := Lib.hid hm
  clear hn hm
  go_enter Try.func64, Try.ntmps64
  go_wp2_with (first | (refine L_box_agg hS rfl rfl ?_; refine ⟨_, rfl, ?_⟩; clear hS; intro _ _ hS) | (refine L_alloc_agg hS rfl rfl ?_; refine ⟨_, zero54, ?_⟩; clear hS; intro _ _ hS))
  rename_i b1 _ b2 _ b3 w1 _ _
  go_loopw [6, 8] (fun cy i wr => ∃ k : Nat, k ≤ 32 ∧ i = .int .i64 k ∧ cy = .int .u32 ((pcar n m k : Nat) : Int) ∧ St none w wr [] [(b3, .cells (mgk 32 (psum n m k)) 54), (b2, .cells (mgk 32 m) 54), (b1, .cells (mgk 32 n) 54)]) (fun _ i _ => 32 - (intOf i).toNat)
  case atStart =>
    exact ⟨0, by omega, rfl, by rw [pcar_zero]; rfl, by rw [psum_zero]; exact hS⟩
  case round =>
    clear hS
    obtain ⟨k, hk, rfl, rfl, hS⟩ := hrel
    have hc := pcar_le n m k
    by_cases hlt : k < 32
    · go_wp2_with (fail)
      refine wp_region_w1 hS 13 [11] [(b3, .cells (mgk 32 (psum n m (k + 1))) 54), (b2, .cells (mgk 32 m) 54), (b1, .cells (mgk 32 n) 54)] (by kernel_rfl) (by kernel_rfl) ?_
      repeat (first
        | (refine S_load (t := 22) rfl rfl rfl rfl ?_; refine ⟨_, fun _ hS' => run_load_cell hS' _ _ rfl _ _ rfl _ _ (.inl (.tail _ (.head _))) _ Try.underlying22 rfl _ (mgk_get' (by omega)), ?_⟩; simp only [Act.put, List.setIfInBounds_toArray, List.set_cons_succ, List.set_cons_zero])
        | (refine S_load (t := 22) rfl rfl rfl rfl ?_; refine ⟨_, fun _ hS' => run_load_cell hS' _ _ rfl _ _ rfl _ _ (.inl (.tail _ (.tail _ (.head _)))) _ Try.underlying22 rfl _ (mgk_get' (by omega)), ?_⟩; simp only [Act.put, List.setIfInBounds_toArray, List.set_cons_succ, List.set_cons_zero])
        | (refine S_call 83 rfl rfl rfl rfl ?_; apply Exists.intro; refine ⟨fun _ => ?_, ?_⟩; (focus (go_simp; exact rfl)); apply Exists.intro; (with_reducible refine ⟨add32 _ _ _ (limb_lt _ _) (limb_lt _ _) hc, ?_⟩); simp only [Act.put, List.setIfInBounds_toArray, List.set_cons_succ, List.set_cons_zero])
        | (refine S_store (t := 22) rfl rfl rfl ?_; refine ⟨_, _, _, _, (.head), fun _ hS' => run_store_cell hS' _ _ _ rfl _ _ rfl _ rfl _ _ _ (.head) size22 rfl rfl ?_ ?_, ?_⟩; (focus (rw [mgk_size]; omega)); (focus (exact (mgk_fill' _ (addS _ _ _) rfl (psum_lt _ _ _) (addS_lt _ _ _)).trans (by rw [psum_next]; rfl))); simp only [Act.put])
        | (refine S_run rfl rfl ?_; apply Exists.intro; refine ⟨fun _ => ?_, ?_⟩; (focus (go_simp; (try go_bits); exact rfl)); simp only [Act.put, List.setIfInBounds_toArray, List.set_cons_succ, List.set_cons_zero]))
      refine S_nil ?_
      intro wn hS
      go_wp2
      go_roundw
      case rel => exact ⟨k + 1, by omega, by go_num, by rw [pcar_next]; rfl, hS⟩
      case measure => simp [intOf]; omega
    · have ek : k = 32 := by omega
      subst ek
      go_wp2_with (first | (refine L_load (t := 54) rfl rfl ?_; refine ⟨_, run_load_row hS _ _ rfl _ rfl _ _ (.inl (.head _)) _ Try.underlying54 rfl (by rw [mgk_size]; exact size54), ?_⟩) | (refine L_store (t := 54) hS rfl rfl ?_; refine ⟨_, _, _, _, _, (.head), run_store_row hS _ _ _ rfl _ rfl _ _ rfl _ (.head) (by rw [mgk_size]; exact size54) (by rw [mgk_size]) (oneCells _ _), ?_⟩; clear hS; intro _ hS))
      (try simp only [Exit.inBlock, Exit.then]); refine bodyPost_ret (res_cell_tmp rfl _ _ _ (run_loadRow hS _ _ _ _ (.inl (.head _)) _ Try.underlying54 rfl (by rw [mgk_size]; exact size54)) rfl _ rfl) rfl ⟨?_, hS.below⟩
      refine ret2 (by rw [psum_end HN.out HM.out]) (congrArg Value.bool ?_)
      have h0 := pcar_end HN.out HM.out
      by_cases h1 : pcar n m 32 = 0
      · simp [h1, h0.1 h1]
      · have h2 : ¬ n + m < pw 32 := fun h => h1 (h0.2 h)
        simp [h1, h2]

set_option maxHeartbeats 400000 in
theorem minus (n m : Nat) (hn : n < pw 32) (hm : m ≤ n) : Gives Try.prog 65 #[.agg (mgk 32 n), .agg (mgk 32 m)] (.agg (mgk 32 (n - m))) := by
  intro w
  have hS := St.start w
  have HN := Lib.hid hn
  have HM := Lib.hid hm
  clear hn hm
  go_enter Try.func65, Try.ntmps65
  go_wp2_with (first | (refine L_box_agg hS rfl rfl ?_; refine ⟨_, rfl, ?_⟩; clear hS; intro _ _ hS) | (refine L_alloc_agg hS rfl rfl ?_; refine ⟨_, zero54, ?_⟩; clear hS; intro _ _ hS))
  rename_i b1 _ b2 _ b3 _ b4 w1 _ _
  go_loopw [6, 8] (fun cy i wr => ∃ k : Nat, k ≤ 32 ∧ i = .int .i64 k ∧ cy = .int .u32 ((mbrw n m k : Nat) : Int) ∧ St none w wr [] [(b4, .cells (mgk 32 (mdif n m k)) 54), (b3, .cells (mgk 32 0) 54), (b2, .cells (mgk 32 m) 54), (b1, .cells (mgk 32 n) 54)]) (fun _ i _ => 32 - (intOf i).toNat)
  case atStart =>
    exact ⟨0, by omega, rfl, by rw [mbrw_zero]; rfl, by rw [mdif_zero]; exact hS⟩
  case round =>
    clear hS
    obtain ⟨k, hk, rfl, rfl, hS⟩ := hrel
    have hc := mbrw_le n m k
    by_cases hlt : k < 32
    · go_wp2_with (fail)
      refine wp_region_w1 hS 13 [11] [(b4, .cells (mgk 32 (mdif n m (k + 1))) 54), (b3, .cells (mgk 32 0) 54), (b2, .cells (mgk 32 m) 54), (b1, .cells (mgk 32 n) 54)] (by kernel_rfl) (by kernel_rfl) ?_
      repeat (first
        | (refine S_load (t := 22) rfl rfl rfl rfl ?_; refine ⟨_, fun _ hS' => run_load_cell hS' _ _ rfl _ _ rfl _ _ (.inl (.tail _ (.tail _ (.head _)))) _ Try.underlying22 rfl _ (mgk_get' (by omega)), ?_⟩; simp only [Act.put, List.setIfInBounds_toArray, List.set_cons_succ, List.set_cons_zero])
        | (refine S_load (t := 22) rfl rfl rfl rfl ?_; refine ⟨_, fun _ hS' => run_load_cell hS' _ _ rfl _ _ rfl _ _ (.inl (.tail _ (.tail _ (.tail _ (.head _))))) _ Try.underlying22 rfl _ (mgk_get' (by omega)), ?_⟩; simp only [Act.put, List.setIfInBounds_toArray, List.set_cons_succ, List.set_cons_zero])
        | (refine S_call 84 rfl rfl rfl rfl ?_; apply Exists.intro; refine ⟨fun _ => ?_, ?_⟩; (focus (go_simp; exact rfl)); apply Exists.intro; (with_reducible refine ⟨sub32 _ _ _ (limb_lt _ _) (limb_lt _ _) hc, ?_⟩); simp only [Act.put, List.setIfInBounds_toArray, List.set_cons_succ, List.set_cons_zero])
        | (refine S_store (t := 22) rfl rfl rfl ?_; refine ⟨_, _, _, _, (.head), fun _ hS' => run_store_cell hS' _ _ _ rfl _ _ rfl _ rfl _ _ _ (.head) size22 rfl rfl ?_ ?_, ?_⟩; (focus (rw [mgk_size]; omega)); (focus (exact (mgk_fill' _ (subD _ _ _) rfl (mdif_lt _ _ _) (subD_lt _ _ _)).trans (by rw [mdif_next]; rfl))); simp only [Act.put])
        | (refine S_run rfl rfl ?_; apply Exists.intro; refine ⟨fun _ => ?_, ?_⟩; (focus (go_simp; (try go_bits); exact rfl)); simp only [Act.put, List.setIfInBounds_toArray, List.set_cons_succ, List.set_cons_zero]))
      refine S_nil ?_
      intro wn hS
      go_wp2
      go_roundw
      case rel => exact ⟨k + 1, by omega, by go_num, by rw [mbrw_next], hS⟩
      case measure => simp [intOf]; omega
    · have ek : k = 32 := by omega
      subst ek
      go_wp2_with (first | (refine L_load (t := 54) rfl rfl ?_; refine ⟨_, run_load_row hS _ _ rfl _ rfl _ _ (.inl (.head _)) _ Try.underlying54 rfl (by rw [mgk_size]; exact size54), ?_⟩) | (refine L_store (t := 54) hS rfl rfl ?_; refine ⟨_, _, _, _, _, (.tail .head), run_store_row hS _ _ _ rfl _ rfl _ _ rfl _ (.tail .head) (by rw [mgk_size]; exact size54) (by rw [mgk_size, mgk_size]) (oneCells _ _), ?_⟩; clear hS; intro _ hS))
      (try simp only [Exit.inBlock, Exit.then]); refine bodyPost_ret (res_cell rfl hS _ _ _ _ (.inl (.tail _ (.head _))) rfl _ Try.underlying54 rfl (by rw [mgk_size]; exact size54)) rfl ⟨?_, hS.below⟩
      rw [mdif_end HN.out HM.out]

theorem cmpv_lt {n m : Nat} (h : n < m) : cmpv n m = -1 := if_pos h
theorem cmpv_eq {n m : Nat} (h : n = m) : cmpv n m = 0 := by unfold cmpv; rw [if_neg (by omega), if_pos h]
theorem cmpv_gt {n m : Nat} (h : m < n) : cmpv n m = 1 := by unfold cmpv; rw [if_neg (by omega), if_neg (by omega)]
theorem cmp_step {n m j : Nat} (h : n / pw (j + 1) = m / pw (j + 1)) : (limb n j = limb m j → n / pw j = m / pw j) ∧ (limb n j ≠ limb m j → cmpv (limb n j) (limb m j) = cmpv n m) := by
  have h1 := div_pw n j
  have h2 := div_pw m j
  refine ⟨fun e => by omega, fun hne => ?_⟩
  have key : ∀ {a b : Nat}, a / pw j < b / pw j → a < b := fun {a b} hlt => by
    rcases Nat.lt_or_ge a b with h | h
    · exact h
    · exact absurd (Nat.div_le_div_right (c := pw j) h) (by omega)
  rcases Nat.lt_or_ge (limb n j) (limb m j) with hl | hl
  · rw [cmpv_lt hl, cmpv_lt (key (by omega))]
  · have hl' : limb m j < limb n j := by omega
    rw [cmpv_gt hl', cmpv_gt (key (by omega))]

end Go.Proofs.Ytlccefdjhiedcaa
end
section
namespace Go.Proofs.Ytlccefdjhiedcaa
open Go.RowKit
set_option maxHeartbeats 400000 in
theorem signed_any (s : Bool) (n : Nat) (hn : n < pw 32) : Gives Try.prog 25 #[.bool s, .agg (mgk 32 n)] (.agg (ivZ (vz s n))) := by
  intro w
  have hS := St.start w
  have HN := Lib.hid hn
  clear hn
  rw [ivZ_vz]
  cases s
  all_goals
    go_enter Try.func25, Try.ntmps25
    go_wp2_with (first | (refine L_box_agg hS rfl rfl ?_; refine ⟨_, rfl, ?_⟩; clear hS; intro _ _ hS) | (refine L_alloc_agg hS rfl rfl ?_; refine ⟨_, zero25, ?_⟩; clear hS; intro _ _ hS))
    rename_i b3 _ b4 w1 _ _
  · refine wp_region_w1 hS 8 [] [(b4, .cells (iv (false && !isz n) n) 25), (b3, .cells (mgk 32 n) 54)] (by kernel_rfl) (by kernel_rfl) ?_
    repeat (first
      | (refine S_load (t := 54) rfl rfl rfl rfl ?_; refine ⟨_, fun _ hS' => run_load_row hS' _ _ rfl _ rfl _ _ (.inl (.tail _ (.head _))) _ Try.underlying54 rfl (size54_mg _), ?_⟩; simp only [Act.put, List.setIfInBounds_toArray, List.set_cons_succ, List.set_cons_zero])
      | (refine S_store (t := 25) rfl rfl rfl ?_; refine ⟨_, _, _, _, (.head), fun _ hS' => run_store_row hS' _ _ _ rfl _ rfl _ _ rfl _ (.head) (size25_iv _ _) (iv_sizes _ _ _ _) (oneCells_iv _ _), ?_⟩; simp only [Act.put])
      | (refine S_build rfl rfl rfl ?_; refine ⟨_, built25_iv _ _, ?_⟩; simp only [Act.put, List.setIfInBounds_toArray, List.set_cons_succ, List.set_cons_zero])
      | (refine S_run rfl rfl ?_; apply Exists.intro; refine ⟨fun _ => ?_, ?_⟩; (focus (go_simp; (try go_bits); exact rfl)); simp only [Act.put, List.setIfInBounds_toArray, List.set_cons_succ, List.set_cons_zero])
      | (refine S_skip rfl rfl ?_; simp only [Act.put, List.setIfInBounds_toArray, List.set_cons_succ, List.set_cons_zero]))
    refine S_nil ?_
    intro wn hS
    go_wp2
    (try simp only [Exit.inBlock, Exit.then]); refine bodyPost_ret (res_cell rfl hS _ _ _ _ (.inl (.head _)) rfl _ Try.underlying25 rfl (size25_iv _ _)) rfl ⟨?_, hS.below⟩
    rfl
  · refine wp_region_w1 hS 8 [] [(b4, .cells (iv (true && !isz n) n) 25), (b3, .cells (mgk 32 n) 54)] (by kernel_rfl) (by kernel_rfl) ?_
    repeat (first
      | (refine S_load (t := 54) rfl rfl rfl rfl ?_; refine ⟨_, fun _ hS' => run_load_row hS' _ _ rfl _ rfl _ _ (.inl (.tail _ (.head _))) _ Try.underlying54 rfl (size54_mg _), ?_⟩; simp only [Act.put, List.setIfInBounds_toArray, List.set_cons_succ, List.set_cons_zero])
      | (refine S_call 30 rfl rfl rfl rfl ?_; apply Exists.intro; refine ⟨fun _ => ?_, ?_⟩; (focus (go_simp; exact rfl)); apply Exists.intro; (with_reducible refine ⟨isZero _ HN.out, ?_⟩); simp only [Act.put, List.setIfInBounds_toArray, List.set_cons_succ, List.set_cons_zero])
      | (refine S_store (t := 25) rfl rfl rfl ?_; refine ⟨_, _, _, _, (.head), fun _ hS' => run_store_row hS' _ _ _ rfl _ rfl _ _ rfl _ (.head) (size25_iv _ _) (iv_sizes _ _ _ _) (oneCells_iv _ _), ?_⟩; simp only [Act.put])
      | (refine S_build rfl rfl rfl ?_; refine ⟨_, built25_iv _ _, ?_⟩; simp only [Act.put, List.setIfInBounds_toArray, List.set_cons_succ, List.set_cons_zero])
      | (refine S_run rfl rfl ?_; apply Exists.intro; refine ⟨fun _ => ?_, ?_⟩; (focus (go_simp; (try go_bits); exact rfl)); simp only [Act.put, List.setIfInBounds_toArray, List.set_cons_succ, List.set_cons_zero])
      | (refine S_skip rfl rfl ?_; simp only [Act.put, List.setIfInBounds_toArray, List.set_cons_succ, List.set_cons_zero]))
    refine S_nil ?_
    intro wn hS
    go_wp2
    (try simp only [Exit.inBlock, Exit.then]); refine bodyPost_ret (res_cell rfl hS _ _ _ _ (.inl (.head _)) rfl _ Try.underlying25 rfl (size25_iv _ _)) rfl ⟨?_, hS.below⟩
    rfl

theorem vz_not (s : Bool) (n : Nat) : vz (!s) n = -vz s n := by cases s <;> simp [vz]
set_option maxHeartbeats 400000 in
theorem neg_any (s : Bool) (n : Nat) (hn : n < pw 32) : Gives Try.prog 36 #[.agg (iv s n)] (.agg (ivZ (-vz s n))) := by
  intro w
  have hS := St.start w
  have HN := Lib.hid hn
  clear hn
  rw [← vz_not]
  go_enter Try.func36, Try.ntmps36
  go_wp2_with (first | (refine L_box_agg hS rfl rfl ?_; refine ⟨_, rfl, ?_⟩; clear hS; intro _ _ hS) | (refine L_alloc_agg hS rfl rfl ?_; refine ⟨_, zero25, ?_⟩; clear hS; intro _ _ hS) | (refine L_load (t := 23) rfl rfl ?_; refine ⟨_, run_load_mid hS _ _ rfl _ _ rfl _ _ (.inl (.tail _ (.head _))) _ Try.underlying23 rfl (mgk 32 _) (size23_mg _) (fun k _ => iv_mag _ _ k), ?_⟩) | (refine L_load (t := 4) rfl rfl ?_; refine ⟨_, run_load_cell hS _ _ rfl _ _ rfl _ _ (.inl (.tail _ (.head _))) _ Try.underlying4 rfl _ (iv_neg _ _), ?_⟩) | (go_at_call 25; (with_reducible refine Gives.use (signed_any _ _ HN.out) hS ?_); clear hS; intro _ hS) | (refine L_store (t := 25) hS rfl rfl ?_; refine ⟨_, _, _, _, _, (.head), run_store_row hS _ _ _ rfl _ rfl _ _ rfl _ (.head) (size25_iv _ _) (iv_sizes _ _ _ _) (oneCells_iv _ _), ?_⟩; clear hS; intro _ hS))
  (try simp only [Exit.inBlock, Exit.then]); refine bodyPost_ret (res_cell rfl hS _ _ _ _ (.inl (.head _)) rfl _ Try.underlying25 rfl (size25_iv _ _)) rfl ⟨?_, hS.below⟩
  rfl
end Go.Proofs.Ytlccefdjhiedcaa
end
section
namespace Go.Proofs.Ytlccefdjhiedcaa
open Go.RowKit

theorem vz_add_same (s : Bool) (n m : Nat) : vz s n + vz s m = vz s (n + m) := by cases s <;> simp [vz] <;> omega
theorem vz_add_lt {s t : Bool} (h : s ≠ t) {n m : Nat} (hl : n < m) : vz s n + vz t m = vz t (m - n) := by
  cases s <;> cases t <;> first | exact absurd rfl h | (simp [vz]; omega)
theorem vz_add_ge {s t : Bool} (h : s ≠ t) {n m : Nat} (hl : m ≤ n) : vz s n + vz t m = vz s (n - m) := by
  cases s <;> cases t <;> first | exact absurd rfl h | (simp [vz]; omega)

end Go.Proofs.Ytlccefdjhiedcaa
end
section
namespace Go.Proofs.Ytlccefdjhiedcaa
open Go.RowKit

theorem two_limbs (k : Nat) : k % 4294967296 + k / 4294967296 * 4294967296 = k := by omega
theorem pw2_le : pw 2 ≤ pw 32 := pw_le (by omega)
theorem pw_two : pw 2 = 18446744073709551616 := by rw [pw_succ, pw_one]
set_option maxHeartbeats 400000 in
theorem fromInt_pos (k : Nat) (hk : k < 9223372036854775808) : Gives Try.prog 33 #[.int .i64 (k : Int)] (.agg (ivZ (k : Int))) := by
  intro w
  have hS := St.start w
  have G1 : Gives Try.prog 25 #[.bool false, .agg (mgk 32 (k % 4294967296 + k / 4294967296 * 4294967296))] (.agg (ivZ (k : Int))) := by
    rw [two_limbs]; exact signed_any false k (Nat.lt_of_lt_of_le (by rw [pw_two]; omega) pw2_le)
  go_enter Try.func33, Try.ntmps33
  go_wp2_with (first | (refine L_box_agg hS rfl rfl ?_; refine ⟨_, rfl, ?_⟩; clear hS; intro _ _ hS) | (refine L_alloc_agg hS rfl rfl ?_; refine ⟨_, zero25, ?_⟩; clear hS; intro _ _ hS) | (refine L_build rfl rfl ?_; refine ⟨_, built54_two (k % 4294967296) (k / 4294967296) _ _ (by omega) (by omega) (by omega) (by omega), ?_⟩) | (go_at_call 25; refine Gives.use (G1) hS ?_; clear hS; intro _ hS) | (refine L_store (t := 25) hS rfl rfl ?_; refine ⟨_, _, _, _, _, (.head), run_store_row hS _ _ _ rfl _ rfl _ _ rfl _ (.head) (size25_iv _ _) (iv_sizes _ _ _ _) (oneCells_iv _ _), ?_⟩; clear hS; intro _ hS))
  (try simp only [Exit.inBlock, Exit.then]); refine bodyPost_ret (res_cell rfl hS _ _ _ _ (.inl (.head _)) rfl _ Try.underlying25 rfl (size25_iv _ _)) rfl ⟨?_, hS.below⟩
  rfl
set_option maxHeartbeats 400000 in
theorem fromInt_neg (k : Nat) (hk : k ≤ 9223372036854775808) (h0 : 0 < k) : Gives Try.prog 33 #[.int .i64 (-(k : Int))] (.agg (ivZ (-(k : Int)))) := by
  intro w
  have hS := St.start w
  have G1 : Gives Try.prog 25 #[.bool true, .agg (mgk 32 (k % 4294967296 + k / 4294967296 * 4294967296))] (.agg (ivZ (-(k : Int)))) := by
    rw [two_limbs]; exact signed_any true k (Nat.lt_of_lt_of_le (by rw [pw_two]; omega) pw2_le)
  have hwr : IntKind.u64.wrap (-IntKind.u64.wrap (-(k : Int))) = (k : Int) := by rw [IntKind.wrap_u64, IntKind.wrap_u64]; omega
  go_enter Try.func33, Try.ntmps33
  go_wp2_with (first | (refine L_box_agg hS rfl rfl ?_; refine ⟨_, rfl, ?_⟩; clear hS; intro _ _ hS) | (refine L_alloc_agg hS rfl rfl ?_; refine ⟨_, zero25, ?_⟩; clear hS; intro _ _ hS) | (refine L_build rfl rfl ?_; refine ⟨_, built54_two (k % 4294967296) (k / 4294967296) _ _ (by omega) (by omega) (by omega) (by omega), ?_⟩) | (go_at_call 25; refine Gives.use (G1) hS ?_; clear hS; intro _ hS) | (refine L_store (t := 25) hS rfl rfl ?_; refine ⟨_, _, _, _, _, (.head), run_store_row hS _ _ _ rfl _ rfl _ _ rfl _ (.head) (size25_iv _ _) (iv_sizes _ _ _ _) (oneCells_iv _ _), ?_⟩; clear hS; intro _ hS))
  (try simp only [Exit.inBlock, Exit.then]); refine bodyPost_ret (res_cell rfl hS _ _ _ _ (.inl (.head _)) rfl _ Try.underlying25 rfl (size25_iv _ _)) rfl ⟨?_, hS.below⟩
  rfl
theorem fromInt_any (z : Int) (h : -9223372036854775808 ≤ z ∧ z ≤ 9223372036854775807) : Gives Try.prog 33 #[.int .i64 z] (.agg (ivZ z)) := by
  by_cases h0 : z < 0
  · obtain ⟨k, rfl⟩ : ∃ k : Nat, z = -(k : Int) := ⟨z.natAbs, by omega⟩
    exact fromInt_neg k (by omega) (by omega)
  · obtain ⟨k, rfl⟩ : ∃ k : Nat, z = (k : Int) := ⟨z.natAbs, by omega⟩
    exact fromInt_pos k (by omega)

def low64 (n : Nat) : Nat := n % 18446744073709551616
theorem low64_eq (n : Nat) : limb n 1 * 4294967296 + limb n 0 = low64 n := by
  unfold limb low64; rw [pw_one, pw_zero, Nat.div_one]; omega
def tryInt (s : Bool) (n : Nat) : Int := if s then IntKind.i64.wrap (-IntKind.i64.wrap (low64 n)) else IntKind.i64.wrap (low64 n)
theorem tryInt_range (s : Bool) (n : Nat) : -9223372036854775808 ≤ tryInt s n ∧ tryInt s n ≤ 9223372036854775807 := by
  unfold tryInt; split <;> (rw [IntKind.wrap_i64]; omega)
theorem tryInt_eq {s : Bool} {n : Nat} (h : -9223372036854775808 ≤ vz s n ∧ vz s n ≤ 9223372036854775807) : tryInt s n = vz s n := by
  unfold tryInt vz low64 at *
  cases s
  · simp only [Bool.false_eq_true, if_false] at *; rw [IntKind.wrap_i64]; omega
  · simp only [if_true] at *; rw [IntKind.wrap_i64, IntKind.wrap_i64]; omega
def toI (s : Bool) (n : Nat) : Value := if -9223372036854775808 ≤ vz s n ∧ vz s n ≤ 9223372036854775807 then .tuple #[.int .i64 (vz s n), .bool true] else .tuple #[.int .i64 0, .bool false]
theorem or_low (n : Nat) : bits BinOp.or IntKind.u64 ((limb n 1 : Nat) * 4294967296 : Int) ((limb n 0 : Nat) : Int) = ((low64 n : Nat) : Int) := by
  have h0 := limb_lt n 0
  have h1 := limb_lt n 1
  rw [show ((limb n 1 : Nat) * 4294967296 : Int) = ((limb n 1 * 4294967296 : Nat) : Int) by simp, u64_or_nat _ _ (by omega) (by omega), nat_join 32 _ _ (by omega) (by omega), low64_eq]

set_option maxRecDepth 10000 in
set_option maxHeartbeats 1000000 in
theorem toInt_any (s : Bool) (n : Nat) (hn : n < pw 32) : Gives Try.prog 34 #[.agg (iv s n)] (toI s n) := by
  intro w
  have hS := St.start w
  have hor := or_low n
  have l0 := limb_lt n 0
  have l1 := limb_lt n 1
  have HV : Hid ((vz s n).natAbs < pw 32) := by show (vz s n).natAbs < pw 32; rw [vz_abs]; exact hn
  obtain ⟨z, hz⟩ : ∃ z, z = tryInt s n := ⟨_, rfl⟩
  have hzr : -9223372036854775808 ≤ z ∧ z ≤ 9223372036854775807 := by rw [hz]; exact tryInt_range s n
  have hza : z.natAbs < pw 32 := Nat.lt_of_lt_of_le (by rw [pw_two]; omega) pw2_le
  have G1 : Gives Try.prog 33 #[.int .i64 z] (.agg (ivZ z)) := fromInt_any z hzr
  have G2 := signed_any s n hn
  clear hn
  cases s
  · have hz' : IntKind.i64.wrap ((low64 n : Nat) : Int) = z := by rw [hz]; rfl
    by_cases hin : -9223372036854775808 ≤ vz false n ∧ vz false n ≤ 9223372036854775807
    · have HT : Hid (toI false n = .tuple #[.int .i64 z, .bool true]) := by show toI false n = _; unfold toI; rw [if_pos hin, hz, tryInt_eq hin]
      have hb : neZ z (vz false n) = false := neZ_false (hz.trans (tryInt_eq hin))
      clear hz hin
      go_enter Try.func34, Try.ntmps34
      go_wp2_with (first | (refine L_box_agg hS rfl rfl ?_; refine ⟨_, rfl, ?_⟩; clear hS; intro _ _ hS) | (refine L_load (t := 22) rfl rfl ?_; refine ⟨_, run_load_cell hS _ _ rfl _ _ rfl _ _ (.inl (.head _)) _ Try.underlying22 rfl _ (iv_limb (k := 1) (by omega)), ?_⟩) | (refine L_load (t := 22) rfl rfl ?_; refine ⟨_, run_load_cell hS _ _ rfl _ _ rfl _ _ (.inl (.head _)) _ Try.underlying22 rfl _ (iv_limb (k := 0) (by omega)), ?_⟩) | (refine L_load (t := 4) rfl rfl ?_; refine ⟨_, run_load_cell hS _ _ rfl _ _ rfl _ _ (.inl (.head _)) _ Try.underlying4 rfl _ (iv_neg _ _), ?_⟩))
      (try simp only [Act.put]); (try simp only [List.setIfInBounds_toArray, List.set_cons_succ, List.set_cons_zero]); refine wp_region_w0 hS (by kernel_rfl) (by kernel_rfl) ?_
      repeat (first
        | (refine S_load (t := 4) rfl rfl rfl rfl ?_; refine ⟨_, fun _ hS' => run_load_cell hS' _ _ rfl _ _ rfl _ _ (.inl (.head _)) _ Try.underlying4 rfl _ (iv_neg _ _), ?_⟩; simp only [Act.put, List.setIfInBounds_toArray, List.set_cons_succ, List.set_cons_zero]) | (refine S_load (t := 23) rfl rfl rfl rfl ?_; refine ⟨_, fun _ hS' => run_load_mid hS' _ _ rfl _ _ rfl _ _ (.inl (.head _)) _ Try.underlying23 rfl (mgk 32 _) (size23_mg _) (fun k _ => iv_mag _ _ k), ?_⟩; simp only [Act.put, List.setIfInBounds_toArray, List.set_cons_succ, List.set_cons_zero])
        | (refine S_call 33 rfl rfl rfl rfl ?_; apply Exists.intro; refine ⟨fun _ => ?_, ?_⟩; (focus (go_simp; exact rfl)); apply Exists.intro; (with_reducible refine ⟨G1, ?_⟩); simp only [Act.put, List.setIfInBounds_toArray, List.set_cons_succ, List.set_cons_zero])
        | (refine S_call 25 rfl rfl rfl rfl ?_; apply Exists.intro; refine ⟨fun _ => ?_, ?_⟩; (focus (go_simp; exact rfl)); apply Exists.intro; (with_reducible refine ⟨G2, ?_⟩); simp only [Act.put, List.setIfInBounds_toArray, List.set_cons_succ, List.set_cons_zero])
        | (refine S_op rfl rfl rfl ?_; refine ⟨_, fun _ => run_neq_Z' _ _ _ _ rfl _ _ rfl rfl hza HV.out _ hb, ?_⟩; simp only [Act.put, List.setIfInBounds_toArray, List.set_cons_succ, List.set_cons_zero])
        | (refine S_run rfl rfl ?_; apply Exists.intro; refine ⟨fun _ => ?_, ?_⟩; (focus (go_simp; (try go_bits); exact rfl)); simp only [Act.put, List.setIfInBounds_toArray, List.set_cons_succ, List.set_cons_zero]))
      refine S_nil ?_
      intro wn hS
      go_wp2
      go_ret2
      exact ⟨by rw [HT.out]; rfl, hS.below⟩
    · have HT : Hid (toI false n = .tuple #[.int .i64 0, .bool false]) := by show toI false n = _; unfold toI; rw [if_neg hin]
      have hb : neZ z (vz false n) = true := neZ_true (fun e => hin (by rw [← e, hz]; exact tryInt_range _ n))
      clear hz hin
      go_enter Try.func34, Try.ntmps34
      go_wp2_with (first | (refine L_box_agg hS rfl rfl ?_; refine ⟨_, rfl, ?_⟩; clear hS; intro _ _ hS) | (refine L_load (t := 22) rfl rfl ?_; refine ⟨_, run_load_cell hS _ _ rfl _ _ rfl _ _ (.inl (.head _)) _ Try.underlying22 rfl _ (iv_limb (k := 1) (by omega)), ?_⟩) | (refine L_load (t := 22) rfl rfl ?_; refine ⟨_, run_load_cell hS _ _ rfl _ _ rfl _ _ (.inl (.head _)) _ Try.underlying22 rfl _ (iv_limb (k := 0) (by omega)), ?_⟩) | (refine L_load (t := 4) rfl rfl ?_; refine ⟨_, run_load_cell hS _ _ rfl _ _ rfl _ _ (.inl (.head _)) _ Try.underlying4 rfl _ (iv_neg _ _), ?_⟩))
      (try simp only [Act.put]); (try simp only [List.setIfInBounds_toArray, List.set_cons_succ, List.set_cons_zero]); refine wp_region_w0 hS (by kernel_rfl) (by kernel_rfl) ?_
      repeat (first
        | (refine S_load (t := 4) rfl rfl rfl rfl ?_; refine ⟨_, fun _ hS' => run_load_cell hS' _ _ rfl _ _ rfl _ _ (.inl (.head _)) _ Try.underlying4 rfl _ (iv_neg _ _), ?_⟩; simp only [Act.put, List.setIfInBounds_toArray, List.set_cons_succ, List.set_cons_zero]) | (refine S_load (t := 23) rfl rfl rfl rfl ?_; refine ⟨_, fun _ hS' => run_load_mid hS' _ _ rfl _ _ rfl _ _ (.inl (.head _)) _ Try.underlying23 rfl (mgk 32 _) (size23_mg _) (fun k _ => iv_mag _ _ k), ?_⟩; simp only [Act.put, List.setIfInBounds_toArray, List.set_cons_succ, List.set_cons_zero])
        | (refine S_call 33 rfl rfl rfl rfl ?_; apply Exists.intro; refine ⟨fun _ => ?_, ?_⟩; (focus (go_simp; exact rfl)); apply Exists.intro; (with_reducible refine ⟨G1, ?_⟩); simp only [Act.put, List.setIfInBounds_toArray, List.set_cons_succ, List.set_cons_zero])
        | (refine S_call 25 rfl rfl rfl rfl ?_; apply Exists.intro; refine ⟨fun _ => ?_, ?_⟩; (focus (go_simp; exact rfl)); apply Exists.intro; (with_reducible refine ⟨G2, ?_⟩); simp only [Act.put, List.setIfInBounds_toArray, List.set_cons_succ, List.set_cons_zero])
        | (refine S_op rfl rfl rfl ?_; refine ⟨_, fun _ => run_neq_Z' _ _ _ _ rfl _ _ rfl rfl hza HV.out _ hb, ?_⟩; simp only [Act.put, List.setIfInBounds_toArray, List.set_cons_succ, List.set_cons_zero])
        | (refine S_run rfl rfl ?_; apply Exists.intro; refine ⟨fun _ => ?_, ?_⟩; (focus (go_simp; (try go_bits); exact rfl)); simp only [Act.put, List.setIfInBounds_toArray, List.set_cons_succ, List.set_cons_zero]))
      refine S_nil ?_
      intro wn hS
      go_wp2
      go_ret2
      exact ⟨by rw [HT.out]; rfl, hS.below⟩
  · obtain ⟨y, hy⟩ : ∃ y, IntKind.i64.wrap ((low64 n : Nat) : Int) = y := ⟨_, rfl⟩
    have hz' : IntKind.i64.wrap (-y) = z := by rw [hz, ← hy]; rfl
    by_cases hin : -9223372036854775808 ≤ vz true n ∧ vz true n ≤ 9223372036854775807
    · have HT : Hid (toI true n = .tuple #[.int .i64 z, .bool true]) := by show toI true n = _; unfold toI; rw [if_pos hin, hz, tryInt_eq hin]
      have hb : neZ z (vz true n) = false := neZ_false (hz.trans (tryInt_eq hin))
      clear hz hin
      go_enter Try.func34, Try.ntmps34
      go_wp2_with (first | (refine L_box_agg hS rfl rfl ?_; refine ⟨_, rfl, ?_⟩; clear hS; intro _ _ hS) | (refine L_load (t := 22) rfl rfl ?_; refine ⟨_, run_load_cell hS _ _ rfl _ _ rfl _ _ (.inl (.head _)) _ Try.underlying22 rfl _ (iv_limb (k := 1) (by omega)), ?_⟩) | (refine L_load (t := 22) rfl rfl ?_; refine ⟨_, run_load_cell hS _ _ rfl _ _ rfl _ _ (.inl (.head _)) _ Try.underlying22 rfl _ (iv_limb (k := 0) (by omega)), ?_⟩) | (refine L_load (t := 4) rfl rfl ?_; refine ⟨_, run_load_cell hS _ _ rfl _ _ rfl _ _ (.inl (.head _)) _ Try.underlying4 rfl _ (iv_neg _ _), ?_⟩))
      (try simp only [Act.put]); (try simp only [List.setIfInBounds_toArray, List.set_cons_succ, List.set_cons_zero]); refine wp_region_w0 hS (by kernel_rfl) (by kernel_rfl) ?_
      repeat (first
        | (refine S_load (t := 4) rfl rfl rfl rfl ?_; refine ⟨_, fun _ hS' => run_load_cell hS' _ _ rfl _ _ rfl _ _ (.inl (.head _)) _ Try.underlying4 rfl _ (iv_neg _ _), ?_⟩; simp only [Act.put, List.setIfInBounds_toArray, List.set_cons_succ, List.set_cons_zero]) | (refine S_load (t := 23) rfl rfl rfl rfl ?_; refine ⟨_, fun _ hS' => run_load_mid hS' _ _ rfl _ _ rfl _ _ (.inl (.head _)) _ Try.underlying23 rfl (mgk 32 _) (size23_mg _) (fun k _ => iv_mag _ _ k), ?_⟩; simp only [Act.put, List.setIfInBounds_toArray, List.set_cons_succ, List.set_cons_zero])
        | (refine S_call 33 rfl rfl rfl rfl ?_; apply Exists.intro; refine ⟨fun _ => ?_, ?_⟩; (focus (go_simp; exact rfl)); apply Exists.intro; (with_reducible refine ⟨G1, ?_⟩); simp only [Act.put, List.setIfInBounds_toArray, List.set_cons_succ, List.set_cons_zero])
        | (refine S_call 25 rfl rfl rfl rfl ?_; apply Exists.intro; refine ⟨fun _ => ?_, ?_⟩; (focus (go_simp; exact rfl)); apply Exists.intro; (with_reducible refine ⟨G2, ?_⟩); simp only [Act.put, List.setIfInBounds_toArray, List.set_cons_succ, List.set_cons_zero])
        | (refine S_op rfl rfl rfl ?_; refine ⟨_, fun _ => run_neq_Z' _ _ _ _ rfl _ _ rfl rfl hza HV.out _ hb, ?_⟩; simp only [Act.put, List.setIfInBounds_toArray, List.set_cons_succ, List.set_cons_zero])
        | (refine S_run rfl rfl ?_; apply Exists.intro; refine ⟨fun _ => ?_, ?_⟩; (focus (go_simp; (try go_bits); exact rfl)); simp only [Act.put, List.setIfInBounds_toArray, List.set_cons_succ, List.set_cons_zero]))
      refine S_nil ?_
      intro wn hS
      go_wp2
      go_ret2
      exact ⟨by rw [HT.out]; rfl, hS.below⟩
    · have HT : Hid (toI true n = .tuple #[.int .i64 0, .bool false]) := by show toI true n = _; unfold toI; rw [if_neg hin]
      have hb : neZ z (vz true n) = true := neZ_true (fun e => hin (by rw [← e, hz]; exact tryInt_range _ n))
      clear hz hin
      go_enter Try.func34, Try.ntmps34
      go_wp2_with (first | (refine L_box_agg hS rfl rfl ?_; refine ⟨_, rfl, ?_⟩; clear hS; intro _ _ hS) | (refine L_load (t := 22) rfl rfl ?_; refine ⟨_, run_load_cell hS _ _ rfl _ _ rfl _ _ (.inl (.head _)) _ Try.underlying22 rfl _ (iv_limb (k := 1) (by omega)), ?_⟩) | (refine L_load (t := 22) rfl rfl ?_; refine ⟨_, run_load_cell hS _ _ rfl _ _ rfl _ _ (.inl (.head _)) _ Try.underlying22 rfl _ (iv_limb (k := 0) (by omega)), ?_⟩) | (refine L_load (t := 4) rfl rfl ?_; refine ⟨_, run_load_cell hS _ _ rfl _ _ rfl _ _ (.inl (.head _)) _ Try.underlying4 rfl _ (iv_neg _ _), ?_⟩))
      (try simp only [Act.put]); (try simp only [List.setIfInBounds_toArray, List.set_cons_succ, List.set_cons_zero]); refine wp_region_w0 hS (by kernel_rfl) (by kernel_rfl) ?_
      repeat (first
        | (refine S_load (t := 4) rfl rfl rfl rfl ?_; refine ⟨_, fun _ hS' => run_load_cell hS' _ _ rfl _ _ rfl _ _ (.inl (.head _)) _ Try.underlying4 rfl _ (iv_neg _ _), ?_⟩; simp only [Act.put, List.setIfInBounds_toArray, List.set_cons_succ, List.set_cons_zero]) | (refine S_load (t := 23) rfl rfl rfl rfl ?_; refine ⟨_, fun _ hS' => run_load_mid hS' _ _ rfl _ _ rfl _ _ (.inl (.head _)) _ Try.underlying23 rfl (mgk 32 _) (size23_mg _) (fun k _ => iv_mag _ _ k), ?_⟩; simp only [Act.put, List.setIfInBounds_toArray, List.set_cons_succ, List.set_cons_zero])
        | (refine S_call 33 rfl rfl rfl rfl ?_; apply Exists.intro; refine ⟨fun _ => ?_, ?_⟩; (focus (go_simp; exact rfl)); apply Exists.intro; (with_reducible refine ⟨G1, ?_⟩); simp only [Act.put, List.setIfInBounds_toArray, List.set_cons_succ, List.set_cons_zero])
        | (refine S_call 25 rfl rfl rfl rfl ?_; apply Exists.intro; refine ⟨fun _ => ?_, ?_⟩; (focus (go_simp; exact rfl)); apply Exists.intro; (with_reducible refine ⟨G2, ?_⟩); simp only [Act.put, List.setIfInBounds_toArray, List.set_cons_succ, List.set_cons_zero])
        | (refine S_op rfl rfl rfl ?_; refine ⟨_, fun _ => run_neq_Z' _ _ _ _ rfl _ _ rfl rfl hza HV.out _ hb, ?_⟩; simp only [Act.put, List.setIfInBounds_toArray, List.set_cons_succ, List.set_cons_zero])
        | (refine S_run rfl rfl ?_; apply Exists.intro; refine ⟨fun _ => ?_, ?_⟩; (focus (go_simp; (try go_bits); exact rfl)); simp only [Act.put, List.setIfInBounds_toArray, List.set_cons_succ, List.set_cons_zero]))
      refine S_nil ?_
      intro wn hS
      go_wp2
      go_ret2
      exact ⟨by rw [HT.out]; rfl, hS.below⟩

def nlG : Nat → Nat → Nat
  | 0, _ => 0
  | k + 1, n => if limb n k = 0 then nlG k n else k + 1
def nl (n : Nat) : Nat := nlG 32 n
theorem nlG_zero {n k : Nat} (h : limb n k = 0) : nlG (k + 1) n = nlG k n := if_pos h
theorem nlG_not {n k : Nat} (h : limb n k ≠ 0) : nlG (k + 1) n = k + 1 := if_neg h
theorem nlG_le (n : Nat) : ∀ k, nlG k n ≤ k
  | 0 => Nat.le_refl _
  | k + 1 => by
    unfold nlG; split
    · have := nlG_le n k; omega
    · omega
theorem nlG_lt {n : Nat} : ∀ k, n < pw k → n < pw (nlG k n)
  | 0, h => h
  | k + 1, h => by
    unfold nlG; split
    · rename_i h0
      refine nlG_lt k ?_
      have h1 := mod_pw n k
      rw [Nat.mod_eq_of_lt h, h0, Nat.zero_mul] at h1
      rw [h1]; exact Nat.mod_lt _ (pw_pos k)
    · exact h
theorem nlG_top {n : Nat} : ∀ k, nlG k n = 0 ∨ limb n (nlG k n - 1) ≠ 0
  | 0 => .inl rfl
  | k + 1 => by
    unfold nlG; split
    · exact nlG_top k
    · rename_i h0; exact .inr h0
theorem nl_le (n : Nat) : nl n ≤ 32 := nlG_le n 32
theorem nl_lt {n : Nat} (h : n < pw 32) : n < pw (nl n) := nlG_lt 32 h
theorem nl_top (n : Nat) : nl n = 0 ∨ limb n (nl n - 1) ≠ 0 := nlG_top 32

set_option maxHeartbeats 400000 in
theorem limbCount_any (n : Nat) : Gives Try.prog 61 #[.agg (mgk 32 n)] (.int .i64 ((nl n : Nat) : Int)) := by
  intro w
  have hS := St.start w
  go_enter Try.func61, Try.ntmps61
  go_wp2_with (first | (refine L_box_agg hS rfl rfl ?_; refine ⟨_, rfl, ?_⟩; clear hS; intro _ _ hS))
  rename_i b1 w1 _ _
  go_loopw [3] (fun i wr => ∃ k : Nat, k ≤ 32 ∧ i = .int .i64 k ∧ Hid (nl n = nlG k n) ∧ St none w wr [] [(b1, .cells (mgk 32 n) 54)]) (fun i _ => (intOf i).toNat)
  case atStart => exact ⟨32, by omega, by go_num, (rfl : nl n = nlG 32 n), hS⟩
  case round =>
    clear hS
    obtain ⟨k, hk, rfl, HE, hS⟩ := hrel
    rcases k with _ | j
    · go_wp2
      go_ret
      exact ⟨by rw [HE.out]; rfl, hS.below⟩
    · have hj : (j : Int) < 32 := by omega
      have ej : (((j + 1 : Nat) : Int) - 1) = (j : Int) := by omega
      have hpos : (0 : Int) < ((j + 1 : Nat) : Int) := by omega
      by_cases he : limb n j = 0
      · have HQ : Hid (nl n = nlG j n) := HE.out.trans (nlG_zero he)
        have hb1 : (((limb n j : Nat) : Int) == 0) = true := by rw [he]; rfl
        clear he
        go_wp2_with (first | (refine L_load (t := 22) rfl rfl ?_; refine ⟨_, run_load_cell hS _ _ rfl _ _ rfl _ _ (.inl (.head _)) _ Try.underlying22 rfl _ (mgk_get' (by omega)), ?_⟩))
        go_roundw
        case rel => exact ⟨j, by omega, by go_num, HQ, hS⟩
        case measure => simp [intOf]
      · have HQ : Hid (nl n = j + 1) := HE.out.trans (nlG_not he)
        have hb1 : (((limb n j : Nat) : Int) == 0) = false := by simp; omega
        clear he
        go_wp2_with (first | (refine L_load (t := 22) rfl rfl ?_; refine ⟨_, run_load_cell hS _ _ rfl _ _ rfl _ _ (.inl (.head _)) _ Try.underlying22 rfl _ (mgk_get' (by omega)), ?_⟩))
        go_ret
        exact ⟨by rw [HQ.out]; rfl, hS.below⟩
end Go.Proofs.Ytlccefdjhiedcaa
end
section
namespace Go.Proofs.Ytlccefdjhiedcaa
open Go.RowKit

set_option maxHeartbeats 400000 in
theorem rlimbs_any (n : Nat) : Gives Try.prog 57 #[.agg (mgk 32 n)] (.int .i64 ((nl n : Nat) : Int)) := by
  intro w
  have hS := St.start w
  go_enter Try.func57, Try.ntmps57
  go_wp2_with (first | (refine L_box_agg hS rfl rfl ?_; refine ⟨_, rfl, ?_⟩; clear hS; intro _ _ hS))
  rename_i b1 w1 _ _
  go_loopw [3] (fun i wr => ∃ k : Nat, k ≤ 32 ∧ i = .int .i64 k ∧ Hid (nl n = nlG k n) ∧ St none w wr [] [(b1, .cells (mgk 32 n) 23)]) (fun i _ => (intOf i).toNat)
  case atStart => exact ⟨32, by omega, by go_num, (rfl : nl n = nlG 32 n), hS⟩
  case round =>
    clear hS
    obtain ⟨k, hk, rfl, HE, hS⟩ := hrel
    rcases k with _ | j
    · go_wp2
      go_ret
      exact ⟨by rw [HE.out]; rfl, hS.below⟩
    · have hj : (j : Int) < 32 := by omega
      have ej : (((j + 1 : Nat) : Int) - 1) = (j : Int) := by omega
      have hpos : (0 : Int) < ((j + 1 : Nat) : Int) := by omega
      by_cases he : limb n j = 0
      · have HQ : Hid (nl n = nlG j n) := HE.out.trans (nlG_zero he)
        have hb1 : (((limb n j : Nat) : Int) == 0) = true := by rw [he]; rfl
        clear he
        go_wp2_with (first | (refine L_load (t := 22) rfl rfl ?_; refine ⟨_, run_load_cell hS _ _ rfl _ _ rfl _ _ (.inl (.head _)) _ Try.underlying22 rfl _ (mgk_get' (by omega)), ?_⟩))
        go_roundw
        case rel => exact ⟨j, by omega, by go_num, HQ, hS⟩
        case measure => simp [intOf]
      · have HQ : Hid (nl n = j + 1) := HE.out.trans (nlG_not he)
        have hb1 : (((limb n j : Nat) : Int) == 0) = false := by simp; omega
        clear he
        go_wp2_with (first | (refine L_load (t := 22) rfl rfl ?_; refine ⟨_, run_load_cell hS _ _ rfl _ _ rfl _ _ (.inl (.head _)) _ Try.underlying22 rfl _ (mgk_get' (by omega)), ?_⟩))
        go_ret
        exact ⟨by rw [HQ.out]; rfl, hS.below⟩

theorem nl_zero_iff {n : Nat} (hn : n < pw 32) : nl n = 0 ↔ n = 0 := by
  constructor
  · intro h
    have := nl_lt hn
    rw [h, pw_zero] at this; omega
  · rintro rfl
    rcases nl_top 0 with h | h
    · exact h
    · exact absurd (limb_zero _) h

set_option maxHeartbeats 400000 in
theorem rzero_any (n : Nat) (hn : n < pw 32) : Gives Try.prog 37 #[.agg (mgk 32 n)] (.bool (isz n)) := by
  intro w
  have hS := St.start w
  have h0 : (((nl n : Nat) : Int) == 0) = isz n := by
    by_cases h : n = 0
    · rw [isz_true h, (nl_zero_iff hn).2 h]; rfl
    · have := mt (nl_zero_iff hn).1 h
      rw [isz_false h]; simp; omega
  clear hn
  obtain ⟨b, hb⟩ : ∃ b, isz n = b := ⟨_, rfl⟩
  rw [hb] at h0 ⊢
  go_enter Try.func37, Try.ntmps37
  go_wp2_with (first | (refine L_box_agg hS rfl rfl ?_; refine ⟨_, rfl, ?_⟩; clear hS; intro _ _ hS) | (refine L_load (t := 23) rfl rfl ?_; refine ⟨_, run_load_row hS _ _ rfl _ rfl _ _ (.inl (.head _)) _ Try.underlying23 rfl (size23_mg _), ?_⟩) | (go_at_call 57; (with_reducible refine Gives.use (rlimbs_any _) hS ?_); clear hS; intro _ hS))
  go_ret
  exact ⟨rfl, hS.below⟩

end Go.Proofs.Ytlccefdjhiedcaa
end
section
namespace Go.Proofs.Ytlccefdjhiedcaa
open Go.RowKit
set_option linter.unusedVariables false

set_option maxHeartbeats 400000 in
theorem rcanon (s : Bool) (n : Nat) (hn : n < pw 32) : Gives Try.prog 29 #[.bool s, .agg (mgk 32 n)] (.agg (ivZ (vz s n))) := by
  intro w
  have hS := St.start w
  have HN := Lib.hid hn
  clear hn
  rw [ivZ_vz]
  cases s
  all_goals
    go_enter Try.func29, Try.ntmps29
    go_wp2_with (first | (refine L_box_agg hS rfl rfl ?_; refine ⟨_, rfl, ?_⟩; clear hS; intro _ _ hS) | (refine L_alloc_agg hS rfl rfl ?_; refine ⟨_, zero25, ?_⟩; clear hS; intro _ _ hS))
    rename_i b3 _ b4 w1 _ _
  · refine wp_region_w1 hS 8 [] [(b4, .cells (iv (false && !isz n) n) 25), (b3, .cells (mgk 32 n) 23)] (by kernel_rfl) (by kernel_rfl) ?_
    repeat (first
      | (refine S_load (t := 23) rfl rfl rfl rfl ?_; refine ⟨_, fun _ hS' => run_load_row hS' _ _ rfl _ rfl _ _ (.inl (.tail _ (.head _))) _ Try.underlying23 rfl (size23_mg _), ?_⟩; simp only [Act.put, List.setIfInBounds_toArray, List.set_cons_succ, List.set_cons_zero])
      | (refine S_store (t := 25) rfl rfl rfl ?_; refine ⟨_, _, _, _, (.head), fun _ hS' => run_store_row hS' _ _ _ rfl _ rfl _ _ rfl _ (.head) (size25_iv _ _) (iv_sizes _ _ _ _) (oneCells_iv _ _), ?_⟩; simp only [Act.put])
      | (refine S_build rfl rfl rfl ?_; refine ⟨_, built25_iv _ _, ?_⟩; simp only [Act.put, List.setIfInBounds_toArray, List.set_cons_succ, List.set_cons_zero])
      | (refine S_run rfl rfl ?_; apply Exists.intro; refine ⟨fun _ => ?_, ?_⟩; (focus (go_simp; (try go_bits); exact rfl)); simp only [Act.put, List.setIfInBounds_toArray, List.set_cons_succ, List.set_cons_zero])
      | (refine S_skip rfl rfl ?_; simp only [Act.put, List.setIfInBounds_toArray, List.set_cons_succ, List.set_cons_zero]))
    refine S_nil ?_
    intro wn hS
    go_wp2
    (try simp only [Exit.inBlock, Exit.then]); refine bodyPost_ret (res_cell rfl hS _ _ _ _ (.inl (.head _)) rfl _ Try.underlying25 rfl (size25_iv _ _)) rfl ⟨?_, hS.below⟩
    rfl
  · refine wp_region_w1 hS 8 [] [(b4, .cells (iv (true && !isz n) n) 25), (b3, .cells (mgk 32 n) 23)] (by kernel_rfl) (by kernel_rfl) ?_
    repeat (first
      | (refine S_load (t := 23) rfl rfl rfl rfl ?_; refine ⟨_, fun _ hS' => run_load_row hS' _ _ rfl _ rfl _ _ (.inl (.tail _ (.head _))) _ Try.underlying23 rfl (size23_mg _), ?_⟩; simp only [Act.put, List.setIfInBounds_toArray, List.set_cons_succ, List.set_cons_zero])
      | (refine S_call 37 rfl rfl rfl rfl ?_; apply Exists.intro; refine ⟨fun _ => ?_, ?_⟩; (focus (go_simp; exact rfl)); apply Exists.intro; (with_reducible refine ⟨rzero_any _ HN.out, ?_⟩); simp only [Act.put, List.setIfInBounds_toArray, List.set_cons_succ, List.set_cons_zero])
      | (refine S_store (t := 25) rfl rfl rfl ?_; refine ⟨_, _, _, _, (.head), fun _ hS' => run_store_row hS' _ _ _ rfl _ rfl _ _ rfl _ (.head) (size25_iv _ _) (iv_sizes _ _ _ _) (oneCells_iv _ _), ?_⟩; simp only [Act.put])
      | (refine S_build rfl rfl rfl ?_; refine ⟨_, built25_iv _ _, ?_⟩; simp only [Act.put, List.setIfInBounds_toArray, List.set_cons_succ, List.set_cons_zero])
      | (refine S_run rfl rfl ?_; apply Exists.intro; refine ⟨fun _ => ?_, ?_⟩; (focus (go_simp; (try go_bits); exact rfl)); simp only [Act.put, List.setIfInBounds_toArray, List.set_cons_succ, List.set_cons_zero])
      | (refine S_skip rfl rfl ?_; simp only [Act.put, List.setIfInBounds_toArray, List.set_cons_succ, List.set_cons_zero]))
    refine S_nil ?_
    intro wn hS
    go_wp2
    (try simp only [Exit.inBlock, Exit.then]); refine bodyPost_ret (res_cell rfl hS _ _ _ _ (.inl (.head _)) rfl _ Try.underlying25 rfl (size25_iv _ _)) rfl ⟨?_, hS.below⟩
    rfl

set_option maxHeartbeats 400000 in
theorem rcompare (n m : Nat) (hn : n < pw 32) (hm : m < pw 32) : Gives Try.prog 59 #[.agg (mgk 32 n), .agg (mgk 32 m)] (.int .i64 (cmpv n m)) := by
  intro w
  have hS := St.start w
  have HN := Lib.hid hn
  have HM := Lib.hid hm
  clear hn hm
  go_enter Try.func59, Try.ntmps59
  go_wp2_with (first | (refine L_box_agg hS rfl rfl ?_; refine ⟨_, rfl, ?_⟩; clear hS; intro _ _ hS))
  rename_i b1 _ b2 w1 _ _
  go_loopw [5] (fun i wr => ∃ k : Nat, k ≤ 32 ∧ i = .int .i64 ((k : Int) - 1) ∧ Hid (n / pw k = m / pw k) ∧ St none w wr [] [(b2, .cells (mgk 32 m) 23), (b1, .cells (mgk 32 n) 23)]) (fun i _ => (intOf i + 1).toNat)
  case atStart =>
    exact ⟨32, by omega, by go_num, by show n / pw 32 = m / pw 32; rw [Nat.div_eq_of_lt HN.out, Nat.div_eq_of_lt HM.out], hS⟩
  case round =>
    clear hS
    obtain ⟨k, hk, rfl, HE, hS⟩ := hrel
    rcases k with _ | j
    · have HC := Lib.hid (cmpv_eq (show n = m by have := HE.out; rwa [div_pw_zero, div_pw_zero] at this))
      go_wp2
      go_ret
      exact ⟨by rw [HC.out]; rfl, hS.below⟩
    · have ej : ((j + 1 : Nat) : Int) - 1 = (j : Int) := by omega
      rw [ej]
      clear ej
      have HC := cmp_step HE.out
      have hj : (j : Int) < 32 := by omega
      rcases Nat.lt_trichotomy (limb n j) (limb m j) with he | he | he
      · have HQ := Lib.hid (HC.2 (by omega))
        have HV := Lib.hid (cmpv_lt he)
        have hb1 : ((limb n j : Nat) : Int) < ((limb m j : Nat) : Int) := by omega
        clear he HC
        go_wp2_with (fail)
        (try simp only [Act.put]); (try simp only [List.setIfInBounds_toArray, List.set_cons_succ, List.set_cons_zero]); refine wp_region_w0 hS (by kernel_rfl) (by kernel_rfl) ?_
        repeat (first
          | (refine S_load (t := 22) rfl rfl rfl rfl ?_; refine ⟨_, fun _ hS' => run_load_cell hS' _ _ rfl _ _ rfl _ _ (.inl (.head _)) _ Try.underlying22 rfl _ (mgk_get' (by omega)), ?_⟩; simp only [Act.put, List.setIfInBounds_toArray, List.set_cons_succ, List.set_cons_zero])
          | (refine S_load (t := 22) rfl rfl rfl rfl ?_; refine ⟨_, fun _ hS' => run_load_cell hS' _ _ rfl _ _ rfl _ _ (.inl (.tail _ (.head _))) _ Try.underlying22 rfl _ (mgk_get' (by omega)), ?_⟩; simp only [Act.put, List.setIfInBounds_toArray, List.set_cons_succ, List.set_cons_zero])
          | (refine S_run rfl rfl ?_; apply Exists.intro; refine ⟨fun _ => ?_, ?_⟩; (focus (go_simp; (try go_bits); exact rfl)); simp only [Act.put, List.setIfInBounds_toArray, List.set_cons_succ, List.set_cons_zero]))
        refine S_end0 ?_; clear hS; intro _ hS
        go_wp2
        go_ret
        exact ⟨by rw [← HQ.out, HV.out]; rfl, hS.below⟩
      · have HQ := Lib.hid (HC.1 he)
        have hb1 : ¬ ((limb n j : Nat) : Int) < ((limb m j : Nat) : Int) := by omega
        have hb2 : ¬ ((limb m j : Nat) : Int) < ((limb n j : Nat) : Int) := by omega
        clear he HC
        go_wp2_with (fail)
        (try simp only [Act.put]); (try simp only [List.setIfInBounds_toArray, List.set_cons_succ, List.set_cons_zero]); refine wp_region_w0 hS (by kernel_rfl) (by kernel_rfl) ?_
        repeat (first
          | (refine S_load (t := 22) rfl rfl rfl rfl ?_; refine ⟨_, fun _ hS' => run_load_cell hS' _ _ rfl _ _ rfl _ _ (.inl (.head _)) _ Try.underlying22 rfl _ (mgk_get' (by omega)), ?_⟩; simp only [Act.put, List.setIfInBounds_toArray, List.set_cons_succ, List.set_cons_zero])
          | (refine S_load (t := 22) rfl rfl rfl rfl ?_; refine ⟨_, fun _ hS' => run_load_cell hS' _ _ rfl _ _ rfl _ _ (.inl (.tail _ (.head _))) _ Try.underlying22 rfl _ (mgk_get' (by omega)), ?_⟩; simp only [Act.put, List.setIfInBounds_toArray, List.set_cons_succ, List.set_cons_zero])
          | (refine S_run rfl rfl ?_; apply Exists.intro; refine ⟨fun _ => ?_, ?_⟩; (focus (go_simp; (try go_bits); exact rfl)); simp only [Act.put, List.setIfInBounds_toArray, List.set_cons_succ, List.set_cons_zero]))
        refine S_end0 ?_; clear hS; intro _ hS
        go_wp2_with (fail)
        (try simp only [Act.put]); (try simp only [List.setIfInBounds_toArray, List.set_cons_succ, List.set_cons_zero]); refine wp_region_w0 hS (by kernel_rfl) (by kernel_rfl) ?_
        repeat (first
          | (refine S_load (t := 22) rfl rfl rfl rfl ?_; refine ⟨_, fun _ hS' => run_load_cell hS' _ _ rfl _ _ rfl _ _ (.inl (.head _)) _ Try.underlying22 rfl _ (mgk_get' (by omega)), ?_⟩; simp only [Act.put, List.setIfInBounds_toArray, List.set_cons_succ, List.set_cons_zero])
          | (refine S_load (t := 22) rfl rfl rfl rfl ?_; refine ⟨_, fun _ hS' => run_load_cell hS' _ _ rfl _ _ rfl _ _ (.inl (.tail _ (.head _))) _ Try.underlying22 rfl _ (mgk_get' (by omega)), ?_⟩; simp only [Act.put, List.setIfInBounds_toArray, List.set_cons_succ, List.set_cons_zero])
          | (refine S_run rfl rfl ?_; apply Exists.intro; refine ⟨fun _ => ?_, ?_⟩; (focus (go_simp; (try go_bits); exact rfl)); simp only [Act.put, List.setIfInBounds_toArray, List.set_cons_succ, List.set_cons_zero]))
        refine S_end0 ?_; clear hS; intro _ hS
        go_wp2
        go_roundw
        case rel => exact ⟨j, by omega, rfl, HQ, hS⟩
        case measure => simp [intOf]
      · have HQ := Lib.hid (HC.2 (by omega))
        have HV := Lib.hid (cmpv_gt he)
        have hb1 : ¬ ((limb n j : Nat) : Int) < ((limb m j : Nat) : Int) := by omega
        have hb2 : ((limb m j : Nat) : Int) < ((limb n j : Nat) : Int) := by omega
        clear he HC
        go_wp2_with (fail)
        (try simp only [Act.put]); (try simp only [List.setIfInBounds_toArray, List.set_cons_succ, List.set_cons_zero]); refine wp_region_w0 hS (by kernel_rfl) (by kernel_rfl) ?_
        repeat (first
          | (refine S_load (t := 22) rfl rfl rfl rfl ?_; refine ⟨_, fun _ hS' => run_load_cell hS' _ _ rfl _ _ rfl _ _ (.inl (.head _)) _ Try.underlying22 rfl _ (mgk_get' (by omega)), ?_⟩; simp only [Act.put, List.setIfInBounds_toArray, List.set_cons_succ, List.set_cons_zero])
          | (refine S_load (t := 22) rfl rfl rfl rfl ?_; refine ⟨_, fun _ hS' => run_load_cell hS' _ _ rfl _ _ rfl _ _ (.inl (.tail _ (.head _))) _ Try.underlying22 rfl _ (mgk_get' (by omega)), ?_⟩; simp only [Act.put, List.setIfInBounds_toArray, List.set_cons_succ, List.set_cons_zero])
          | (refine S_run rfl rfl ?_; apply Exists.intro; refine ⟨fun _ => ?_, ?_⟩; (focus (go_simp; (try go_bits); exact rfl)); simp only [Act.put, List.setIfInBounds_toArray, List.set_cons_succ, List.set_cons_zero]))
        refine S_end0 ?_; clear hS; intro _ hS
        go_wp2_with (fail)
        (try simp only [Act.put]); (try simp only [List.setIfInBounds_toArray, List.set_cons_succ, List.set_cons_zero]); refine wp_region_w0 hS (by kernel_rfl) (by kernel_rfl) ?_
        repeat (first
          | (refine S_load (t := 22) rfl rfl rfl rfl ?_; refine ⟨_, fun _ hS' => run_load_cell hS' _ _ rfl _ _ rfl _ _ (.inl (.head _)) _ Try.underlying22 rfl _ (mgk_get' (by omega)), ?_⟩; simp only [Act.put, List.setIfInBounds_toArray, List.set_cons_succ, List.set_cons_zero])
          | (refine S_load (t := 22) rfl rfl rfl rfl ?_; refine ⟨_, fun _ hS' => run_load_cell hS' _ _ rfl _ _ rfl _ _ (.inl (.tail _ (.head _))) _ Try.underlying22 rfl _ (mgk_get' (by omega)), ?_⟩; simp only [Act.put, List.setIfInBounds_toArray, List.set_cons_succ, List.set_cons_zero])
          | (refine S_run rfl rfl ?_; apply Exists.intro; refine ⟨fun _ => ?_, ?_⟩; (focus (go_simp; (try go_bits); exact rfl)); simp only [Act.put, List.setIfInBounds_toArray, List.set_cons_succ, List.set_cons_zero]))
        refine S_end0 ?_; clear hS; intro _ hS
        go_wp2
        go_ret
        exact ⟨by rw [← HQ.out, HV.out]; rfl, hS.below⟩
end Go.Proofs.Ytlccefdjhiedcaa
end
section
namespace Go.Proofs.Ytlccefdjhiedcaa
open Go.Proofs.Ytlccefdjhiedcaa.Sx
set_option linter.unusedSimpArgs false
set_option linter.unusedVariables false

theorem shr32 (n : Nat) : shfI .shr .u64 ((n : Nat) : Int) 32 = ((n / 4294967296 : Nat) : Int) := by
  simp only [shfI, IntKind.bits]
  rw [Int.fdiv_eq_ediv_of_nonneg _ (by decide)]
  simp
set_option maxHeartbeats 1000000 in
theorem rmul_inner (s t : Bool) (n m i W : Nat) (hi : i < nl n) (hm : m < pw 32) (hW : W = n % pw i * m) (c' W' : Nat) (hc' : ∀ c V, c < 4294967296 → V < pw (i + nl m) → V + c * pw (i + nl m) = mulV n m i (nl m) → c = c' ∧ V = W') :
    Ev.holds Try.prog (env [.bool s, .agg (mgk 32 n), .bool t, .agg (mgk 32 m), .int .i64 (nl n : Nat), .int .i64 (nl m : Nat), .int .i64 (i : Nat), .agg (mgk 64 W), .int .i64 (nl m : Nat), .int .u64 (c' : Nat), .agg (mgk 64 W')]) (.loop 26 1 mulS26_1 mulH26_1 (.exit 2) .none 3) := by
  have h1 := nl_le n
  have h2 := nl_le m
  have hml := nl_lt hm
  refine loop_holds plain (m := 3) (x := .exit 2) (alt := none) [.bool s, .agg (mgk 32 n), .bool t, .agg (mgk 32 m), .int .i64 (nl n : Nat), .int .i64 (nl m : Nat), .int .i64 (i : Nat), .agg (mgk 64 W)] [.int .i64 (nl m : Nat), .int .u64 (c' : Nat), .agg (mgk 64 W')] tMul1_ok tMul1_fine
    (fun vs => ∃ j c V : Nat, j ≤ nl m ∧ c < 4294967296 ∧ V + c * pw (i + j) = mulV n m i j ∧ V < pw (i + nl m) ∧ vs = [.int .i64 (j : Nat), .int .u64 (c : Nat), .agg (mgk 64 V)])
    (fun vs => nl m - (vInt (vs.getD 0 undef)).toNat) tMul1_diff ?_ ?_
  · refine ⟨[.int .i64 (0 : Nat), .int .u64 (0 : Nat), .agg (mgk 64 W)], rfl, ⟨0, 0, W, by omega, by omega, ?_, ?_, rfl⟩, ?_⟩
    · rw [mulV_zero, hW]; omega
    · rw [hW]; exact mul_small hml
    · simp [tMul1_d, BTm.den, Tm.i, Tm.s, Tm.den, env, vInt, vBool, vStr, exI, SW.den, SV.den, Cell.den, densP, Piece.den, denV, denT]
  · rintro vs hl ⟨j, c, V, hj, hc, hV, hVb, rfl⟩
    clear hl
    refine tree_ite (ev_nil ⟨fun hlt => tree_leaf ?_, fun hlt => tree_leaf (ev_nil ?_)⟩)
    · have hlt : j < nl m := by simpa [BTm.den, Tm.i, Tm.s, Tm.den, env, vInt, vBool, vStr, exI] using hlt
      have hx := limb_lt n i
      have hy := limb_lt m j
      have hz := limb_lt V (i + j)
      have hT := mulT_lt (a := n) (b := m) (i := i) (j := j) (W := V) hc
      have hxy := mul_bound _ _ hx hy
      have hTd : mulT n m i j V c = c + (limb n i * limb m j + limb V (i + j)) := rfl
      have hTc : ((limb n i : Int) * (limb m j : Int) + (limb V (i + j) : Int) + (c : Int)) = ((mulT n m i j V c : Nat) : Int) := by rw [hTd]; push_cast; omega
      refine ev_need (by simp [BTm.den, Tm.i, Tm.s, Tm.den, env, vInt, vBool, vStr, exI] <;> omega) ?_
      refine ev_need (by simp [BTm.den, Tm.i, Tm.s, Tm.den, env, vInt, vBool, vStr, exI] <;> omega) ?_
      refine ev_elem [.int .u32 (limb n i : Nat)] rfl rfl (l := mgl 32 n) (m := [.int .u32 (limb n i : Nat)]) (k := i) (by simp [BTm.den, Tm.i, Tm.s, Tm.den, env, vInt, vBool, vStr, exI] <;> omega) (fun β => rowCells_mgk 32 n) (fun β => rfl) (mgl_elem (by omega)) ?_
      refine ev_fits ((limb n i : Nat)) (by simp [BTm.den, Tm.i, Tm.s, Tm.den, env, vInt, vBool, vStr, exI]) (rng_u64 _ (by omega)) ?_
      refine ev_need (by simp [BTm.den, Tm.i, Tm.s, Tm.den, env, vInt, vBool, vStr, exI] <;> omega) ?_
      refine ev_need (by simp [BTm.den, Tm.i, Tm.s, Tm.den, env, vInt, vBool, vStr, exI] <;> omega) ?_
      refine ev_elem [.int .u32 (limb m j : Nat)] rfl rfl (l := mgl 32 m) (m := [.int .u32 (limb m j : Nat)]) (k := j) (by simp [BTm.den, Tm.i, Tm.s, Tm.den, env, vInt, vBool, vStr, exI] <;> omega) (fun β => rowCells_mgk 32 m) (fun β => rfl) (mgl_elem (by omega)) ?_
      refine ev_fits ((limb m j : Nat)) (by simp [BTm.den, Tm.i, Tm.s, Tm.den, env, vInt, vBool, vStr, exI]) (rng_u64 _ (by omega)) ?_
      refine ev_fits (((limb n i * limb m j : Nat) : Int)) (by simp [BTm.den, Tm.i, Tm.s, Tm.den, env, vInt, vBool, vStr, exI]) (rng_u64 _ (by omega)) ?_
      refine ev_fits (((i + j : Nat) : Int)) (by simp [BTm.den, Tm.i, Tm.s, Tm.den, env, vInt, vBool, vStr, exI]) (rng_i64 _ (by omega)) ?_
      refine ev_need (by simp [BTm.den, Tm.i, Tm.s, Tm.den, env, vInt, vBool, vStr, exI] <;> omega) ?_
      refine ev_need (by simp [BTm.den, Tm.i, Tm.s, Tm.den, env, vInt, vBool, vStr, exI] <;> omega) ?_
      refine ev_elem [.int .u32 (limb V (i + j) : Nat)] rfl rfl (l := mgl 64 V) (m := [.int .u32 (limb V (i + j) : Nat)]) (k := i + j) (by simp [BTm.den, Tm.i, Tm.s, Tm.den, env, vInt, vBool, vStr, exI] <;> omega) (fun β => rowCells_mgk 64 V) (fun β => rfl) (mgl_elem (by omega)) ?_
      refine ev_fits ((limb V (i + j) : Nat)) (by simp [BTm.den, Tm.i, Tm.s, Tm.den, env, vInt, vBool, vStr, exI]) (rng_u64 _ (by omega)) ?_
      refine ev_fits (((limb n i * limb m j + limb V (i + j) : Nat) : Int)) (by simp [BTm.den, Tm.i, Tm.s, Tm.den, env, vInt, vBool, vStr, exI]) (rng_u64 _ (by omega)) ?_
      refine ev_fits ((mulT n m i j V c : Nat) : Int) (by simpa [BTm.den, Tm.i, Tm.s, Tm.den, env, vInt, vBool, vStr, exI] using hTc) (rng_u64 _ (by omega)) ?_
      refine ev_fits (((i + j : Nat) : Int)) (by simp [BTm.den, Tm.i, Tm.s, Tm.den, env, vInt, vBool, vStr, exI]) (rng_i64 _ (by omega)) ?_
      refine ev_need (by simp [BTm.den, Tm.i, Tm.s, Tm.den, env, vInt, vBool, vStr, exI] <;> omega) ?_
      refine ev_need (by simp [BTm.den, Tm.i, Tm.s, Tm.den, env, vInt, vBool, vStr, exI] <;> omega) ?_
      have hput : (mgl 64 V).take (i + j) ++ [.int .u32 ((mulT n m i j V c % 4294967296 : Nat) : Int)] ++ (mgl 64 V).drop (i + j + 1) = mgl 64 (put V (i + j) (mulT n m i j V c % 4294967296)) := (mgl_put (by omega) rfl (by omega)).symm
      refine ev_put [.agg (mgk 64 (put V (i + j) (mulT n m i j V c % 4294967296)))] rfl rfl (l := mgl 64 V) (l' := mgl 64 (put V (i + j) (mulT n m i j V c % 4294967296))) (m := [.int .u32 ((mulT n m i j V c % 4294967296 : Nat) : Int)]) (k := i + j) (by simp [BTm.den, Tm.i, Tm.s, Tm.den, env, vInt, vBool, vStr, exI]; omega) (fun β => rowCells_mgk 64 V) (fun β => rowCells_mgk 64 _) (fun β => ?_) hput.symm (by rw [mgl_length]; simp; omega) ?_
      · rw [← wrap_u32, ← hTc]; simp [BTm.den, Tm.i, Tm.s, Tm.den, env, vInt, vBool, vStr, exI, SW.den, SV.den, Cell.den, densP, Piece.den, denV, denT]
      refine ev_fits (((j + 1 : Nat) : Int)) (by simp [BTm.den, Tm.i, Tm.s, Tm.den, env, vInt, vBool, vStr, exI]) (rng_i64 _ (by omega)) ?_
      refine ev_nil ?_
      refine ⟨[.int .i64 (j + 1 : Nat), .int .u64 (mulT n m i j V c / 4294967296 : Nat), .agg (mgk 64 (put V (i + j) (mulT n m i j V c % 4294967296)))], rfl, ⟨j + 1, _, _, by omega, hT.2, mul_step hV, put_lt hVb (by omega) (by omega), rfl⟩, ?_, ?_⟩
      · simp [vInt]; omega
      · have hsh := shr32 (mulT n m i j V c)
        rw [← hTc] at hsh
        simp [BTm.den, Tm.i, Tm.s, Tm.den, env, vInt, vBool, vStr, exI, SW.den, SV.den, Cell.den, densP, Piece.den, denV, denT, hsh]
    · have hlt : ¬ j < nl m := by simpa [BTm.den, Tm.i, Tm.s, Tm.den, env, vInt, vBool, vStr, exI] using hlt
      have hjm : j = nl m := by omega
      subst hjm
      obtain ⟨rfl, rfl⟩ := hc' c V hc hVb hV
      exact ⟨rfl, by simp [BTm.den, Tm.i, Tm.s, Tm.den, env, vInt, vBool, vStr, exI, SW.den, SV.den, Cell.den, densP, Piece.den, denV, denT]⟩

theorem mul_carry {n m i : Nat} (hm : m < pw (nl m)) (c V : Nat) (hc : c < 4294967296) (hV : V < pw (i + nl m)) (h : V + c * pw (i + nl m) = mulV n m i (nl m)) : c = n % pw (i + 1) * m / pw (i + nl m) ∧ V = n % pw (i + 1) * m % pw (i + nl m) := by
  rw [mulV_round hm] at h
  have hp := pw_pos (i + nl m)
  rw [← h]
  constructor
  · rw [Nat.add_mul_div_right _ _ hp, Nat.div_eq_of_lt hV, Nat.zero_add]
  · rw [Nat.add_mul_mod_self_right, Nat.mod_eq_of_lt hV]
set_option maxHeartbeats 1000000 in
theorem rmul_outer (s t : Bool) (n m : Nat) (hn : n < pw 32) (hm : m < pw 32) :
    Ev.holds Try.prog (env [.bool s, .agg (mgk 32 n), .bool t, .agg (mgk 32 m), .int .i64 (nl n : Nat), .int .i64 (nl m : Nat), .int .i64 (nl n : Nat), .agg (mgk 64 (n * m))]) (.loop 26 0 mulS26_0 mulH26_0 (.exit 0) .none 2) := by
  have h1 := nl_le n
  have h2 := nl_le m
  have hml := nl_lt hm
  have hnl := nl_lt hn
  refine loop_holds plain (m := 2) (x := .exit 0) (alt := none) [.bool s, .agg (mgk 32 n), .bool t, .agg (mgk 32 m), .int .i64 (nl n : Nat), .int .i64 (nl m : Nat)] [.int .i64 (nl n : Nat), .agg (mgk 64 (n * m))] tMul0_ok tMul0_fine
    (fun vs => ∃ i : Nat, i ≤ nl n ∧ vs = [.int .i64 (i : Nat), .agg (mgk 64 (n % pw i * m))])
    (fun vs => nl n - (vInt (vs.getD 0 undef)).toNat) tMul0_diff ?_ ?_
  · refine ⟨[.int .i64 (0 : Nat), .agg (mgk 64 (n % pw 0 * m))], rfl, ⟨0, by omega, rfl⟩, ?_⟩
    have hz : rowCells (.agg (mgk 64 (n % pw 0 * m))) 64 = List.replicate 64 (.int .u32 0) := by rw [rowCells_mgk, mod_pw_zero, Nat.zero_mul, mgl_zero]
    simp [tMul0_d, BTm.den, Tm.i, Tm.s, Tm.den, env, vInt, vBool, vStr, exI, SW.den, SV.den, Cell.den, densP, Piece.den, denV, denT, hz]
  · rintro vs hl ⟨i, hi, rfl⟩
    clear hl
    refine tree_ite (ev_nil ⟨fun hlt => tree_leaf ?_, fun hlt => tree_leaf (ev_nil ?_)⟩)
    · have hlt : i < nl n := by simpa [BTm.den, Tm.i, Tm.s, Tm.den, env, vInt, vBool, vStr, exI] using hlt
      obtain ⟨C, V0, hC, hV0, hput0, hcr⟩ : ∃ C V0 : Nat, C < 4294967296 ∧ V0 < pw (i + nl m) ∧ put V0 (i + nl m) C = n % pw (i + 1) * m ∧ ∀ c V, c < 4294967296 → V < pw (i + nl m) → V + c * pw (i + nl m) = mulV n m i (nl m) → c = C ∧ V = V0 := by
        refine ⟨n % pw (i + 1) * m / pw (i + nl m), n % pw (i + 1) * m % pw (i + nl m), ?_, Nat.mod_lt _ (pw_pos _), ?_, mul_carry hml⟩
        · have := mul_small (a := n) (i := i + 1) hml
          rw [show i + 1 + nl m = i + nl m + 1 by omega, pw_succ] at this
          exact Nat.div_lt_of_lt_mul this
        · rw [put_low _ (Nat.mod_lt _ (pw_pos _)), Nat.mul_comm (_ / _)]; exact Nat.mod_add_div _ _
      obtain ⟨R, hR⟩ : ∃ R, R = n % pw (i + 1) * m := ⟨_, rfl⟩
      have hin := rmul_inner s t n m i (n % pw i * m) hlt hm rfl C V0 hcr
      obtain ⟨W, hW⟩ : ∃ W, W = n % pw i * m := ⟨_, rfl⟩
      rw [← hW] at hin ⊢
      rw [← hR] at hput0
      refine ev_loop [.int .i64 (nl m : Nat), .int .u64 (C : Nat), .agg (mgk 64 V0)] rfl rfl hin ?_
      refine ev_fits (((i + nl m : Nat) : Int)) (by simp [BTm.den, Tm.i, Tm.s, Tm.den, env, vInt, vBool, vStr, exI]) (rng_i64 _ (by omega)) ?_
      refine ev_need (by simp [BTm.den, Tm.i, Tm.s, Tm.den, env, vInt, vBool, vStr, exI] <;> omega) ?_
      refine ev_need (by simp [BTm.den, Tm.i, Tm.s, Tm.den, env, vInt, vBool, vStr, exI] <;> omega) ?_
      have hput : (mgl 64 V0).take (i + nl m) ++ [.int .u32 ((C : Nat) : Int)] ++ (mgl 64 V0).drop (i + nl m + 1) = mgl 64 R := by
        rw [← mgl_put (n := V0) (show i + nl m < 64 by omega) rfl hC, hput0]
      refine ev_put [.agg (mgk 64 R)] rfl rfl (l := mgl 64 V0) (l' := mgl 64 R) (m := [.int .u32 ((C : Nat) : Int)]) (k := i + nl m) (by simp [BTm.den, Tm.i, Tm.s, Tm.den, env, vInt, vBool, vStr, exI] <;> omega) (fun β => rowCells_mgk 64 _) (fun β => rowCells_mgk 64 _) (fun β => ?_) hput.symm (by rw [mgl_length]; simp; omega) ?_
      · have := wrap_u32 C
        rw [Nat.mod_eq_of_lt hC] at this
        simp [BTm.den, Tm.i, Tm.s, Tm.den, env, vInt, vBool, vStr, exI, SW.den, SV.den, Cell.den, densP, Piece.den, denV, denT, this]
      refine ev_fits (((i + 1 : Nat) : Int)) (by simp [BTm.den, Tm.i, Tm.s, Tm.den, env, vInt, vBool, vStr, exI]) (rng_i64 _ (by omega)) ?_
      refine ev_nil ⟨[.int .i64 (i + 1 : Nat), .agg (mgk 64 R)], rfl, ⟨i + 1, by omega, by rw [hR]⟩, ?_, ?_⟩
      · simp [vInt]; omega
      · simp [BTm.den, Tm.i, Tm.s, Tm.den, env, vInt, vBool, vStr, exI, SW.den, SV.den, Cell.den, densP, Piece.den, denV, denT]
    · have hlt : ¬ i < nl n := by simpa [BTm.den, Tm.i, Tm.s, Tm.den, env, vInt, vBool, vStr, exI] using hlt
      have hjm : i = nl n := by omega
      subst hjm
      refine ⟨rfl, ?_⟩
      have : n % pw (nl n) * m = n * m := mul_end hnl
      simp [BTm.den, Tm.i, Tm.s, Tm.den, env, vInt, vBool, vStr, exI, SW.den, SV.den, Cell.den, densP, Piece.den, denV, denT, this]

set_option maxHeartbeats 1000000 in
theorem rmul_last (s t : Bool) (n m V k : Nat) (e : Int) (b : Bool) (hk : (b = false ∧ k = 32 ∧ e = 0 ∧ ∀ j, j < 32 → limb V (32 + j) = 0) ∨ (b = true ∧ k < 32 ∧ e = 10 ∧ (∀ j, j < k → limb V (32 + j) = 0) ∧ limb V (32 + k) ≠ 0)) :
    Ev.holds Try.prog (env [.bool s, .agg (mgk 32 n), .bool t, .agg (mgk 32 m), .int .i64 (nl n : Nat), .int .i64 (nl m : Nat), .int .i64 (nl n : Nat), .agg (mgk 64 V), .int .i64 (k : Nat), .int .i64 e, .agg (mgk 32 (V % pw k)), .bool b]) (.loop 26 2 mulS26_2 mulH26_2 (.exit 4) (.some (11, .ret)) 4) := by
  refine loop_holds plain (m := 4) (x := .exit 4) (alt := .some (11, .ret)) [.bool s, .agg (mgk 32 n), .bool t, .agg (mgk 32 m), .int .i64 (nl n : Nat), .int .i64 (nl m : Nat), .int .i64 (nl n : Nat), .agg (mgk 64 V)] [.int .i64 (k : Nat), .int .i64 e, .agg (mgk 32 (V % pw k)), .bool b] tMul2_ok tMul2_fine
    (fun vs => ∃ i : Nat, i ≤ 32 ∧ (∀ j, j < i → limb V (32 + j) = 0) ∧ vs = [.int .i64 (i : Nat), .int .i64 0, .agg (mgk 32 (V % pw i)), .bool false])
    (fun vs => 32 - (vInt (vs.getD 0 undef)).toNat) tMul2_diff ?_ ?_
  · refine ⟨[.int .i64 (0 : Nat), .int .i64 0, .agg (mgk 32 (V % pw 0)), .bool false], rfl, ⟨0, by omega, fun j hj => by omega, rfl⟩, ?_⟩
    have hz : rowCells (.agg (mgk 32 (V % pw 0))) 32 = List.replicate 32 (.int .u32 0) := by rw [rowCells_mgk, mod_pw_zero, mgl_zero]
    simp [tMul2_d, BTm.den, Tm.i, Tm.s, Tm.den, env, vInt, vBool, vStr, exI, SW.den, SV.den, Cell.den, densP, Piece.den, denV, denT, hz]
  · rintro vs hl ⟨i, hi, hz, rfl⟩
    clear hl
    refine tree_ite (ev_nil ⟨fun hlt => tree_ite ?_, fun hlt => tree_leaf (ev_nil ?_)⟩)
    · have hlt : i < 32 := by
        have : (i : Int) < 32 := by simpa [BTm.den, Tm.i, Tm.s, Tm.den, env, vInt, vBool, vStr, exI] using hlt
        omega
      refine ev_fits (((32 + i : Nat) : Int)) (by simp [BTm.den, Tm.i, Tm.s, Tm.den, env, vInt, vBool, vStr, exI]) (rng_i64 _ (by omega)) ?_
      refine ev_need (by simp [BTm.den, Tm.i, Tm.s, Tm.den, env, vInt, vBool, vStr, exI] <;> omega) ?_
      refine ev_need (by simp [BTm.den, Tm.i, Tm.s, Tm.den, env, vInt, vBool, vStr, exI] <;> omega) ?_
      refine ev_elem [.int .u32 (limb V (32 + i) : Nat)] rfl rfl (l := mgl 64 V) (m := [.int .u32 (limb V (32 + i) : Nat)]) (k := 32 + i) (by simp [BTm.den, Tm.i, Tm.s, Tm.den, env, vInt, vBool, vStr, exI] <;> omega) (fun β => rowCells_mgk 64 V) (fun β => rfl) (mgl_elem (by omega)) ?_
      refine ev_nil ⟨fun h0 => tree_leaf ?_, fun h0 => tree_leaf (ev_nil ?_)⟩
      · have h0 : limb V (32 + i) = 0 := by
          have : ((limb V (32 + i) : Nat) : Int) = 0 := by simpa [BTm.den, Tm.i, Tm.s, Tm.den, env, vInt, vBool, vStr, exI] using h0
          omega
        have hb := limb_lt V i
        refine ev_need (by simp [BTm.den, Tm.i, Tm.s, Tm.den, env, vInt, vBool, vStr, exI] <;> omega) ?_
        refine ev_need (by simp [BTm.den, Tm.i, Tm.s, Tm.den, env, vInt, vBool, vStr, exI] <;> omega) ?_
        refine ev_elem [.int .u32 (limb V i : Nat)] rfl rfl (l := mgl 64 V) (m := [.int .u32 (limb V i : Nat)]) (k := i) (by simp [BTm.den, Tm.i, Tm.s, Tm.den, env, vInt, vBool, vStr, exI] <;> omega) (fun β => rowCells_mgk 64 V) (fun β => rfl) (mgl_elem (by omega)) ?_
        refine ev_need (by simp [BTm.den, Tm.i, Tm.s, Tm.den, env, vInt, vBool, vStr, exI] <;> omega) ?_
        refine ev_need (by simp [BTm.den, Tm.i, Tm.s, Tm.den, env, vInt, vBool, vStr, exI] <;> omega) ?_
        obtain ⟨W, hW⟩ : ∃ W, W = V % pw i := ⟨_, rfl⟩
        obtain ⟨W', hW'⟩ : ∃ W, W = V % pw (i + 1) := ⟨_, rfl⟩
        have hput : mgl 32 W' = (mgl 32 W).take i ++ [.int .u32 ((limb V i : Nat) : Int)] ++ (mgl 32 W).drop (i + 1) := by
          rw [← mgl_put (n := W) (show i < 32 by omega) rfl hb, put_low _ (by rw [hW]; exact Nat.mod_lt _ (pw_pos i)), hW', hW, mod_pw]
        rw [← hW]
        refine ev_put [.agg (mgk 32 W')] rfl rfl (l := mgl 32 W) (l' := mgl 32 W') (m := [.int .u32 ((limb V i : Nat) : Int)]) (k := i) (by simp [BTm.den, Tm.i, Tm.s, Tm.den, env, vInt, vBool, vStr, exI] <;> omega) (fun β => rowCells_mgk 32 _) (fun β => rowCells_mgk 32 _) (fun β => rfl) hput (by rw [mgl_length]; simp; omega) ?_
        refine ev_fits (((i + 1 : Nat) : Int)) (by simp [BTm.den, Tm.i, Tm.s, Tm.den, env, vInt, vBool, vStr, exI]) (rng_i64 _ (by omega)) ?_
        refine ev_nil ⟨[.int .i64 (i + 1 : Nat), .int .i64 0, .agg (mgk 32 W'), .bool false], rfl, ⟨i + 1, by omega, fun j hj => ?_, by rw [hW']⟩, ?_, ?_⟩
        · by_cases hji : j = i
          · subst hji; exact h0
          · exact hz j (by omega)
        · simp [vInt]; omega
        · simp [BTm.den, Tm.i, Tm.s, Tm.den, env, vInt, vBool, vStr, exI, SW.den, SV.den, Cell.den, densP, Piece.den, denV, denT]
      · have h0 : limb V (32 + i) ≠ 0 := by
          intro hc
          have : ¬ ((limb V (32 + i) : Nat) : Int) = 0 := by simpa [BTm.den, Tm.i, Tm.s, Tm.den, env, vInt, vBool, vStr, exI] using h0
          omega
        rcases hk with ⟨_, _, _, ha⟩ | ⟨rfl, hk, rfl, ha, hb⟩
        · exact absurd (ha i hlt) h0
        · have hik : i = k := by
            rcases Nat.lt_trichotomy i k with h | h | h
            · exact absurd (ha i h) h0
            · exact h
            · exact absurd (hz k h) hb
          subst hik
          exact ⟨rfl, by simp [BTm.den, Tm.i, Tm.s, Tm.den, env, vInt, vBool, vStr, exI, SW.den, SV.den, Cell.den, densP, Piece.den, denV, denT]⟩
    · have hi32 : i = 32 := by
        have : ¬ (i : Int) < 32 := by simpa [BTm.den, Tm.i, Tm.s, Tm.den, env, vInt, vBool, vStr, exI] using hlt
        omega
      subst hi32
      rcases hk with ⟨rfl, rfl, rfl, ha⟩ | ⟨rfl, hk, rfl, ha, hb⟩
      · exact ⟨rfl, by simp [BTm.den, Tm.i, Tm.s, Tm.den, env, vInt, vBool, vStr, exI, SW.den, SV.den, Cell.den, densP, Piece.den, denV, denT]⟩
      · exact absurd (hz k hk) hb

theorem up_zero {V : Nat} (hV : V < pw 64) (h : ∀ j, j < 32 → limb V (32 + j) = 0) : V < pw 32 := by
  have h0 : V / pw 32 = 0 := limb_ext (k := 32) (by rw [Nat.div_lt_iff_lt_mul (pw_pos _), ← pw_add]; exact hV) (pw_pos 32) fun j hj => by rw [← limb_up, h j hj, limb_zero]
  have := Nat.div_add_mod V (pw 32)
  rw [h0] at this
  have := Nat.mod_lt V (pw_pos 32)
  omega
theorem first_up (V : Nat) : ∀ K, (∀ j, j < K → limb V (32 + j) = 0) ∨ ∃ k, k < K ∧ (∀ j, j < k → limb V (32 + j) = 0) ∧ limb V (32 + k) ≠ 0
  | 0 => .inl fun j hj => by omega
  | K + 1 => by
    rcases first_up V K with h | ⟨k, h1, h2, h3⟩
    · by_cases hz : limb V (32 + K) = 0
      · refine .inl fun j hj => ?_
        by_cases hjk : j = K
        · subst hjk; exact hz
        · exact h j (by omega)
      · exact .inr ⟨K, by omega, h, hz⟩
    · exact .inr ⟨k, by omega, h2, h3⟩
theorem rvz_mul (s t : Bool) (n m : Nat) : vz s n * vz t m = vz (s != t) (n * m) := by
  unfold vz; cases s <;> cases t <;> simp [Int.neg_mul, Int.mul_neg]
set_option maxHeartbeats 1000000 in
theorem rmul_any (s t : Bool) (n m : Nat) (hn : n < pw 32) (hm : m < pw 32) : Gives Try.prog 26 #[.agg (iv s n), .agg (iv t m)] (resZ (vz s n * vz t m)) := by
  have hV : n * m < pw 64 := by
    rw [show (64 : Nat) = 32 + 32 by rfl, pw_add]
    exact Nat.mul_lt_mul_of_lt_of_le hn (Nat.le_of_lt hm) (pw_pos 32)
  have hlim : ∀ j, 0 ≤ j → n * m < pw 32 → limb (n * m) (32 + j) = 0 := fun j _ h => limb_of_ge (Nat.lt_of_lt_of_le h (pw_le (by omega)))
  have main : ∀ v, (∀ W : Nat, True) → v = resZ (vz s n * vz t m) → (tMul.den Try.prog (fun ρ' ret => ∀ β, ret.val.den (env ρ') β = v) [.bool s, .agg (mgk 32 n), .bool t, .agg (mgk 32 m)]) := by
    intro v _ hv
    refine tree_ite ?_
    refine ev_call [.int .i64 (nl n : Nat)] rfl rfl (pure_gives (rlimbs_any n)) (fun β => by simp [BTm.den, Tm.i, Tm.s, Tm.den, env, vInt, vBool, vStr, exI, SW.den, SV.den, Cell.den, densP, Piece.den, denV, rowCells_mgk, iv_list, mgl_agg]) (fun β => by simp [BTm.den, Tm.i, Tm.s, Tm.den, env, vInt, vBool, vStr, exI, SW.den, SV.den, Cell.den, densP, Piece.den, denV, rowCells_mgk, iv_list, mgl_agg]) ?_
    refine ev_call [.int .i64 (nl m : Nat)] rfl rfl (pure_gives (rlimbs_any m)) (fun β => by simp [BTm.den, Tm.i, Tm.s, Tm.den, env, vInt, vBool, vStr, exI, SW.den, SV.den, Cell.den, densP, Piece.den, denV, rowCells_mgk, iv_list, mgl_agg]) (fun β => by simp [BTm.den, Tm.i, Tm.s, Tm.den, env, vInt, vBool, vStr, exI, SW.den, SV.den, Cell.den, densP, Piece.den, denV, rowCells_mgk, iv_list, mgl_agg]) ?_
    refine ev_loop [.int .i64 (nl n : Nat), .agg (mgk 64 (n * m))] rfl rfl (rmul_outer s t n m hn hm) ?_
    rw [rvz_mul] at hv
    rcases first_up (n * m) 32 with h | ⟨k, h1, h2, h3⟩
    · have hfit := up_zero hV h
      have hmod : n * m % pw 32 = n * m := Nat.mod_eq_of_lt hfit
      refine ev_loop [.int .i64 (32 : Nat), .int .i64 0, .agg (mgk 32 (n * m % pw 32)), .bool false] rfl rfl (rmul_last s t n m (n * m) 32 0 false (.inl ⟨rfl, rfl, rfl, h⟩)) ?_
      rw [hmod]
      rw [resZ_fits (by rw [vz_abs]; exact hfit)] at hv
      refine ev_nil (way_false (by simp [BTm.den, Tm.i, Tm.s, Tm.den, env, vInt, vBool, vStr, exI]) (tree_ite (ev_nil ⟨fun ht => tree_leaf ?_, fun ht => tree_leaf ?_⟩)))
      · have ht : t = true := by simpa [BTm.den, Tm.i, Tm.s, Tm.den, env, vInt, vBool, vStr, exI] using ht
        subst ht
        have hc := rcanon (!s) (n * m) hfit
        refine ev_call [.bool (decide (vz (!s) (n * m) < 0)), .agg (mgk 32 (vz (!s) (n * m)).natAbs)] rfl rfl (pure_gives hc) (fun β => by simp [BTm.den, Tm.i, Tm.s, Tm.den, env, vInt, vBool, vStr, exI, SW.den, SV.den, Cell.den, densP, Piece.den, denV, denT, rowCells_mgk, mgl_agg]) (fun β => by simp [BTm.den, Tm.i, Tm.s, Tm.den, env, vInt, vBool, vStr, exI, SW.den, SV.den, Cell.den, densP, Piece.den, denV, denT, rowCells_mgk, iv_list, ivZ]) ?_
        refine ev_nil fun β => ?_
        rw [hv]
        have e : (s != true) = !s := by cases s <;> rfl
        simp [BTm.den, Tm.i, Tm.s, Tm.den, env, vInt, vBool, vStr, exI, SW.den, SV.den, Cell.den, densP, Piece.den, denV, denT, rowCells_mgk, iv_list, ivZ, e]
      · have ht : t = false := by simpa [BTm.den, Tm.i, Tm.s, Tm.den, env, vInt, vBool, vStr, exI] using ht
        subst ht
        have hc := rcanon s (n * m) hfit
        refine ev_call [.bool (decide (vz s (n * m) < 0)), .agg (mgk 32 (vz s (n * m)).natAbs)] rfl rfl (pure_gives hc) (fun β => by simp [BTm.den, Tm.i, Tm.s, Tm.den, env, vInt, vBool, vStr, exI, SW.den, SV.den, Cell.den, densP, Piece.den, denV, denT, rowCells_mgk, mgl_agg]) (fun β => by simp [BTm.den, Tm.i, Tm.s, Tm.den, env, vInt, vBool, vStr, exI, SW.den, SV.den, Cell.den, densP, Piece.den, denV, denT, rowCells_mgk, iv_list, ivZ]) ?_
        refine ev_nil fun β => ?_
        rw [hv]
        have e : (s != false) = s := by cases s <;> rfl
        simp [BTm.den, Tm.i, Tm.s, Tm.den, env, vInt, vBool, vStr, exI, SW.den, SV.den, Cell.den, densP, Piece.den, denV, denT, rowCells_mgk, iv_list, ivZ, e]
    · have hnot : ¬ n * m < pw 32 := fun h => h3 (hlim k (by omega) h)
      refine ev_loop [.int .i64 (k : Nat), .int .i64 10, .agg (mgk 32 (n * m % pw k)), .bool true] rfl rfl (rmul_last s t n m (n * m) k 10 true (.inr ⟨rfl, h1, rfl, h2, h3⟩)) ?_
      rw [resZ_not (by rw [vz_abs]; exact hnot)] at hv
      refine ev_nil (way_true (by simp [BTm.den, Tm.i, Tm.s, Tm.den, env, vInt, vBool, vStr, exI]) (tree_leaf (ev_nil fun β => ?_)))
      rw [hv, ivZ_zero, ← iv_list, mgl_zero]
      simp [BTm.den, Tm.i, Tm.s, Tm.den, env, vInt, vBool, vStr, exI, SW.den, SV.den, Cell.den, densP, Piece.den, denV, denT]
  have := pure_of plain [.bool s, .agg (mgk 32 n), .bool t, .agg (mgk 32 m)] tMul_ok (by kernel_rfl) _ (main _ (fun _ => trivial) rfl)
  refine gives_pure ?_
  have e : denT (env [.bool s, .agg (mgk 32 n), .bool t, .agg (mgk 32 m)]) (fun _ => 0) [intA 0, intA 2] = #[.agg (iv s n), .agg (iv t m)] := by
    simp [intA, BTm.den, Tm.i, Tm.s, Tm.den, env, vInt, vBool, vStr, exI, SW.den, SV.den, Cell.den, densP, Piece.den, denV, denT, rowCells_mgk, iv_list]
  rw [e] at this
  exact this
end Go.Proofs.Ytlccefdjhiedcaa
end
section
namespace Go.Proofs.Ytlccefdjhiedcaa

def quoL (hi lo y : Nat) : Nat := (hi * 4294967296 + lo) / y
def remL (hi lo y : Nat) : Nat := (hi * 4294967296 + lo) % y
theorem quoL_lt {hi lo y : Nat} (h : hi < y) (hl : lo < 4294967296) : quoL hi lo y < 4294967296 := by
  unfold quoL
  rw [Nat.div_lt_iff_lt_mul (by omega)]
  have : (hi + 1) * 4294967296 ≤ y * 4294967296 := Nat.mul_le_mul_right _ h
  rw [Nat.mul_comm 4294967296]; omega
theorem remL_lt {hi lo y : Nat} (h : 0 < y) : remL hi lo y < y := Nat.mod_lt _ h

def dq (a d k : Nat) : Nat := a / pw k / d * pw k
def dr (a d k : Nat) : Nat := a / pw k % d
theorem dr_next (a d j : Nat) : dr a d j = remL (dr a d (j + 1)) (limb a j) d := by
  unfold dr remL
  rw [div_pw a j, Nat.add_mod, Nat.mul_mod, ← Nat.mod_mod_of_dvd 4294967296 (Nat.dvd_refl d), ← Nat.mul_mod, ← Nat.add_mod]
  simp [Nat.add_mod, Nat.mul_mod]
theorem dq_digit (a d j : Nat) (hd : 0 < d) : a / pw j / d = a / pw (j + 1) / d * 4294967296 + quoL (dr a d (j + 1)) (limb a j) d := by
  unfold dr quoL
  rw [div_pw a j]
  have h := Nat.div_add_mod (a / pw (j + 1)) d
  generalize a / pw (j + 1) = A at *
  have e : A * 4294967296 + limb a j = d * (A / d * 4294967296) + (A % d * 4294967296 + limb a j) := by
    have := congrArg (· * 4294967296) h
    simp only [Nat.add_mul] at this
    rw [Nat.mul_assoc] at this
    omega
  rw [e, Nat.mul_add_div hd]
theorem dq_next (a d j : Nat) (hd : 0 < d) : put (dq a d (j + 1)) j (quoL (dr a d (j + 1)) (limb a j) d) = dq a d j := by
  have h0 : limb (dq a d (j + 1)) j = 0 := by
    unfold limb dq
    rw [pw_succ, Nat.mul_comm (pw j), ← Nat.mul_assoc, Nat.mul_div_cancel _ (pw_pos j), Nat.mul_mod_left]
  unfold put
  rw [h0, Nat.zero_mul, Nat.sub_zero]
  unfold dq
  rw [dq_digit a d j hd, Nat.add_mul, pw_succ, Nat.mul_comm (pw j), ← Nat.mul_assoc]
theorem dq_end (a d : Nat) : dq a d 0 = a / d := by unfold dq; rw [div_pw_zero, pw_zero, Nat.mul_one]
theorem dr_end (a d : Nat) : dr a d 0 = a % d := by unfold dr; rw [div_pw_zero]
theorem dq_start {a d k : Nat} (h : a < pw k) : dq a d k = 0 := by unfold dq; rw [Nat.div_eq_of_lt h]; simp
theorem dr_start {a d k : Nat} (h : a < pw k) : dr a d k = 0 := by unfold dr; rw [Nat.div_eq_of_lt h]; simp
theorem dr_lt {a d k : Nat} (h : 0 < d) : dr a d k < d := Nat.mod_lt _ h

theorem ediv_of {a b q r : Int} (hb : b ≠ 0) (h : a = b * q + r) (h0 : 0 ≤ r) (h1 : r < b.natAbs) : a / b = q ∧ a % b = r := by
  rcases Int.lt_trichotomy b 0 with hb' | hb' | hb'
  · have hp : 0 < -b := by omega
    have := (Int.ediv_emod_unique (a := a) (b := -b) (r := r) (q := -q) hp).2 ⟨by rw [Int.neg_mul_neg]; omega, h0, by omega⟩
    rw [Int.ediv_neg, Int.emod_neg] at this
    exact ⟨by omega, this.2⟩
  · exact absurd hb' hb
  · exact (Int.ediv_emod_unique hb').2 ⟨by omega, h0, by omega⟩
theorem vz_ne {t : Bool} {m : Nat} (h : 0 < m) : vz t m ≠ 0 := by cases t <;> simp [vz] <;> omega
theorem vz_mul' (s t : Bool) (n m : Nat) : vz s n * vz t m = vz (s != t) (n * m) := by
  cases s <;> cases t <;> simp [vz, Int.natCast_mul, Int.neg_mul, Int.mul_neg]
theorem divZ_plain {s t : Bool} {n m : Nat} (hm : 0 < m) (h : s = false ∨ n % m = 0) : vz s n / vz t m = vz (s != t) (n / m) ∧ vz s n % vz t m = ((n % m : Nat) : Int) := by
  refine ediv_of (vz_ne hm) ?_ (by omega) (by rw [vz_abs]; have := Nat.mod_lt n hm; omega)
  rw [vz_mul']
  have e : (t != (s != t)) = s := by cases s <;> cases t <;> rfl
  rw [e]
  have hd := Nat.div_add_mod n m
  cases s
  · simp only [vz, Bool.false_eq_true, if_false]; omega
  · have h0 : n % m = 0 := h.resolve_left (by simp)
    simp only [vz, if_true]; omega
theorem divZ_more {t : Bool} {n m : Nat} (hm : 0 < m) (h : n % m ≠ 0) : vz true n / vz t m = vz (true != t) (n / m + 1) ∧ vz true n % vz t m = ((m - n % m : Nat) : Int) := by
  have hlt := Nat.mod_lt n hm
  refine ediv_of (vz_ne hm) ?_ (by omega) (by rw [vz_abs]; omega)
  rw [vz_mul']
  have e : (t != (true != t)) = true := by cases t <;> rfl
  rw [e]
  have hd := Nat.div_add_mod n m
  simp only [vz, if_true]
  rw [Nat.mul_add]; omega
theorem div_room {n m K : Nat} (hn : n < K) (hm : 0 < m) (h : n % m ≠ 0) : n / m + 1 < K := by
  have h2 : 2 ≤ m := by
    rcases Nat.lt_or_ge m 2 with h1 | h1
    · have : m = 1 := by omega
      subst this; simp [Nat.mod_one] at h
    · exact h1
  have : n / m ≤ n / 2 := Nat.div_le_div_left h2 (by omega)
  have hn0 : n ≠ 0 := fun e => h (by rw [e]; simp)
  omega
end Go.Proofs.Ytlccefdjhiedcaa
end
section
namespace Go.Proofs.Ytlccefdjhiedcaa
open Go.RowKit

theorem or_limb (x y : Nat) (hx : x < 4294967296) (hy : y < 4294967296) : bits BinOp.or IntKind.u64 ((x : Int) * 4294967296) (y : Int) = ((x * 4294967296 + y : Nat) : Int) := by
  rw [show ((x : Int) * 4294967296 : Int) = ((x * 4294967296 : Nat) : Int) by simp, u64_or_nat _ _ (by omega) (by omega), nat_join 32 _ _ (by omega) (by omega)]

set_option maxRecDepth 10000 in
set_option maxHeartbeats 800000 in
theorem div32_any (x y d : Nat) (hx : x < d) (hy : y < 4294967296) (hd : d < 4294967296) :
    Gives Try.prog 62 #[.int .u32 x, .int .u32 y, .int .u32 d] (.tuple #[.int .u32 ((quoL x y d : Nat) : Int), .int .u32 ((remL x y d : Nat) : Int)]) := by
  intro w
  have hS := St.start w
  obtain ⟨z, hz⟩ : ∃ z, z = x * 4294967296 + y := ⟨_, rfl⟩
  have hor : bits BinOp.or IntKind.u64 ((x : Int) * 4294967296) (y : Int) = ((z : Nat) : Int) := by rw [hz]; exact or_limb x y (by omega) hy
  have hz2 : z ≤ 18446744073709551615 := by omega
  have hne : ¬ ((d : Int) = 0) := by omega
  have hdn : ¬ (d = 0) := by omega
  have hnb : ((d : Int) == 0) = false := by simp; omega
  have hnb2 : ((d : Int) != 0) = true := by simp; omega
  have hle : ¬ ((d : Int) ≤ (x : Int)) := by omega
  have hled : decide ((d : Int) ≤ (x : Int)) = false := decide_eq_false hle
  have hd1 : (1 : Int) ≤ (d : Int) := by omega
  obtain ⟨q, hq⟩ : ∃ q, q = quoL x y d := ⟨_, rfl⟩
  obtain ⟨r, hr⟩ : ∃ r, r = remL x y d := ⟨_, rfl⟩
  have hqb : q < 4294967296 := by rw [hq]; exact quoL_lt hx hy
  have hrb : r < 4294967296 := by have := remL_lt (hi := x) (lo := y) (y := d) (by omega); omega
  have hqz : ((z : Nat) : Int) / ((d : Nat) : Int) = ((q : Nat) : Int) := by rw [hq, hz]; unfold quoL; rw [Int.natCast_ediv]
  have hrz : ((z : Nat) : Int) % ((d : Nat) : Int) = ((r : Nat) : Int) := by rw [hr, hz]; unfold remL; rw [Int.natCast_emod]
  rw [← hq, ← hr]
  clear hq hr hz
  go_enter Try.func62, Try.ntmps62
  go_wp2_with (fail)
  (try simp only [Act.put]); (try simp only [List.setIfInBounds_toArray, List.set_cons_succ, List.set_cons_zero]); refine wp_region_w0 hS (by kernel_rfl) (by kernel_rfl) ?_
  repeat (first | (refine S_run rfl rfl ?_; apply Exists.intro; refine ⟨fun _ => ?_, ?_⟩; (focus (go_simp; (try go_bits); exact rfl)); simp only [Act.put, List.setIfInBounds_toArray, List.set_cons_succ, List.set_cons_zero]))
  refine S_end0 ?_; clear hS; intro _ hS
  go_wp2
  go_ret2
  exact ⟨rfl, hS.below⟩

set_option maxRecDepth 10000 in
set_option maxHeartbeats 1000000 in
theorem divideByLimb_any (a d : Nat) (ha : a < pw 32) (hd0 : 0 < d) (hd : d < 4294967296) :
    Gives Try.prog 31 #[.agg (mgk 32 a), .int .u32 d] (.tuple #[.agg (mgk 32 (a / d)), .int .u32 ((a % d : Nat) : Int)]) := by
  intro w
  have hS := St.start w
  have HA := Lib.hid (nl_lt ha)
  have hla := nl_le a
  clear ha
  go_enter Try.func31, Try.ntmps31
  go_wp2_with (first | (refine L_box_agg (o := ⟨some 2, _, _, _, _, _⟩) hS rfl rfl ?_; refine ⟨_, rfl, ?_⟩; clear hS; intro b2 _ hS) | (refine L_alloc_agg (o := ⟨some 4, _, _, _, _, _⟩) hS rfl rfl ?_; refine ⟨_, zero54, ?_⟩; clear hS; intro b4 _ hS) | (refine L_load (t := 54) rfl rfl ?_; refine ⟨_, run_load_row hS _ _ rfl _ rfl _ _ (.inl (.tail _ (.head _))) _ Try.underlying54 rfl (size54_mg _), ?_⟩) | (go_at_call 61; (with_reducible refine Gives.use (limbCount_any _) hS ?_); clear hS; intro _ hS))
  go_loopw [5, 6] (fun rs i wr => ∃ k : Nat, k ≤ 32 ∧ i = .int .i64 ((k : Int) - 1) ∧ rs = .int .u32 ((dr a d k : Nat) : Int) ∧ St none w wr [] [(b4, .cells (mgk 32 (dq a d k)) 54), (b2, .cells (mgk 32 a) 54)]) (fun _ i _ => (intOf i + 1).toNat)
  case atStart => exact ⟨nl a, by omega, by go_num, by rw [dr_start HA.out]; rfl, by rw [dq_start HA.out]; exact hS⟩
  case round =>
    clear hS
    obtain ⟨k, hk, rfl, rfl, hS⟩ := hrel
    rcases k with _ | j
    · go_wp2_with (first | (refine L_load (t := 54) rfl rfl ?_; refine ⟨_, run_load_row hS _ _ rfl _ rfl _ _ (.inl (.head _)) _ Try.underlying54 rfl (size54_mg _), ?_⟩) | (refine L_store (t := 54) hS rfl rfl ?_; refine ⟨_, _, _, _, _, (.head), run_store_row hS _ _ _ rfl _ rfl _ _ rfl _ (.head) (size54_mg _) (mg_sizes _ _ _) (oneCells _ _), ?_⟩; clear hS; intro _ hS))
      (try simp only [Exit.inBlock, Exit.then]); refine bodyPost_ret (res_cell_tmp rfl _ _ _ (run_loadRow hS _ _ _ _ (.inl (.head _)) _ Try.underlying54 rfl (size54_mg _)) rfl _ rfl) rfl ⟨?_, hS.below⟩
      rw [dq_end, dr_end]; rfl
    · have ej : ((j + 1 : Nat) : Int) - 1 = (j : Int) := by omega
      rw [ej]
      clear ej
      have hj : (j : Int) < 32 := by omega
      have hl := limb_lt a j
      have hr := dr_lt (a := a) (k := j + 1) hd0
      have HQ := Lib.hid (quoL_lt hr hl)
      have HN := Lib.hid (dq_next a d j hd0)
      have HR := Lib.hid (dr_next a d j)
      go_wp2_with (first | (refine L_load (t := 22) rfl rfl ?_; refine ⟨_, run_load_cell hS _ _ rfl _ _ rfl _ _ (.inl (.tail _ (.head _))) _ Try.underlying22 rfl _ (mgk_get' (by omega)), ?_⟩) | (go_at_call 62; (with_reducible refine Gives.use (div32_any _ _ _ hr hl hd) hS ?_); clear hS; intro _ hS) | (refine L_store (t := 22) hS rfl rfl ?_; refine ⟨_, _, mgk 32 (dq a d j), _, _, (.head), run_store_cell hS _ _ _ rfl _ _ rfl _ rfl _ _ _ (.head) size22 rfl rfl ?_ ?_, ?_⟩; (focus (rw [mgk_size]; omega)); (focus (exact (mgk_put' _ (quoL _ _ _) rfl HQ.out).trans (congrArg (mgk 32) HN.out))); clear hS; intro _ hS))
      go_roundw
      case rel => exact ⟨j, by omega, rfl, by rw [HR.out], hS⟩
      case measure => simp [intOf]

def DivGives (n m : Nat) : Prop := Gives Try.prog 63 #[.agg (mgk 32 n), .agg (mgk 32 m)] (.tuple #[.agg (mgk 32 (n / m)), .agg (mgk 32 (n % m))])
theorem nl_one {m : Nat} (h0 : 0 < m) (h : m < 4294967296) : nl m = 1 := by
  have : ∀ k, nlG (k + 1) m = 1 := fun k => by
    induction k with
    | zero => exact nlG_not (by rw [limb_small m h, if_pos rfl]; omega)
    | succ k ih => rw [nlG_zero (by rw [limb_small m h, if_neg (by omega)]), ih]
  exact this 31
set_option maxRecDepth 10000 in
set_option maxHeartbeats 1000000 in
theorem divide_one (n m : Nat) (hn : n < pw 32) (h0 : 0 < m) (h : m < 4294967296) : DivGives n m := by
  intro w
  have hS := St.start w
  have HN := Lib.hid hn
  have HL := Lib.hid (nl_one h0 h)
  have hl0 : limb m 0 = m := by rw [limb_small m h, if_pos rfl]
  have G : Gives Try.prog 61 #[.agg (mgk 32 m)] (.int .i64 1) := by
    have := limbCount_any m; rwa [HL.out] at this
  obtain ⟨q, hq⟩ : ∃ q, q = n / m := ⟨_, rfl⟩
  obtain ⟨r, hr⟩ : ∃ r, r = n % m := ⟨_, rfl⟩
  have hrb : r < 4294967296 := by have := Nat.mod_lt n h0; omega
  have G2 : Gives Try.prog 31 #[.agg (mgk 32 n), .int .u32 ((m : Nat) : Int)] (.tuple #[.agg (mgk 32 q), .int .u32 ((r : Nat) : Int)]) := by
    rw [hq, hr]; exact divideByLimb_any n m hn h0 h
  have HP : Hid (put 0 0 r = r) := by show put 0 0 r = r; rw [put_low r (by rw [pw_zero]; omega), pw_zero]; omega
  rw [← hq, ← hr]
  clear hn h0 h hq hr
  unfold DivGives at *
  go_enter Try.func63, Try.ntmps63
  go_wp2_with (first | (refine L_box_agg hS rfl rfl ?_; refine ⟨_, rfl, ?_⟩; clear hS; intro _ _ hS) | (refine L_alloc_agg hS rfl rfl ?_; refine ⟨_, zero54, ?_⟩; clear hS; intro _ _ hS) | (refine L_load (t := 54) rfl rfl ?_; refine ⟨_, run_load_row hS _ _ rfl _ rfl _ _ (.inl (.tail _ (.tail _ (.head _)))) _ Try.underlying54 rfl (size54_mg _), ?_⟩) | (refine L_load (t := 54) rfl rfl ?_; refine ⟨_, run_load_row hS _ _ rfl _ rfl _ _ (.inl (.tail _ (.tail _ (.tail _ (.head _))))) _ Try.underlying54 rfl (size54_mg _), ?_⟩) | (go_at_call 61; (with_reducible refine Gives.use (G) hS ?_); clear hS; intro _ hS) | (refine L_load (t := 22) rfl rfl ?_; refine ⟨_, run_load_cell hS _ _ rfl _ _ rfl _ _ (.inl (.tail _ (.tail _ (.head _)))) _ Try.underlying22 rfl _ (mgk_get' (by omega)), ?_⟩) | (go_at_call 31; (with_reducible refine Gives.use (G2) hS ?_); clear hS; intro _ hS) | (refine L_store (t := 54) hS rfl rfl ?_; refine ⟨_, _, _, _, _, (.tail .head), run_store_row hS _ _ _ rfl _ rfl _ _ rfl _ (.tail .head) (size54_mg _) (mg_sizes _ _ _) (oneCells _ _), ?_⟩; clear hS; intro _ hS) | (refine L_store (t := 22) hS rfl rfl ?_; refine ⟨_, _, mgk 32 r, _, _, (.head), run_store_cell hS _ _ _ rfl _ _ rfl _ rfl _ _ _ (.head) size22 rfl rfl ?_ ?_, ?_⟩; (focus (rw [mgk_size]; omega)); (focus (exact (mgk_put' 0 r rfl hrb).trans (congrArg (mgk 32) HP.out))); clear hS; intro _ hS))
  (try simp only [Act.put]); (try simp only [List.setIfInBounds_toArray, List.set_cons_succ, List.set_cons_zero]); refine wp_region_u2 hS 2 3 [1] (.tail (.head (o' := .cells (mgk 32 q) 54))) (.head (o' := .cells (mgk 32 r) 54)) (by kernel_rfl) (by kernel_rfl) ?_
  (refine S_load (t := 54) rfl rfl rfl rfl ?_; refine ⟨_, fun _ hS' => run_load_row hS' _ _ rfl _ rfl _ _ (.inl (.tail _ (.head _))) _ Try.underlying54 rfl (size54_mg _), ?_⟩; simp only [Act.put, List.setIfInBounds_toArray, List.set_cons_succ, List.set_cons_zero])
  (refine S_float (t := 54) rfl rfl rfl ?_ (by decide); refine ⟨.agg (mgk 32 (r)), fun q _ hq _ hS' => run_load_row hS' _ _ rfl _ rfl (mgk 32 (r)) 54 (by rcases q with _ | _ | _ | q; (focus exact .inl (.head _)); (focus exact .inl (.head _)); (focus exact .inl (.head _)); exact absurd hq (by simp)) _ Try.underlying54 rfl (size54_mg _), ?_⟩; simp only [Act.put, List.setIfInBounds_toArray, List.set_cons_succ, List.set_cons_zero])
  (refine S_store (t := 54) rfl rfl rfl ?_; refine ⟨_, _, _, _, (.tail .head), fun _ hS' => run_store_row hS' _ _ _ rfl _ rfl _ _ rfl _ (.tail .head) (size54_mg _) (mg_sizes _ _ _) (oneCells _ _), ?_⟩; simp only [Act.put])
  (refine S_store (t := 54) rfl rfl rfl ?_; refine ⟨_, _, _, _, (.head), fun _ hS' => run_store_row hS' _ _ _ rfl _ rfl _ _ rfl _ (.head) (size54_mg _) (mg_sizes _ _ _) (oneCells _ _), ?_⟩; simp only [Act.put])
  refine S_end2 ?_; clear hS; intro _ hS
  go_wp2
  (try simp only [Exit.inBlock, Exit.then])
  (try simp only [Exit.inBlock, Exit.then]); refine bodyPost_ret (res_cell_cell rfl _ _ _ _ _ (run_loadRow hS _ _ _ _ (.inl (.tail _ (.head _))) _ Try.underlying54 rfl (size54_mg _)) (run_loadRow hS _ _ _ _ (.inl (.head _)) _ Try.underlying54 rfl (size54_mg _)) rfl rfl) rfl ⟨?_, hS.below⟩
  rfl

def divR (x y : Int) : Value := .tuple #[.agg (ivZ (x / y)), .agg (ivZ (x % y)), .int .i64 0]
set_option maxRecDepth 100000 in
set_option maxHeartbeats 1000000 in
theorem divMod_plain (s t : Bool) (n m : Nat) (hn : n < pw 32) (hm : m < pw 32) (h0 : 0 < m) (hs : s = false ∨ n % m = 0) (G : DivGives n m) : Gives Try.prog 32 #[.agg (iv s n), .agg (iv t m)] (divR (vz s n) (vz t m)) := by
  intro w
  have hS := St.start w
  have HM := Lib.hid hm
  unfold divR
  rw [(divZ_plain (t := t) h0 hs).1, (divZ_plain (t := t) h0 hs).2]
  unfold DivGives at G
  have HZ := isz_false (show m ≠ 0 by omega)
  have HQ : Hid (n / m < pw 32) := Nat.lt_of_le_of_lt (Nat.div_le_self _ _) hn
  have HR : Hid (n % m < pw 32) := Nat.lt_trans (Nat.mod_lt n h0) hm
  have HZ2 : s = false ∨ isz (n % m) = true := hs.imp id isz_true
  generalize n / m = q at *
  generalize n % m = r at *
  have GR : Gives Try.prog 25 #[.bool false, .agg (mgk 32 r)] (.agg (ivZ ((r : Nat) : Int))) := signed_any false r HR.out
  clear hn hm h0 hs
  cases s
  · have GQ : Gives Try.prog 25 #[.bool t, .agg (mgk 32 q)] (.agg (ivZ (vz (false != t) q))) := by
      have := signed_any t q HQ.out; simpa using this
    clear HZ2
    go_enter Try.func32, Try.ntmps32
    go_wp2_with (first | (refine L_box_agg hS rfl rfl ?_; refine ⟨_, rfl, ?_⟩; clear hS; intro _ _ hS) | (refine L_alloc_agg hS rfl rfl ?_; refine ⟨_, zero25, ?_⟩; clear hS; intro _ _ hS) | (refine L_alloc_agg hS rfl rfl ?_; refine ⟨_, zero54, ?_⟩; clear hS; intro _ _ hS) | (refine L_load (t := 23) rfl rfl ?_; refine ⟨_, run_load_mid hS _ _ rfl _ _ rfl _ _ (.inl (.tail _ (.tail _ (.head _)))) _ Try.underlying23 rfl (mgk 32 _) (size23_mg _) (fun k _ => iv_mag _ _ k), ?_⟩) | (refine L_load (t := 23) rfl rfl ?_; refine ⟨_, run_load_mid hS _ _ rfl _ _ rfl _ _ (.inl (.tail _ (.tail _ (.tail _ (.head _))))) _ Try.underlying23 rfl (mgk 32 _) (size23_mg _) (fun k _ => iv_mag _ _ k), ?_⟩) | (refine L_load (t := 4) rfl rfl ?_; refine ⟨_, run_load_cell hS _ _ rfl _ _ rfl _ _ (.inl (.tail _ (.tail _ (.tail _ (.tail _ (.tail _ (.head _))))))) _ Try.underlying4 rfl _ (iv_neg _ _), ?_⟩) | (refine L_store (t := 54) hS rfl rfl ?_; refine ⟨_, _, _, _, _, (.tail .head), run_store_row hS _ _ _ rfl _ rfl _ _ rfl _ (.tail .head) (size54_mg _) (mg_sizes _ _ _) (oneCells _ _), ?_⟩; clear hS; intro _ hS) | (refine L_store (t := 54) hS rfl rfl ?_; refine ⟨_, _, _, _, _, (.head), run_store_row hS _ _ _ rfl _ rfl _ _ rfl _ (.head) (size54_mg _) (mg_sizes _ _ _) (oneCells _ _), ?_⟩; clear hS; intro _ hS) | (go_at_call 30; (with_reducible refine Gives.use (isZero _ HM.out) hS ?_); clear hS; intro _ hS) | (go_at_call 63; (with_reducible refine Gives.use (G) hS ?_); clear hS; intro _ hS))
    (try simp only [Act.put]); (try simp only [List.setIfInBounds_toArray, List.set_cons_succ, List.set_cons_zero]); refine wp_region_u2 hS 9 10 [] (.tail (.tail (.tail (.head (o' := .cells (ivZ (vz (false != t) q)) 25))))) (.tail (.tail (.head (o' := .cells (ivZ ((r : Nat) : Int)) 25)))) (by kernel_rfl) (by kernel_rfl) ?_
    (refine S_run rfl rfl ?_; apply Exists.intro; refine ⟨fun _ => ?_, ?_⟩; (focus (go_simp; (try go_bits); exact rfl)); simp only [Act.put, List.setIfInBounds_toArray, List.set_cons_succ, List.set_cons_zero])
    (refine S_load (t := 4) rfl rfl rfl rfl ?_; refine ⟨_, fun _ hS' => run_load_cell hS' _ _ rfl _ _ rfl _ _ (.inl (.tail _ (.tail _ (.tail _ (.tail _ (.tail _ (.head _))))))) _ Try.underlying4 rfl _ (iv_neg _ _), ?_⟩; simp only [Act.put, List.setIfInBounds_toArray, List.set_cons_succ, List.set_cons_zero])
    (refine S_run rfl rfl ?_; apply Exists.intro; refine ⟨fun _ => ?_, ?_⟩; (focus (go_simp; (try go_bits); exact rfl)); simp only [Act.put, List.setIfInBounds_toArray, List.set_cons_succ, List.set_cons_zero])
    (refine S_load (t := 4) rfl rfl rfl rfl ?_; refine ⟨_, fun _ hS' => run_load_cell hS' _ _ rfl _ _ rfl _ _ (.inl (.tail _ (.tail _ (.tail _ (.tail _ (.head _)))))) _ Try.underlying4 rfl _ (iv_neg _ _), ?_⟩; simp only [Act.put, List.setIfInBounds_toArray, List.set_cons_succ, List.set_cons_zero])
    (refine S_run rfl rfl ?_; apply Exists.intro; refine ⟨fun _ => ?_, ?_⟩; (focus (go_simp; (try go_bits); exact rfl)); simp only [Act.put, List.setIfInBounds_toArray, List.set_cons_succ, List.set_cons_zero])
    (refine S_load (t := 54) rfl rfl rfl rfl ?_; refine ⟨_, fun _ hS' => run_load_row hS' _ _ rfl _ rfl _ _ (.inl (.tail _ (.head _))) _ Try.underlying54 rfl (size54_mg _), ?_⟩; simp only [Act.put, List.setIfInBounds_toArray, List.set_cons_succ, List.set_cons_zero])
    (refine S_call 25 rfl rfl rfl rfl ?_; apply Exists.intro; refine ⟨fun _ => ?_, ?_⟩; (focus (go_simp; exact rfl)); apply Exists.intro; (with_reducible refine ⟨GQ, ?_⟩); simp only [Act.put, List.setIfInBounds_toArray, List.set_cons_succ, List.set_cons_zero])
    (refine S_load (t := 54) rfl rfl rfl rfl ?_; refine ⟨_, fun _ hS' => run_load_row hS' _ _ rfl _ rfl _ _ (.inl (.head _)) _ Try.underlying54 rfl (size54_mg _), ?_⟩; simp only [Act.put, List.setIfInBounds_toArray, List.set_cons_succ, List.set_cons_zero])
    (refine S_call 25 rfl rfl rfl rfl ?_; apply Exists.intro; refine ⟨fun _ => ?_, ?_⟩; (focus (go_simp; exact rfl)); apply Exists.intro; (with_reducible refine ⟨GR, ?_⟩); simp only [Act.put, List.setIfInBounds_toArray, List.set_cons_succ, List.set_cons_zero])
    (refine S_store (t := 25) rfl rfl rfl ?_; refine ⟨_, _, _, _, (.tail (.tail (.tail .head))), fun _ hS' => run_store_row hS' _ _ _ rfl _ rfl _ _ rfl _ (.tail (.tail (.tail .head))) (size25_iv _ _) (iv_sizes _ _ _ _) (oneCells_iv _ _), ?_⟩; simp only [Act.put])
    (refine S_store (t := 25) rfl rfl rfl ?_; refine ⟨_, _, _, _, (.tail (.tail .head)), fun _ hS' => run_store_row hS' _ _ _ rfl _ rfl _ _ rfl _ (.tail (.tail .head)) (size25_iv _ _) (iv_sizes _ _ _ _) (oneCells_iv _ _), ?_⟩; simp only [Act.put])
    (refine S_run rfl rfl ?_; apply Exists.intro; refine ⟨fun _ => ?_, ?_⟩; (focus (go_simp; (try go_bits); exact rfl)); simp only [Act.put, List.setIfInBounds_toArray, List.set_cons_succ, List.set_cons_zero])
    refine S_end2 ?_; clear hS; intro _ hS
    go_wp2
    (try simp only [Exit.inBlock, Exit.then]); refine bodyPost_ret (res_cell_cell_tmp rfl _ _ _ _ _ (run_loadRow hS _ _ _ _ (.inl (.tail _ (.tail _ (.tail _ (.head _))))) _ Try.underlying25 rfl (size25_iv _ _)) (run_loadRow hS _ _ _ _ (.inl (.tail _ (.tail _ (.head _)))) _ Try.underlying25 rfl (size25_iv _ _)) rfl rfl _ rfl) rfl ⟨?_, hS.below⟩
    rfl
  · have GQ : Gives Try.prog 25 #[.bool !t, .agg (mgk 32 q)] (.agg (ivZ (vz (true != t) q))) := by
      have := signed_any (!t) q HQ.out; simpa using this
    have HZ3 : isz r = true := HZ2.resolve_left (by simp)
    clear HZ2
    go_enter Try.func32, Try.ntmps32
    go_wp2_with (first | (refine L_box_agg hS rfl rfl ?_; refine ⟨_, rfl, ?_⟩; clear hS; intro _ _ hS) | (refine L_alloc_agg hS rfl rfl ?_; refine ⟨_, zero25, ?_⟩; clear hS; intro _ _ hS) | (refine L_alloc_agg hS rfl rfl ?_; refine ⟨_, zero54, ?_⟩; clear hS; intro _ _ hS) | (refine L_load (t := 23) rfl rfl ?_; refine ⟨_, run_load_mid hS _ _ rfl _ _ rfl _ _ (.inl (.tail _ (.tail _ (.head _)))) _ Try.underlying23 rfl (mgk 32 _) (size23_mg _) (fun k _ => iv_mag _ _ k), ?_⟩) | (refine L_load (t := 23) rfl rfl ?_; refine ⟨_, run_load_mid hS _ _ rfl _ _ rfl _ _ (.inl (.tail _ (.tail _ (.tail _ (.head _))))) _ Try.underlying23 rfl (mgk 32 _) (size23_mg _) (fun k _ => iv_mag _ _ k), ?_⟩) | (refine L_load (t := 4) rfl rfl ?_; refine ⟨_, run_load_cell hS _ _ rfl _ _ rfl _ _ (.inl (.tail _ (.tail _ (.tail _ (.tail _ (.tail _ (.head _))))))) _ Try.underlying4 rfl _ (iv_neg _ _), ?_⟩) | (refine L_load (t := 54) rfl rfl ?_; refine ⟨_, run_load_row hS _ _ rfl _ rfl _ _ (.inl (.head _)) _ Try.underlying54 rfl (size54_mg _), ?_⟩) | (refine L_store (t := 54) hS rfl rfl ?_; refine ⟨_, _, _, _, _, (.tail .head), run_store_row hS _ _ _ rfl _ rfl _ _ rfl _ (.tail .head) (size54_mg _) (mg_sizes _ _ _) (oneCells _ _), ?_⟩; clear hS; intro _ hS) | (refine L_store (t := 54) hS rfl rfl ?_; refine ⟨_, _, _, _, _, (.head), run_store_row hS _ _ _ rfl _ rfl _ _ rfl _ (.head) (size54_mg _) (mg_sizes _ _ _) (oneCells _ _), ?_⟩; clear hS; intro _ hS) | (go_at_call 30; (with_reducible refine Gives.use (isZero _ HM.out) hS ?_); clear hS; intro _ hS) | (go_at_call 30; (with_reducible refine Gives.use (isZero _ HR.out) hS ?_); clear hS; intro _ hS) | (go_at_call 63; (with_reducible refine Gives.use (G) hS ?_); clear hS; intro _ hS))
    (try simp only [Act.put]); (try simp only [List.setIfInBounds_toArray, List.set_cons_succ, List.set_cons_zero]); refine wp_region_u2 hS 9 10 [] (.tail (.tail (.tail (.head (o' := .cells (ivZ (vz (true != t) q)) 25))))) (.tail (.tail (.head (o' := .cells (ivZ ((r : Nat) : Int)) 25)))) (by kernel_rfl) (by kernel_rfl) ?_
    (refine S_run rfl rfl ?_; apply Exists.intro; refine ⟨fun _ => ?_, ?_⟩; (focus (go_simp; (try go_bits); exact rfl)); simp only [Act.put, List.setIfInBounds_toArray, List.set_cons_succ, List.set_cons_zero])
    (refine S_load (t := 4) rfl rfl rfl rfl ?_; refine ⟨_, fun _ hS' => run_load_cell hS' _ _ rfl _ _ rfl _ _ (.inl (.tail _ (.tail _ (.tail _ (.tail _ (.tail _ (.head _))))))) _ Try.underlying4 rfl _ (iv_neg _ _), ?_⟩; simp only [Act.put, List.setIfInBounds_toArray, List.set_cons_succ, List.set_cons_zero])
    (refine S_run rfl rfl ?_; apply Exists.intro; refine ⟨fun _ => ?_, ?_⟩; (focus (go_simp; (try go_bits); exact rfl)); simp only [Act.put, List.setIfInBounds_toArray, List.set_cons_succ, List.set_cons_zero])
    (refine S_load (t := 4) rfl rfl rfl rfl ?_; refine ⟨_, fun _ hS' => run_load_cell hS' _ _ rfl _ _ rfl _ _ (.inl (.tail _ (.tail _ (.tail _ (.tail _ (.head _)))))) _ Try.underlying4 rfl _ (iv_neg _ _), ?_⟩; simp only [Act.put, List.setIfInBounds_toArray, List.set_cons_succ, List.set_cons_zero])
    (refine S_run rfl rfl ?_; apply Exists.intro; refine ⟨fun _ => ?_, ?_⟩; (focus (go_simp; (try go_bits); exact rfl)); simp only [Act.put, List.setIfInBounds_toArray, List.set_cons_succ, List.set_cons_zero])
    (refine S_load (t := 54) rfl rfl rfl rfl ?_; refine ⟨_, fun _ hS' => run_load_row hS' _ _ rfl _ rfl _ _ (.inl (.tail _ (.head _))) _ Try.underlying54 rfl (size54_mg _), ?_⟩; simp only [Act.put, List.setIfInBounds_toArray, List.set_cons_succ, List.set_cons_zero])
    (refine S_call 25 rfl rfl rfl rfl ?_; apply Exists.intro; refine ⟨fun _ => ?_, ?_⟩; (focus (go_simp; exact rfl)); apply Exists.intro; (with_reducible refine ⟨GQ, ?_⟩); simp only [Act.put, List.setIfInBounds_toArray, List.set_cons_succ, List.set_cons_zero])
    (refine S_load (t := 54) rfl rfl rfl rfl ?_; refine ⟨_, fun _ hS' => run_load_row hS' _ _ rfl _ rfl _ _ (.inl (.head _)) _ Try.underlying54 rfl (size54_mg _), ?_⟩; simp only [Act.put, List.setIfInBounds_toArray, List.set_cons_succ, List.set_cons_zero])
    (refine S_call 25 rfl rfl rfl rfl ?_; apply Exists.intro; refine ⟨fun _ => ?_, ?_⟩; (focus (go_simp; exact rfl)); apply Exists.intro; (with_reducible refine ⟨GR, ?_⟩); simp only [Act.put, List.setIfInBounds_toArray, List.set_cons_succ, List.set_cons_zero])
    (refine S_store (t := 25) rfl rfl rfl ?_; refine ⟨_, _, _, _, (.tail (.tail (.tail .head))), fun _ hS' => run_store_row hS' _ _ _ rfl _ rfl _ _ rfl _ (.tail (.tail (.tail .head))) (size25_iv _ _) (iv_sizes _ _ _ _) (oneCells_iv _ _), ?_⟩; simp only [Act.put])
    (refine S_store (t := 25) rfl rfl rfl ?_; refine ⟨_, _, _, _, (.tail (.tail .head)), fun _ hS' => run_store_row hS' _ _ _ rfl _ rfl _ _ rfl _ (.tail (.tail .head)) (size25_iv _ _) (iv_sizes _ _ _ _) (oneCells_iv _ _), ?_⟩; simp only [Act.put])
    (refine S_run rfl rfl ?_; apply Exists.intro; refine ⟨fun _ => ?_, ?_⟩; (focus (go_simp; (try go_bits); exact rfl)); simp only [Act.put, List.setIfInBounds_toArray, List.set_cons_succ, List.set_cons_zero])
    refine S_end2 ?_; clear hS; intro _ hS
    go_wp2
    (try simp only [Exit.inBlock, Exit.then]); refine bodyPost_ret (res_cell_cell_tmp rfl _ _ _ _ _ (run_loadRow hS _ _ _ _ (.inl (.tail _ (.tail _ (.tail _ (.head _))))) _ Try.underlying25 rfl (size25_iv _ _)) (run_loadRow hS _ _ _ _ (.inl (.tail _ (.tail _ (.head _)))) _ Try.underlying25 rfl (size25_iv _ _)) rfl rfl _ rfl) rfl ⟨?_, hS.below⟩
    rfl

set_option maxRecDepth 100000 in
set_option maxHeartbeats 1000000 in
theorem divMod_more (t : Bool) (n m : Nat) (hn : n < pw 32) (hm : m < pw 32) (h0 : 0 < m) (hr : n % m ≠ 0) (G : DivGives n m) : Gives Try.prog 32 #[.agg (iv true n), .agg (iv t m)] (divR (vz true n) (vz t m)) := by
  intro w
  have hS := St.start w
  have HM := Lib.hid hm
  unfold divR
  rw [(divZ_more (t := t) h0 hr).1, (divZ_more (t := t) h0 hr).2]
  unfold DivGives at G
  have HZ := isz_false (show m ≠ 0 by omega)
  have hq1 := div_room hn h0 hr
  have HQ := Lib.hid hq1
  have HR : Hid (n % m < pw 32) := Nat.lt_trans (Nat.mod_lt n h0) hm
  have HZ3 : isz (n % m) = false := isz_false hr
  have HE : Hid (n % m ≤ m) := Nat.le_of_lt (Nat.mod_lt n h0)
  have GP : Gives Try.prog 64 #[.agg (mgk 32 (n / m)), .agg (mgk 32 1)] (.tuple #[.agg (mgk 32 (n / m + 1)), .bool true]) := by
    have := plus (n / m) 1 (by omega) (by have := pw_lt (show 0 < 32 by omega); rw [pw_zero] at this; omega)
    rwa [Nat.mod_eq_of_lt hq1, decide_eq_true hq1] at this
  generalize n / m = q at *
  generalize n % m = r at *
  obtain ⟨q', hq'⟩ : ∃ q', q' = q + 1 := ⟨_, rfl⟩
  obtain ⟨r', hr'⟩ : ∃ r', r' = m - r := ⟨_, rfl⟩
  have GM : Gives Try.prog 65 #[.agg (mgk 32 m), .agg (mgk 32 r)] (.agg (mgk 32 r')) := by rw [hr']; exact minus m r HM.out HE.out
  have GR : Gives Try.prog 25 #[.bool false, .agg (mgk 32 r')] (.agg (ivZ ((r' : Nat) : Int))) := signed_any false r' (by have := HM.out; omega)
  have GQ : Gives Try.prog 25 #[.bool !t, .agg (mgk 32 q')] (.agg (ivZ (vz (true != t) q'))) := by
    have := signed_any (!t) q' (by rw [hq']; exact HQ.out); simpa using this
  rw [← hq'] at GP
  rw [← hq', ← hr']
  clear hn hm h0 hr hq1 HQ hq' hr' HE
  · go_enter Try.func32, Try.ntmps32
    go_wp2_with (first | (refine L_box_agg hS rfl rfl ?_; refine ⟨_, rfl, ?_⟩; clear hS; intro _ _ hS) | (refine L_alloc_agg hS rfl rfl ?_; refine ⟨_, zero25, ?_⟩; clear hS; intro _ _ hS) | (refine L_alloc_agg hS rfl rfl ?_; refine ⟨_, zero54, ?_⟩; clear hS; intro _ _ hS) | (refine L_load (t := 23) rfl rfl ?_; refine ⟨_, run_load_mid hS _ _ rfl _ _ rfl _ _ (.inl (.tail _ (.tail _ (.head _)))) _ Try.underlying23 rfl (mgk 32 _) (size23_mg _) (fun k _ => iv_mag _ _ k), ?_⟩) | (refine L_load (t := 23) rfl rfl ?_; refine ⟨_, run_load_mid hS _ _ rfl _ _ rfl _ _ (.inl (.tail _ (.tail _ (.tail _ (.head _))))) _ Try.underlying23 rfl (mgk 32 _) (size23_mg _) (fun k _ => iv_mag _ _ k), ?_⟩) | (refine L_load (t := 23) rfl rfl ?_; refine ⟨_, run_load_mid hS _ _ rfl _ _ rfl _ _ (.inl (.tail _ (.tail _ (.tail _ (.tail _ (.head _)))))) _ Try.underlying23 rfl (mgk 32 _) (size23_mg _) (fun k _ => iv_mag _ _ k), ?_⟩) | (refine L_load (t := 4) rfl rfl ?_; refine ⟨_, run_load_cell hS _ _ rfl _ _ rfl _ _ (.inl (.tail _ (.tail _ (.tail _ (.tail _ (.tail _ (.head _))))))) _ Try.underlying4 rfl _ (iv_neg _ _), ?_⟩) | (refine L_load (t := 54) rfl rfl ?_; refine ⟨_, run_load_row hS _ _ rfl _ rfl _ _ (.inl (.head _)) _ Try.underlying54 rfl (size54_mg _), ?_⟩) | (refine L_load (t := 54) rfl rfl ?_; refine ⟨_, run_load_row hS _ _ rfl _ rfl _ _ (.inl (.tail _ (.head _))) _ Try.underlying54 rfl (size54_mg _), ?_⟩) | (refine L_store (t := 54) hS rfl rfl ?_; refine ⟨_, _, _, _, _, (.tail .head), run_store_row hS _ _ _ rfl _ rfl _ _ rfl _ (.tail .head) (size54_mg _) (mg_sizes _ _ _) (oneCells _ _), ?_⟩; clear hS; intro _ hS) | (refine L_store (t := 54) hS rfl rfl ?_; refine ⟨_, _, _, _, _, (.head), run_store_row hS _ _ _ rfl _ rfl _ _ rfl _ (.head) (size54_mg _) (mg_sizes _ _ _) (oneCells _ _), ?_⟩; clear hS; intro _ hS) | (refine L_build rfl rfl ?_; refine ⟨_, built54_one 1 1 rfl (by omega), ?_⟩) | (go_at_call 30; (with_reducible refine Gives.use (isZero _ HM.out) hS ?_); clear hS; intro _ hS) | (go_at_call 30; (with_reducible refine Gives.use (isZero _ HR.out) hS ?_); clear hS; intro _ hS) | (go_at_call 63; (with_reducible refine Gives.use (G) hS ?_); clear hS; intro _ hS) | (go_at_call 64; (with_reducible refine Gives.use (GP) hS ?_); clear hS; intro _ hS) | (go_at_call 65; (with_reducible refine Gives.use (GM) hS ?_); clear hS; intro _ hS))
    (try simp only [Act.put]); (try simp only [List.setIfInBounds_toArray, List.set_cons_succ, List.set_cons_zero]); refine wp_region_u2 hS 9 10 [] (.tail (.tail (.tail (.head (o' := .cells (ivZ (vz (true != t) q')) 25))))) (.tail (.tail (.head (o' := .cells (ivZ ((r' : Nat) : Int)) 25)))) (by kernel_rfl) (by kernel_rfl) ?_
    (refine S_run rfl rfl ?_; apply Exists.intro; refine ⟨fun _ => ?_, ?_⟩; (focus (go_simp; (try go_bits); exact rfl)); simp only [Act.put, List.setIfInBounds_toArray, List.set_cons_succ, List.set_cons_zero])
    (refine S_load (t := 4) rfl rfl rfl rfl ?_; refine ⟨_, fun _ hS' => run_load_cell hS' _ _ rfl _ _ rfl _ _ (.inl (.tail _ (.tail _ (.tail _ (.tail _ (.tail _ (.head _))))))) _ Try.underlying4 rfl _ (iv_neg _ _), ?_⟩; simp only [Act.put, List.setIfInBounds_toArray, List.set_cons_succ, List.set_cons_zero])
    (refine S_run rfl rfl ?_; apply Exists.intro; refine ⟨fun _ => ?_, ?_⟩; (focus (go_simp; (try go_bits); exact rfl)); simp only [Act.put, List.setIfInBounds_toArray, List.set_cons_succ, List.set_cons_zero])
    (refine S_load (t := 4) rfl rfl rfl rfl ?_; refine ⟨_, fun _ hS' => run_load_cell hS' _ _ rfl _ _ rfl _ _ (.inl (.tail _ (.tail _ (.tail _ (.tail _ (.head _)))))) _ Try.underlying4 rfl _ (iv_neg _ _), ?_⟩; simp only [Act.put, List.setIfInBounds_toArray, List.set_cons_succ, List.set_cons_zero])
    (refine S_run rfl rfl ?_; apply Exists.intro; refine ⟨fun _ => ?_, ?_⟩; (focus (go_simp; (try go_bits); exact rfl)); simp only [Act.put, List.setIfInBounds_toArray, List.set_cons_succ, List.set_cons_zero])
    (refine S_load (t := 54) rfl rfl rfl rfl ?_; refine ⟨_, fun _ hS' => run_load_row hS' _ _ rfl _ rfl _ _ (.inl (.tail _ (.head _))) _ Try.underlying54 rfl (size54_mg _), ?_⟩; simp only [Act.put, List.setIfInBounds_toArray, List.set_cons_succ, List.set_cons_zero])
    (refine S_call 25 rfl rfl rfl rfl ?_; apply Exists.intro; refine ⟨fun _ => ?_, ?_⟩; (focus (go_simp; exact rfl)); apply Exists.intro; (with_reducible refine ⟨GQ, ?_⟩); simp only [Act.put, List.setIfInBounds_toArray, List.set_cons_succ, List.set_cons_zero])
    (refine S_load (t := 54) rfl rfl rfl rfl ?_; refine ⟨_, fun _ hS' => run_load_row hS' _ _ rfl _ rfl _ _ (.inl (.head _)) _ Try.underlying54 rfl (size54_mg _), ?_⟩; simp only [Act.put, List.setIfInBounds_toArray, List.set_cons_succ, List.set_cons_zero])
    (refine S_call 25 rfl rfl rfl rfl ?_; apply Exists.intro; refine ⟨fun _ => ?_, ?_⟩; (focus (go_simp; exact rfl)); apply Exists.intro; (with_reducible refine ⟨GR, ?_⟩); simp only [Act.put, List.setIfInBounds_toArray, List.set_cons_succ, List.set_cons_zero])
    (refine S_store (t := 25) rfl rfl rfl ?_; refine ⟨_, _, _, _, (.tail (.tail (.tail .head))), fun _ hS' => run_store_row hS' _ _ _ rfl _ rfl _ _ rfl _ (.tail (.tail (.tail .head))) (size25_iv _ _) (iv_sizes _ _ _ _) (oneCells_iv _ _), ?_⟩; simp only [Act.put])
    (refine S_store (t := 25) rfl rfl rfl ?_; refine ⟨_, _, _, _, (.tail (.tail .head)), fun _ hS' => run_store_row hS' _ _ _ rfl _ rfl _ _ rfl _ (.tail (.tail .head)) (size25_iv _ _) (iv_sizes _ _ _ _) (oneCells_iv _ _), ?_⟩; simp only [Act.put])
    (refine S_run rfl rfl ?_; apply Exists.intro; refine ⟨fun _ => ?_, ?_⟩; (focus (go_simp; (try go_bits); exact rfl)); simp only [Act.put, List.setIfInBounds_toArray, List.set_cons_succ, List.set_cons_zero])
    refine S_end2 ?_; clear hS; intro _ hS
    go_wp2
    (try simp only [Exit.inBlock, Exit.then]); refine bodyPost_ret (res_cell_cell_tmp rfl _ _ _ _ _ (run_loadRow hS _ _ _ _ (.inl (.tail _ (.tail _ (.tail _ (.head _))))) _ Try.underlying25 rfl (size25_iv _ _)) (run_loadRow hS _ _ _ _ (.inl (.tail _ (.tail _ (.head _)))) _ Try.underlying25 rfl (size25_iv _ _)) rfl rfl _ rfl) rfl ⟨?_, hS.below⟩
    rfl

theorem divMod_of (s t : Bool) (n m : Nat) (hn : n < pw 32) (hm : m < pw 32) (h0 : 0 < m) (G : DivGives n m) : Gives Try.prog 32 #[.agg (iv s n), .agg (iv t m)] (divR (vz s n) (vz t m)) := by
  by_cases hs : s = false ∨ n % m = 0
  · exact divMod_plain s t n m hn hm h0 hs G
  · have : s = true := by cases s <;> simp_all
    subst this
    exact divMod_more t n m hn hm h0 (fun h => hs (.inr h)) G
end Go.Proofs.Ytlccefdjhiedcaa
end
section
namespace Go.Proofs.Ytlccefdjhiedcaa
open Go.RowKit Go.Proofs.Ytlccefdjhiedcaa.Sx
set_option linter.unusedSimpArgs false
set_option linter.unusedVariables false

theorem ari_or32 {s : Nat} (a b : Nat) (ha : a < 4294967296) (hb : b < 4294967296) (hs : b < 2 ^ s) (hm : a % 2 ^ s = 0) : ariI .or .u32 ((a : Nat) : Int) ((b : Nat) : Int) = ((a + b : Nat) : Int) := by
  have := u32_or_nat a b ha hb
  rw [nat_join s a b hm hs] at this
  exact this
theorem ari_or64 {s : Nat} (a b : Nat) (ha : a < 18446744073709551616) (hb : b < 18446744073709551616) (hs : b < 2 ^ s) (hm : a % 2 ^ s = 0) : ariI .or .u64 ((a : Nat) : Int) ((b : Nat) : Int) = ((a + b : Nat) : Int) := by
  have := u64_or_nat a b ha hb
  rw [nat_join s a b hm hs] at this
  exact this
theorem wrap_u64n (n : Nat) : IntKind.u64.wrap ((n : Nat) : Int) = ((n % 18446744073709551616 : Nat) : Int) := by rw [IntKind.wrap_u64]; omega
theorem shl32_of (x s p : Nat) (hs : s ≤ 32) (hp : 2 ^ s = p) : shfI .shl .u32 ((x : Nat) : Int) ((s : Nat) : Int) = ((x * p % 4294967296 : Nat) : Int) := by
  have : min ((s : Nat) : Int).toNat 32 = s := by omega
  simp only [shfI, IntKind.bits, this]
  rw [← wrap_u32]
  congr 1
  rw [← hp]; push_cast; rfl
theorem shl64_of (x s p : Nat) (hs : s ≤ 64) (hp : 2 ^ s = p) : shfI .shl .u64 ((x : Nat) : Int) ((s : Nat) : Int) = ((x * p % 18446744073709551616 : Nat) : Int) := by
  have : min ((s : Nat) : Int).toNat 64 = s := by omega
  simp only [shfI, IntKind.bits, this]
  rw [← wrap_u64n]
  congr 1
  rw [← hp]; push_cast; rfl
theorem shr_of {k : IntKind} (x s p : Nat) (hs : s ≤ k.bits) (hp : 2 ^ s = p) : shfI .shr k ((x : Nat) : Int) ((s : Nat) : Int) = ((x / p : Nat) : Int) := by
  have : min ((s : Nat) : Int).toNat k.bits = s := by omega
  simp only [shfI, this]
  rw [Int.fdiv_eq_ediv_of_nonneg _ (by rw [show ((2 : Int) ^ s) = ((2 ^ s : Nat) : Int) by push_cast; rfl]; exact Int.natCast_nonneg _)]
  rw [← hp]; push_cast; rfl
def dblT (n b i : Nat) : Nat := 2 * (n % pw i) + b
def dblC (n b i : Nat) : Nat := dblT n b i / pw i
def dblR (n b i : Nat) : Nat := dblT n b i % pw i + n / pw i * pw i
theorem dblC_le {n b i : Nat} (hb : b ≤ 1) : dblC n b i ≤ 1 := by
  have h1 := Nat.mod_lt n (pw_pos i)
  unfold dblC dblT
  have : (2 * (n % pw i) + b) / pw i < 2 := by rw [Nat.div_lt_iff_lt_mul (pw_pos i)]; omega
  omega
theorem dbl_zero (n b : Nat) : dblC n b 0 = b ∧ dblR n b 0 = n := by
  unfold dblC dblR dblT; rw [mod_pw_zero, pw_zero]; simp [Nat.mod_one]
theorem dblT_next (n b i : Nat) : dblT n b (i + 1) = (2 * limb n i + dblC n b i) * pw i + dblT n b i % pw i := by
  have h := Nat.div_add_mod (dblT n b i) (pw i)
  have h2 := mod_pw n i
  have e : 2 * (limb n i * pw i) = 2 * limb n i * pw i := by rw [Nat.mul_assoc]
  have e2 : dblT n b (i + 1) = dblT n b i + 2 * (limb n i * pw i) := by unfold dblT; omega
  rw [e2, Nat.add_mul, ← e]
  unfold dblC
  rw [Nat.mul_comm (dblT n b i / pw i)]
  omega
theorem dbl_limb (n b i : Nat) : limb (dblR n b i) i = limb n i := by
  unfold dblR
  rw [Nat.add_comm, limb_split _ _ _ _ (Nat.mod_lt _ (pw_pos i)), if_neg (by omega), Nat.sub_self]
  unfold limb; rw [div_pw_zero]
theorem dbl_next {n b i : Nat} (hb : b ≤ 1) : dblC n b (i + 1) = limb n i / 2147483648 ∧ put (dblR n b i) i ((2 * limb n i) % 4294967296 + dblC n b i) = dblR n b (i + 1) := by
  have hc := dblC_le (n := n) (i := i) hb
  have hx := limb_lt n i
  have h := split_next (dblT_next n b i) (Nat.mod_lt _ (pw_pos i))
  have hs : (dblT n b i % pw i) < pw i := Nat.mod_lt _ (pw_pos i)
  constructor
  · rw [show dblC n b (i + 1) = dblT n b (i + 1) / pw (i + 1) from rfl, h.2]; omega
  · rw [put_eq]
    have e1 : dblR n b i % pw i = dblT n b i % pw i := by
      unfold dblR; rw [Nat.add_mul_mod_self_right, Nat.mod_mod]
    have e2 : dblR n b i / pw (i + 1) = n / pw (i + 1) := by
      rw [pw_succ, ← Nat.div_div_eq_div_mul, ← Nat.div_div_eq_div_mul]
      congr 1
      unfold dblR
      rw [Nat.add_mul_div_right _ _ (pw_pos i), Nat.div_eq_of_lt hs, Nat.zero_add]
    rw [e1, e2, show dblR n b (i + 1) = dblT n b (i + 1) % pw (i + 1) + n / pw (i + 1) * pw (i + 1) from rfl, h.1]
    have e3 : (2 * limb n i + dblC n b i) % 4294967296 = (2 * limb n i) % 4294967296 + dblC n b i := by omega
    rw [e3, pw_succ, Nat.add_mul]
    have e4 : ∀ N : Nat, N * 4294967296 * pw i = N * (pw i * 4294967296) := fun N => by rw [Nat.mul_assoc, Nat.mul_comm 4294967296]
    rw [e4]
    omega
theorem dbl_end {n b : Nat} (hn : n < pw 32) : dblC n b 32 = (2 * n + b) / pw 32 ∧ dblR n b 32 = (2 * n + b) % pw 32 := by
  unfold dblC dblR dblT
  rw [Nat.mod_eq_of_lt hn, Nat.div_eq_of_lt hn]; simp
end Go.Proofs.Ytlccefdjhiedcaa
end
section
namespace Go.Proofs.Ytlccefdjhiedcaa
open Go.RowKit Go.Proofs.Ytlccefdjhiedcaa.Sx
set_option linter.unusedSimpArgs false
set_option linter.unusedVariables false

def byteN (s : ByteArray) (i : Nat) : Nat := (s.data.toList.getD i 0).toNat
def digB (s : ByteArray) (i : Nat) : Prop := 48 ≤ byteN s i ∧ byteN s i ≤ 57
theorem byteI_N (s : ByteArray) (i : Nat) : byteI s ((i : Nat) : Int) = ((byteN s i : Nat) : Int) := by
  unfold byteI byteN; rw [Int.toNat_natCast]
theorem isnum_end (s : ByteArray) : ∃ (j : Nat) (bad : Bool), j ≤ s.size ∧ (∀ i, i < j → digB s i) ∧ (bad = true → j < s.size ∧ ¬ digB s j) ∧ (bad = false → j = s.size) := by
  classical
  by_cases h : ∃ i, i < s.size ∧ ¬ digB s i
  · obtain ⟨j, ⟨h1, h2⟩, h3⟩ := least h
    refine ⟨j, true, Nat.le_of_lt h1, fun i hi => ?_, fun _ => ⟨h1, h2⟩, fun h => by cases h⟩
    by_cases hd : digB s i
    · exact hd
    · exact absurd (h3 i ⟨by omega, hd⟩) (by omega)
  · refine ⟨s.size, false, Nat.le_refl _, fun i hi => ?_, (fun h => by cases h), fun _ => rfl⟩
    by_cases hd : digB s i
    · exact hd
    · exact absurd ⟨i, hi, hd⟩ h
set_option maxHeartbeats 4000000 in
theorem isnum_loop (s : ByteArray) (hl : s.size ≤ 309) (j : Nat) (bad : Bool) (h1 : j ≤ s.size) (h2 : ∀ i, i < j → digB s i) (h3 : bad = true → j < s.size ∧ ¬ digB s j) (h4 : bad = false → j = s.size) :
    Ev.holds Try.prog (env [.string s, .int .i64 (j : Nat), .bool false, .bool bad]) (.loop 23 0 xtS23_0 xtH23_0 (.exit 0) (.some (3, .ret)) 3) := by
  refine loop_holds plain (m := 3) (x := .exit 0) (alt := .some (3, .ret)) [.string s] [.int .i64 (j : Nat), .bool false, .bool bad] tIsNumber0_ok tIsNumber0_fine
    (fun vs => ∃ i : Nat, i ≤ j ∧ vs = [.int .i64 (i : Nat), .bool false, .bool bad])
    (fun vs => 400 - (vInt (vs.getD 0 undef)).toNat) tIsNumber0_diff ?_ ?_
  · refine ⟨[.int .i64 (0 : Nat), .bool false, .bool bad], rfl, ⟨0, by omega, rfl⟩, ?_⟩
    simp [tIsNumber0_d, BTm.den, Tm.i, Tm.s, Tm.den, env, vInt, vBool, vStr, exI, SW.den, SV.den, Cell.den, densP, Piece.den, denV, denT]
  · rintro vs hlv ⟨i, hi, rfl⟩
    clear hlv
    have hb := byteI_N s i
    have hend : i < s.size → ¬ digB s i → bad = true ∧ i = j := fun h5 h6 => by
      have h7 : i = j := by
        rcases Nat.lt_or_ge i j with h | h
        · exact absurd (h2 i h) h6
        · omega
      subst h7
      cases hbad : bad with
      | true => exact ⟨rfl, rfl⟩
      | false => exact absurd (h4 hbad) (by omega)
    refine tree_ite (ev_nil ⟨fun hlt => tree_ite ?_, fun hlt => tree_leaf (ev_nil ?_)⟩)
    · have hlt : i < s.size := by simpa [BTm.den, Tm.i, Tm.s, Tm.den, env, vInt, vBool, vStr, exI] using hlt
      refine ev_need (by simp [BTm.den, Tm.i, Tm.s, Tm.den, env, vInt, vBool, vStr, exI]) ?_
      refine ev_need (by simp [BTm.den, Tm.i, Tm.s, Tm.den, env, vInt, vBool, vStr, exI, hlt]) ?_
      refine ev_nil ⟨fun h => tree_leaf (ev_nil ?_), fun h => tree_ite ?_⟩
      · have h : ((byteN s i : Nat) : Int) < 48 := by simpa [BTm.den, Tm.i, Tm.s, Tm.den, env, vInt, vBool, vStr, exI, hb] using h
        obtain ⟨hbad, rfl⟩ := hend hlt (fun hd => by have := hd.1; omega)
        subst hbad
        refine ⟨rfl, ?_⟩
        simp [BTm.den, Tm.i, Tm.s, Tm.den, env, vInt, vBool, vStr, exI, SW.den, SV.den, Cell.den, densP, Piece.den, denV, denT]
      · have h : ¬ ((byteN s i : Nat) : Int) < 48 := by simpa [BTm.den, Tm.i, Tm.s, Tm.den, env, vInt, vBool, vStr, exI, hb] using h
        refine ev_need (by simp [BTm.den, Tm.i, Tm.s, Tm.den, env, vInt, vBool, vStr, exI]) ?_
        refine ev_need (by simp [BTm.den, Tm.i, Tm.s, Tm.den, env, vInt, vBool, vStr, exI, hlt]) ?_
        refine ev_nil ⟨fun h' => tree_leaf (ev_nil ?_), fun h' => tree_leaf ?_⟩
        · have h' : 57 < ((byteN s i : Nat) : Int) := by simpa [BTm.den, Tm.i, Tm.s, Tm.den, env, vInt, vBool, vStr, exI, hb] using h'
          obtain ⟨hbad, rfl⟩ := hend hlt (fun hd => by have := hd.2; omega)
          subst hbad
          refine ⟨rfl, ?_⟩
          simp [BTm.den, Tm.i, Tm.s, Tm.den, env, vInt, vBool, vStr, exI, SW.den, SV.den, Cell.den, densP, Piece.den, denV, denT]
        · have h' : ¬ 57 < ((byteN s i : Nat) : Int) := by simpa [BTm.den, Tm.i, Tm.s, Tm.den, env, vInt, vBool, vStr, exI, hb] using h'
          have hij : i + 1 ≤ j := by
            rcases Nat.lt_or_ge i j with h8 | h8
            · omega
            · have h9 : i = j := by omega
              subst h9
              cases hbad : bad with
              | true => exact absurd ⟨by omega, by omega⟩ (h3 hbad).2
              | false => have := h4 hbad; omega
          refine ev_fits ((i + 1 : Nat) : Int) (by simp [BTm.den, Tm.i, Tm.s, Tm.den, env, vInt, vBool, vStr, exI]) (rng_i64 _ (by omega)) ?_
          refine ev_nil ⟨[.int .i64 (i + 1 : Nat), .bool false, .bool bad], rfl, ⟨i + 1, hij, rfl⟩, by simp [vInt]; omega, ?_⟩
          simp [BTm.den, Tm.i, Tm.s, Tm.den, env, vInt, vBool, vStr, exI, SW.den, SV.den, Cell.den, densP, Piece.den, denV, denT]
    · have hlt : ¬ i < s.size := by simpa [BTm.den, Tm.i, Tm.s, Tm.den, env, vInt, vBool, vStr, exI] using hlt
      obtain rfl : i = j := by omega
      have hbad : bad = false := by
        cases hb : bad with
        | true => have := (h3 hb).1; omega
        | false => rfl
      subst hbad
      refine ⟨rfl, ?_⟩
      simp [BTm.den, Tm.i, Tm.s, Tm.den, env, vInt, vBool, vStr, exI, SW.den, SV.den, Cell.den, densP, Piece.den, denV, denT]
set_option maxHeartbeats 4000000 in
theorem isnum_loopb (s : ByteArray) (hl : s.size ≤ 309) (j : Nat) (bad : Bool) (h1 : j ≤ s.size) (h2 : ∀ i, i < j → digB s i) (h3 : bad = true → j < s.size ∧ ¬ digB s j) (h4 : bad = false → j = s.size) :
    Ev.holds Try.prog (env [.string s, .int .i64 (j : Nat), .bool false, .bool bad]) (.loop 23 0 xtS23_0b xtH23_0b (.exit 0) (.some (3, .ret)) 3) := by
  refine loop_holds plain (m := 3) (x := .exit 0) (alt := .some (3, .ret)) [.string s] [.int .i64 (j : Nat), .bool false, .bool bad] tIsNumber0b_ok tIsNumber0b_fine
    (fun vs => ∃ i : Nat, i ≤ j ∧ vs = [.int .i64 (i : Nat), .bool false, .bool bad])
    (fun vs => 400 - (vInt (vs.getD 0 undef)).toNat) tIsNumber0b_diff ?_ ?_
  · refine ⟨[.int .i64 (0 : Nat), .bool false, .bool bad], rfl, ⟨0, by omega, rfl⟩, ?_⟩
    simp [tIsNumber0b_d, BTm.den, Tm.i, Tm.s, Tm.den, env, vInt, vBool, vStr, exI, SW.den, SV.den, Cell.den, densP, Piece.den, denV, denT]
  · rintro vs hlv ⟨i, hi, rfl⟩
    clear hlv
    have hb := byteI_N s i
    have hend : i < s.size → ¬ digB s i → bad = true ∧ i = j := fun h5 h6 => by
      have h7 : i = j := by
        rcases Nat.lt_or_ge i j with h | h
        · exact absurd (h2 i h) h6
        · omega
      subst h7
      cases hbad : bad with
      | true => exact ⟨rfl, rfl⟩
      | false => exact absurd (h4 hbad) (by omega)
    refine tree_ite (ev_nil ⟨fun hlt => tree_ite ?_, fun hlt => tree_leaf (ev_nil ?_)⟩)
    · have hlt : i < s.size := by simpa [BTm.den, Tm.i, Tm.s, Tm.den, env, vInt, vBool, vStr, exI] using hlt
      refine ev_need (by simp [BTm.den, Tm.i, Tm.s, Tm.den, env, vInt, vBool, vStr, exI]) ?_
      refine ev_need (by simp [BTm.den, Tm.i, Tm.s, Tm.den, env, vInt, vBool, vStr, exI, hlt]) ?_
      refine ev_nil ⟨fun h => tree_leaf (ev_nil ?_), fun h => tree_ite ?_⟩
      · have h : ((byteN s i : Nat) : Int) < 48 := by simpa [BTm.den, Tm.i, Tm.s, Tm.den, env, vInt, vBool, vStr, exI, hb] using h
        obtain ⟨hbad, rfl⟩ := hend hlt (fun hd => by have := hd.1; omega)
        subst hbad
        refine ⟨rfl, ?_⟩
        simp [BTm.den, Tm.i, Tm.s, Tm.den, env, vInt, vBool, vStr, exI, SW.den, SV.den, Cell.den, densP, Piece.den, denV, denT]
      · have h : ¬ ((byteN s i : Nat) : Int) < 48 := by simpa [BTm.den, Tm.i, Tm.s, Tm.den, env, vInt, vBool, vStr, exI, hb] using h
        refine ev_need (by simp [BTm.den, Tm.i, Tm.s, Tm.den, env, vInt, vBool, vStr, exI]) ?_
        refine ev_need (by simp [BTm.den, Tm.i, Tm.s, Tm.den, env, vInt, vBool, vStr, exI, hlt]) ?_
        refine ev_nil ⟨fun h' => tree_leaf (ev_nil ?_), fun h' => tree_leaf ?_⟩
        · have h' : 57 < ((byteN s i : Nat) : Int) := by simpa [BTm.den, Tm.i, Tm.s, Tm.den, env, vInt, vBool, vStr, exI, hb] using h'
          obtain ⟨hbad, rfl⟩ := hend hlt (fun hd => by have := hd.2; omega)
          subst hbad
          refine ⟨rfl, ?_⟩
          simp [BTm.den, Tm.i, Tm.s, Tm.den, env, vInt, vBool, vStr, exI, SW.den, SV.den, Cell.den, densP, Piece.den, denV, denT]
        · have h' : ¬ 57 < ((byteN s i : Nat) : Int) := by simpa [BTm.den, Tm.i, Tm.s, Tm.den, env, vInt, vBool, vStr, exI, hb] using h'
          have hij : i + 1 ≤ j := by
            rcases Nat.lt_or_ge i j with h8 | h8
            · omega
            · have h9 : i = j := by omega
              subst h9
              cases hbad : bad with
              | true => exact absurd ⟨by omega, by omega⟩ (h3 hbad).2
              | false => have := h4 hbad; omega
          refine ev_fits ((i + 1 : Nat) : Int) (by simp [BTm.den, Tm.i, Tm.s, Tm.den, env, vInt, vBool, vStr, exI]) (rng_i64 _ (by omega)) ?_
          refine ev_nil ⟨[.int .i64 (i + 1 : Nat), .bool false, .bool bad], rfl, ⟨i + 1, hij, rfl⟩, by simp [vInt]; omega, ?_⟩
          simp [BTm.den, Tm.i, Tm.s, Tm.den, env, vInt, vBool, vStr, exI, SW.den, SV.den, Cell.den, densP, Piece.den, denV, denT]
    · have hlt : ¬ i < s.size := by simpa [BTm.den, Tm.i, Tm.s, Tm.den, env, vInt, vBool, vStr, exI] using hlt
      obtain rfl : i = j := by omega
      have hbad : bad = false := by
        cases hb : bad with
        | true => have := (h3 hb).1; omega
        | false => rfl
      subst hbad
      refine ⟨rfl, ?_⟩
      simp [BTm.den, Tm.i, Tm.s, Tm.den, env, vInt, vBool, vStr, exI, SW.den, SV.den, Cell.den, densP, Piece.den, denV, denT]
def NumOk (s : ByteArray) : Prop := s.size ≠ 0 ∧ s.size ≤ 309 ∧ (1 < s.size → byteN s 0 ≠ 48) ∧ ∀ i, i < s.size → digB s i
theorem isnum_any (s : ByteArray) : ∃ b : Bool, (b = true ↔ NumOk s) ∧ Gives Try.prog 23 #[.string s] (.bool b) := by
  obtain ⟨j, bad, h1, h2, h3, h4⟩ := isnum_end s
  have hall : bad = false ↔ ∀ i, i < s.size → digB s i := by
    constructor
    · intro h i hi; exact h2 i (by have := h4 h; omega)
    · intro h
      cases hb : bad with
      | true => exact absurd (h j (h3 hb).1) (h3 hb).2
      | false => rfl
  have b0 : byteI s 0 = ((byteN s 0 : Nat) : Int) := byteI_N s 0
  have fin : ∀ b : Bool, (tIsNumber.den Try.prog (fun ρ' ret => ∀ β, ret.val.den (env ρ') β = .bool b) [.string s]) → Gives Try.prog 23 #[.string s] (.bool b) := fun b main => by
    have h := pure_of plain [.string s] tIsNumber_ok (by kernel_rfl) _ main
    refine gives_pure ?_
    simpa [strW, BTm.den, Tm.i, Tm.s, Tm.den, env, vInt, vBool, vStr, exI, SW.den, SV.den, Cell.den, densP, Piece.den, denV, denT] using h
  by_cases e1 : s.size = 0
  · refine ⟨false, ⟨fun h => (by cases h), fun h => absurd e1 h.1⟩, fin _ ?_⟩
    refine tree_ite (ev_nil (way_true (by simp [BTm.den, Tm.i, Tm.s, Tm.den, env, vInt, vBool, vStr, exI, e1]) (tree_leaf (ev_nil fun β => ?_))))
    simp [BTm.den, Tm.i, Tm.s, Tm.den, env, vInt, vBool, vStr, exI, SW.den, SV.den, Cell.den, densP, Piece.den, denV, denT]
  by_cases e2 : 309 < s.size
  · refine ⟨false, ⟨fun h => (by cases h), fun h => absurd h.2.1 (by omega)⟩, fin _ ?_⟩
    refine tree_ite (ev_nil (way_false (by simp [BTm.den, Tm.i, Tm.s, Tm.den, env, vInt, vBool, vStr, exI, e1]) (tree_ite (ev_nil (way_true (by simp [BTm.den, Tm.i, Tm.s, Tm.den, env, vInt, vBool, vStr, exI]; omega) (tree_leaf (ev_nil fun β => ?_)))))))
    simp [BTm.den, Tm.i, Tm.s, Tm.den, env, vInt, vBool, vStr, exI, SW.den, SV.den, Cell.den, densP, Piece.den, denV, denT]
  have hl := isnum_loop s (by omega) j bad h1 h2 h3 h4
  have hlb := isnum_loopb s (by omega) j bad h1 h2 h3 h4
  by_cases e3 : 1 < s.size
  · by_cases e4 : byteN s 0 = 48
    · refine ⟨false, ⟨fun h => (by cases h), fun h => absurd e4 (h.2.2.1 e3)⟩, fin _ ?_⟩
      refine tree_ite (ev_nil (way_false (by simp [BTm.den, Tm.i, Tm.s, Tm.den, env, vInt, vBool, vStr, exI, e1]) (tree_ite (ev_nil (way_false (by simp [BTm.den, Tm.i, Tm.s, Tm.den, env, vInt, vBool, vStr, exI]; omega) (tree_ite (ev_nil (way_true (by simp [BTm.den, Tm.i, Tm.s, Tm.den, env, vInt, vBool, vStr, exI]; omega) (tree_ite ?_)))))))))
      refine ev_need (by simp [BTm.den, Tm.i, Tm.s, Tm.den, env, vInt, vBool, vStr, exI]) ?_
      refine ev_need (by simp [BTm.den, Tm.i, Tm.s, Tm.den, env, vInt, vBool, vStr, exI]; omega) ?_
      refine ev_nil (way_true (by simp [BTm.den, Tm.i, Tm.s, Tm.den, env, vInt, vBool, vStr, exI, b0, e4]) (tree_leaf (ev_nil fun β => ?_)))
      simp [BTm.den, Tm.i, Tm.s, Tm.den, env, vInt, vBool, vStr, exI, SW.den, SV.den, Cell.den, densP, Piece.den, denV, denT]
    · refine ⟨!bad, ⟨fun h => ⟨e1, by omega, fun _ => e4, hall.1 (by simpa using h)⟩, fun h => by simpa using hall.2 h.2.2.2⟩, fin _ ?_⟩
      refine tree_ite (ev_nil (way_false (by simp [BTm.den, Tm.i, Tm.s, Tm.den, env, vInt, vBool, vStr, exI, e1]) (tree_ite (ev_nil (way_false (by simp [BTm.den, Tm.i, Tm.s, Tm.den, env, vInt, vBool, vStr, exI]; omega) (tree_ite (ev_nil (way_true (by simp [BTm.den, Tm.i, Tm.s, Tm.den, env, vInt, vBool, vStr, exI]; omega) (tree_ite ?_)))))))))
      refine ev_need (by simp [BTm.den, Tm.i, Tm.s, Tm.den, env, vInt, vBool, vStr, exI]) ?_
      refine ev_need (by simp [BTm.den, Tm.i, Tm.s, Tm.den, env, vInt, vBool, vStr, exI]; omega) ?_
      refine ev_nil (way_false (by simp [BTm.den, Tm.i, Tm.s, Tm.den, env, vInt, vBool, vStr, exI, b0]; omega) (tree_ite ?_))
      refine ev_loop [.int .i64 (j : Nat), .bool false, .bool bad] rfl rfl hl ?_
      refine ev_nil ⟨fun h => tree_leaf (ev_nil fun β => ?_), fun h => tree_leaf (ev_nil fun β => ?_)⟩
      · have h : bad = true := by simpa [BTm.den, Tm.i, Tm.s, Tm.den, env, vInt, vBool, vStr, exI] using h
        rw [h]; simp [BTm.den, Tm.i, Tm.s, Tm.den, env, vInt, vBool, vStr, exI, SW.den, SV.den, Cell.den, densP, Piece.den, denV, denT]
      · have h : bad = false := by simpa [BTm.den, Tm.i, Tm.s, Tm.den, env, vInt, vBool, vStr, exI] using h
        rw [h]; simp [BTm.den, Tm.i, Tm.s, Tm.den, env, vInt, vBool, vStr, exI, SW.den, SV.den, Cell.den, densP, Piece.den, denV, denT]
  · refine ⟨!bad, ⟨fun h => ⟨e1, by omega, fun h => absurd h e3, hall.1 (by simpa using h)⟩, fun h => by simpa using hall.2 h.2.2.2⟩, fin _ ?_⟩
    refine tree_ite (ev_nil (way_false (by simp [BTm.den, Tm.i, Tm.s, Tm.den, env, vInt, vBool, vStr, exI, e1]) (tree_ite (ev_nil (way_false (by simp [BTm.den, Tm.i, Tm.s, Tm.den, env, vInt, vBool, vStr, exI]; omega) (tree_ite (ev_nil (way_false (by simp [BTm.den, Tm.i, Tm.s, Tm.den, env, vInt, vBool, vStr, exI]; omega) (tree_ite ?_)))))))))
    refine ev_loop [.int .i64 (j : Nat), .bool false, .bool bad] rfl rfl hlb ?_
    refine ev_nil ⟨fun h => tree_leaf (ev_nil fun β => ?_), fun h => tree_leaf (ev_nil fun β => ?_)⟩
    · have h : bad = true := by simpa [BTm.den, Tm.i, Tm.s, Tm.den, env, vInt, vBool, vStr, exI] using h
      rw [h]; simp [BTm.den, Tm.i, Tm.s, Tm.den, env, vInt, vBool, vStr, exI, SW.den, SV.den, Cell.den, densP, Piece.den, denV, denT]
    · have h : bad = false := by simpa [BTm.den, Tm.i, Tm.s, Tm.den, env, vInt, vBool, vStr, exI] using h
      rw [h]; simp [BTm.den, Tm.i, Tm.s, Tm.den, env, vInt, vBool, vStr, exI, SW.den, SV.den, Cell.den, densP, Piece.den, denV, denT]
end Go.Proofs.Ytlccefdjhiedcaa
end
section
namespace Go.Proofs.Ytlccefdjhiedcaa
open Go.RowKit Go.Proofs.Ytlccefdjhiedcaa.Sx
set_option linter.unusedSimpArgs false
set_option linter.unusedVariables false

def carD (m d i : Nat) : Nat := (10 * (m % pw i) + d) / pw i
theorem carD_zero (m d : Nat) : carD m d 0 = d := by unfold carD; rw [mod_pw_zero, pw_zero, Nat.mul_zero, Nat.zero_add, Nat.div_one]
theorem carD_next (m d i : Nat) : carD m d (i + 1) = (carD m d i + limb m i * 10) / 4294967296 := by
  unfold carD
  rw [mod_pw, pw_succ, ← Nat.div_div_eq_div_mul]
  congr 1
  rw [show 10 * (m % pw i + limb m i * pw i) + d = 10 * (m % pw i) + d + limb m i * 10 * pw i by rw [Nat.mul_add, Nat.mul_right_comm, Nat.mul_comm 10 (limb m i * pw i), Nat.mul_right_comm]; omega, Nat.add_mul_div_right _ _ (pw_pos i)]
theorem carD_le (m d i : Nat) (hd : d ≤ 255) : carD m d i ≤ 265 := by
  unfold carD
  have h := Nat.mod_lt m (pw_pos i)
  have hp := pw_pos i
  refine Nat.le_of_lt_succ ((Nat.div_lt_iff_lt_mul hp).2 ?_)
  have : 266 * pw i = pw i * 266 := Nat.mul_comm _ _
  omega
theorem limbD (m d i : Nat) : limb (10 * m + d) i = (carD m d i + limb m i * 10) % 4294967296 := by
  unfold carD
  have e : 10 * m + d = 10 * (m % pw i) + d + (m / pw i * 10) * pw i := by
    have := Nat.div_add_mod m (pw i)
    have e2 : m / pw i * 10 * pw i = 10 * (pw i * (m / pw i)) := by rw [Nat.mul_right_comm, Nat.mul_comm (m / pw i), Nat.mul_comm 10]
    omega
  conv => lhs; unfold limb; rw [e, Nat.add_mul_div_right _ _ (pw_pos i), div_pw m i]
  omega
def rowD (m d : Nat) : Nat → Nat
  | 0 => m
  | i + 1 => put (rowD m d i) i (limb (10 * m + d) i)
theorem rowD_limb (m d : Nat) : ∀ i j, limb (rowD m d i) j = if j < i then limb (10 * m + d) j else limb m j
  | 0, j => by rw [if_neg (by omega)]; rfl
  | i + 1, j => by
    rw [rowD, limb_put _ _ _ _ (limb_lt _ _), rowD_limb m d i j]
    by_cases h : j = i
    · subst h; rw [if_pos rfl, if_pos (by omega)]
    · rw [if_neg h]
      by_cases h2 : j < i
      · rw [if_pos h2, if_pos (by omega)]
      · rw [if_neg h2, if_neg (by omega)]
set_option maxHeartbeats 4000000 in
theorem append_loop (m d : Nat) (hd : d ≤ 255) :
    Ev.holds Try.prog (env [.agg (mgk 32 m), .int .u8 (d : Nat), .int .i64 (32 : Nat), .int .u64 (carD m d 32 : Nat), .agg (mgk 32 (rowD m d 32))]) (.loop 24 0 xtS24_0 xtH24_0 (.exit 0) .none 3) := by
  refine loop_holds plain (m := 3) (x := .exit 0) (alt := none) [.agg (mgk 32 m), .int .u8 (d : Nat)] [.int .i64 (32 : Nat), .int .u64 (carD m d 32 : Nat), .agg (mgk 32 (rowD m d 32))] tAppendDigit0_ok tAppendDigit0_fine
    (fun vs => ∃ i : Nat, i ≤ 32 ∧ vs = [.int .i64 (i : Nat), .int .u64 (carD m d i : Nat), .agg (mgk 32 (rowD m d i))])
    (fun vs => 32 - (vInt (vs.getD 0 undef)).toNat) tAppendDigit0_diff ?_ ?_
  · refine ⟨[.int .i64 (0 : Nat), .int .u64 (carD m d 0 : Nat), .agg (mgk 32 (rowD m d 0))], rfl, ⟨0, by omega, rfl⟩, ?_⟩
    rw [carD_zero, rowD]
    simp [tAppendDigit0_d, BTm.den, Tm.i, Tm.s, Tm.den, env, vInt, vBool, vStr, exI, SW.den, SV.den, Cell.den, densP, Piece.den, denV, denT]
  · rintro vs hl ⟨i, hi, rfl⟩
    clear hl
    refine tree_ite (ev_nil ⟨fun hlt => tree_leaf ?_, fun hlt => tree_leaf (ev_nil ?_)⟩)
    · have hlt : i < 32 := by
        have : (i : Int) < 32 := by simpa [BTm.den, Tm.i, Tm.s, Tm.den, env, vInt, vBool, vStr, exI] using hlt
        omega
      have hc := carD_le m d i hd
      have hn := carD_next m d i
      have hL := limbD m d i
      have hx := limb_lt m i
      have hLl := limb_lt (10 * m + d) i
      have hrow : rowD m d (i + 1) = put (rowD m d i) i (limb (10 * m + d) i) := rfl
      obtain ⟨x, hxx⟩ : ∃ x, x = limb m i := ⟨_, rfl⟩
      obtain ⟨c, hcc⟩ : ∃ x, x = carD m d i := ⟨_, rfl⟩
      obtain ⟨c', hcc'⟩ : ∃ x, x = carD m d (i + 1) := ⟨_, rfl⟩
      obtain ⟨L, hLL⟩ : ∃ x, x = limb (10 * m + d) i := ⟨_, rfl⟩
      obtain ⟨W, hW⟩ : ∃ x, x = rowD m d i := ⟨_, rfl⟩
      obtain ⟨W', hW'⟩ : ∃ x, x = rowD m d (i + 1) := ⟨_, rfl⟩
      have hel : ((mgl 32 m).drop i).take 1 = [.int .u32 (x : Nat)] := by rw [hxx]; exact mgl_elem hlt
      rw [← hxx] at hn hL hx
      rw [← hcc] at hc hn hL ⊢
      rw [← hcc'] at hn
      rw [← hLL] at hL hLl hrow
      rw [← hW] at hrow ⊢
      rw [← hW'] at hrow
      have hput : mgl 32 (put W i L) = (mgl 32 W).take i ++ [.int .u32 (L : Nat)] ++ (mgl 32 W).drop (i + 1) := mgl_put (by omega) rfl hLl
      have hw : IntKind.u32.wrap ((c : Int) + (x : Int) * 10) = ((L : Nat) : Int) := by rw [IntKind.wrap_u32, hL]; omega
      have hsr := shr_of (k := .u64) (c + x * 10) 32 4294967296 (by show 32 ≤ 64; omega) (by rfl)
      have hs : shfI .shr .u64 ((c : Int) + (x : Int) * 10) 32 = ((c' : Nat) : Int) := by
        rw [hn]
        have e : (((c + x * 10 : Nat)) : Int) = (c : Int) + (x : Int) * 10 := by push_cast; rfl
        rw [← e]; exact hsr
      refine ev_need (by simp [BTm.den, Tm.i, Tm.s, Tm.den, env, vInt, vBool, vStr, exI]) ?_
      refine ev_need (by simp [BTm.den, Tm.i, Tm.s, Tm.den, env, vInt, vBool, vStr, exI] <;> omega) ?_
      refine ev_elem [.int .u32 (x : Nat)] rfl rfl (l := mgl 32 m) (m := [.int .u32 (x : Nat)]) (k := i) (by simp [BTm.den, Tm.i, Tm.s, Tm.den, env, vInt, vBool, vStr, exI] <;> omega) (fun β => rowCells_mgk 32 m) (fun β => rfl) hel ?_
      refine ev_fits ((x : Nat) : Int) (by simp [BTm.den, Tm.i, Tm.s, Tm.den, env, vInt, vBool, vStr, exI]) (rng_u64 _ (by omega)) ?_
      refine ev_fits ((x : Int) * 10) (by simp [BTm.den, Tm.i, Tm.s, Tm.den, env, vInt, vBool, vStr, exI]) (rng_u64 _ (by omega)) ?_
      refine ev_fits ((c : Int) + (x : Int) * 10) (by simp [BTm.den, Tm.i, Tm.s, Tm.den, env, vInt, vBool, vStr, exI]) (rng_u64 _ (by omega)) ?_
      refine ev_need (by simp [BTm.den, Tm.i, Tm.s, Tm.den, env, vInt, vBool, vStr, exI]) ?_
      refine ev_need (by simp [BTm.den, Tm.i, Tm.s, Tm.den, env, vInt, vBool, vStr, exI] <;> omega) ?_
      refine ev_put [.agg (mgk 32 (put W i L))] rfl rfl (l := mgl 32 W) (l' := mgl 32 (put W i L)) (m := [.int .u32 (L : Nat)]) (k := i) (by simp [BTm.den, Tm.i, Tm.s, Tm.den, env, vInt, vBool, vStr, exI] <;> omega) (fun β => rowCells_mgk 32 _) (fun β => rowCells_mgk 32 _) (fun β => by simp [BTm.den, Tm.i, Tm.s, Tm.den, env, vInt, vBool, vStr, exI, SW.den, SV.den, Cell.den, densP, Piece.den, denV, denT, hw]) hput (by rw [mgl_length]; simp; omega) ?_
      refine ev_fits ((i + 1 : Nat) : Int) (by simp [BTm.den, Tm.i, Tm.s, Tm.den, env, vInt, vBool, vStr, exI]) (rng_i64 _ (by omega)) ?_
      refine ev_nil ⟨[.int .i64 (i + 1 : Nat), .int .u64 (carD m d (i + 1) : Nat), .agg (mgk 32 (rowD m d (i + 1)))], rfl, ⟨i + 1, by omega, rfl⟩, by simp [vInt]; omega, ?_⟩
      rw [← hcc', ← hW', hrow]
      simp [BTm.den, Tm.i, Tm.s, Tm.den, env, vInt, vBool, vStr, exI, SW.den, SV.den, Cell.den, densP, Piece.den, denV, denT, rowCells_mgk, hs]
    · have hlt : ¬ (i : Int) < 32 := by simpa [BTm.den, Tm.i, Tm.s, Tm.den, env, vInt, vBool, vStr, exI] using hlt
      obtain rfl : i = 32 := by omega
      refine ⟨rfl, ?_⟩
      simp [BTm.den, Tm.i, Tm.s, Tm.den, env, vInt, vBool, vStr, exI, SW.den, SV.den, Cell.den, densP, Piece.den, denV, denT, rowCells_mgk]
theorem append_any (m d : Nat) (hm : m < pw 32) (hd : d ≤ 255) : Gives Try.prog 24 #[.agg (mgk 32 m), .int .u8 ((d : Nat) : Int)] (.tuple #[.agg (mgk 32 ((10 * m + d) % pw 32)), .int .u32 (((10 * m + d) / pw 32 : Nat) : Int)]) := by
  have hloop := append_loop m d hd
  have hc := carD_le m d 32 hd
  have hce : carD m d 32 = (10 * m + d) / pw 32 := by unfold carD; rw [Nat.mod_eq_of_lt hm]
  have hr : mgk 32 (rowD m d 32) = mgk 32 ((10 * m + d) % pw 32) := mgk_congr fun j hj => by
    rw [rowD_limb, if_pos hj, limb_mod hj]
  rw [hce] at hloop hc
  obtain ⟨R, hR⟩ : ∃ R, R = (10 * m + d) % pw 32 := ⟨_, rfl⟩
  obtain ⟨c, hcc⟩ : ∃ c, c = (10 * m + d) / pw 32 := ⟨_, rfl⟩
  rw [hr, ← hR, ← hcc] at hloop
  rw [← hcc] at hc
  rw [← hR, ← hcc]
  have hw : IntKind.u32.wrap ((c : Nat) : Int) = ((c : Nat) : Int) := by rw [IntKind.wrap_u32]; omega
  have main : tAppendDigit.den Try.prog (fun ρ' ret => ∀ β, ret.val.den (env ρ') β = .tuple #[.agg (mgk 32 R), .int .u32 ((c : Nat) : Int)]) [.agg (mgk 32 m), .int .u8 (d : Nat)] := by
    refine tree_leaf ?_
    refine ev_fits ((d : Nat) : Int) (by simp [BTm.den, Tm.i, Tm.s, Tm.den, env, vInt, vBool, vStr, exI]) (rng_u64 _ (by omega)) ?_
    refine ev_loop [.int .i64 (32 : Nat), .int .u64 (c : Nat), .agg (mgk 32 R)] rfl rfl hloop ?_
    refine ev_nil fun β => ?_
    simp [BTm.den, Tm.i, Tm.s, Tm.den, env, vInt, vBool, vStr, exI, SW.den, SV.den, Cell.den, densP, Piece.den, denV, denT, rowCells_mgk, mgl_agg, hw]
  have h := pure_of plain [.agg (mgk 32 m), .int .u8 ((d : Nat) : Int)] tAppendDigit_ok (by kernel_rfl) _ main
  refine gives_pure ?_
  simpa [magW, BTm.den, Tm.i, Tm.s, Tm.den, env, vInt, vBool, vStr, exI, SW.den, SV.den, Cell.den, densP, Piece.den, denV, denT, rowCells_mgk, mgl_agg] using h
end Go.Proofs.Ytlccefdjhiedcaa
end
section
namespace Go.Proofs.Ytlccefdjhiedcaa
open Go.RowKit Go.Proofs.Ytlccefdjhiedcaa.Sx
set_option linter.unusedSimpArgs false
set_option linter.unusedVariables false

def dval (s : ByteArray) : Nat → Nat
  | 0 => 0
  | i + 1 => 10 * dval s i + (byteN s i - 48)
theorem dval_le (s : ByteArray) {i j : Nat} (h : i ≤ j) : dval s i ≤ dval s j := by
  induction j with
  | zero => rw [show i = 0 by omega]; exact Nat.le_refl _
  | succ j ih =>
    rcases Nat.lt_or_ge i (j + 1) with h1 | h1
    · have := ih (by omega)
      simp only [dval]; omega
    · rw [show i = j + 1 by omega]; exact Nat.le_refl _
theorem dval_end (s : ByteArray) : ∃ (j : Nat) (big : Bool), j ≤ s.size ∧ dval s j < pw 32 ∧ (big = true → j < s.size ∧ pw 32 ≤ dval s (j + 1)) ∧ (big = false → j = s.size) := by
  by_cases h : dval s s.size < pw 32
  · exact ⟨s.size, false, Nat.le_refl _, h, (fun h => by cases h), fun _ => rfl⟩
  · have : ∀ n, n ≤ s.size → pw 32 ≤ dval s n → ∃ j, j < n ∧ dval s j < pw 32 ∧ pw 32 ≤ dval s (j + 1) := by
      intro n
      induction n with
      | zero => intro _ h0; have := pw_pos 32; simp only [dval] at h0; omega
      | succ n ih =>
        intro hn h0
        by_cases h1 : dval s n < pw 32
        · exact ⟨n, by omega, h1, h0⟩
        · obtain ⟨j, h2, h3⟩ := ih (by omega) (by omega)
          exact ⟨j, by omega, h3⟩
    obtain ⟨j, h1, h2, h3⟩ := this s.size (Nat.le_refl _) (by omega)
    exact ⟨j, true, by omega, h2, fun _ => ⟨h1, h3⟩, (fun h => by cases h)⟩
end Go.Proofs.Ytlccefdjhiedcaa
end
section
namespace Go.Proofs.Ytlccefdjhiedcaa
open Go.RowKit Go.Proofs.Ytlccefdjhiedcaa.Sx
set_option linter.unusedSimpArgs false
set_option linter.unusedVariables false

def dg (n : Nat) : List UInt8 := if h : n = 0 then [] else dg (n / 10) ++ [UInt8.ofNat (48 + n % 10)]
termination_by n
decreasing_by omega
theorem dg_zero : dg 0 = [] := by rw [dg, dif_pos rfl]
theorem dg_pos {n : Nat} (h : n ≠ 0) : dg n = dg (n / 10) ++ [UInt8.ofNat (48 + n % 10)] := by rw [dg, dif_neg h]
theorem dg_length : ∀ (k n : Nat), n < 10 ^ k → (dg n).length ≤ k
  | 0, n, h => by
    have : n = 0 := by simpa using h
    subst this; rw [dg_zero]; exact Nat.le_refl _
  | k + 1, n, h => by
    by_cases h0 : n = 0
    · subst h0; rw [dg_zero]; exact Nat.zero_le _
    · rw [dg_pos h0, List.length_append]
      have := dg_length k (n / 10) (by rw [Nat.pow_succ] at h; omega)
      simp only [List.length_cons, List.length_nil]; omega
theorem pw_309 : pw 32 < 10 ^ 309 := by decide +kernel
theorem dg_309 {n : Nat} (h : n < pw 32) : (dg n).length ≤ 309 := dg_length 309 n (Nat.lt_trans h pw_309)

def bt (l : List UInt8) : ByteArray := ⟨l.toArray⟩
def bc (l : List UInt8) : List Value := l.map fun b => .int .u8 ((b.toNat : Nat) : Int)
theorem bc_fix (l : List UInt8) : (bc l).map fix = bc l := by
  unfold bc
  rw [List.map_map]
  exact List.map_congr_left fun b _ => rfl
theorem bc_all (l : List UInt8) : (Value.agg (bc l).toArray).cells.toList.map fix = bc l := bc_fix l
theorem bc_length (l : List UInt8) : (bc l).length = l.length := List.length_map ..
theorem bc_row {l : List UInt8} {n : Nat} (h : l.length = n) : rowCells (.agg (bc l).toArray) n = bc l := by
  unfold rowCells
  rw [bc_all, ← h, ← bc_length l, List.take_left]
theorem bc_bytes (l : List UInt8) : byteCells (bt l) = bc l := rfl
def txt (T : List UInt8) : List UInt8 := List.replicate (310 - T.length) 0 ++ T
theorem txt_length {T : List UInt8} (h : T.length ≤ 310) : (txt T).length = 310 := by simp [txt]; omega
theorem txt_drop {T : List UInt8} : (bc (txt T)).drop (310 - T.length) = bc T := by
  unfold txt bc
  rw [List.map_append]
  have : (List.map (fun b : UInt8 => Value.int .u8 ((b.toNat : Nat) : Int)) (List.replicate (310 - T.length) 0)).length = 310 - T.length := by simp
  exact List.drop_left' this
theorem txt_put {T : List UInt8} (h : T.length < 310) (c : UInt8) : bc (txt (c :: T)) = (bc (txt T)).take (310 - (T.length + 1)) ++ [.int .u8 ((c.toNat : Nat) : Int)] ++ (bc (txt T)).drop (310 - (T.length + 1) + 1) := by
  have e : 310 - T.length = 310 - (T.length + 1) + 1 := by omega
  have e2 : (c :: T).length = T.length + 1 := rfl
  generalize hk : 310 - (T.length + 1) = k at *
  unfold txt
  rw [e2, hk, e]
  simp only [bc, List.map_append, List.map_replicate, List.map_cons, List.append_assoc]
  rw [List.replicate_succ', List.append_assoc]
  have l1 : (List.replicate k (Value.int .u8 (((0 : UInt8).toNat : Nat) : Int))).length = k := by simp
  have t1 : ∀ X : List Value, (List.replicate k (Value.int .u8 (((0 : UInt8).toNat : Nat) : Int)) ++ X).take k = List.replicate k (Value.int .u8 (((0 : UInt8).toNat : Nat) : Int)) := fun X => List.take_left' l1
  have t2 : ∀ X : List Value, (List.replicate k (Value.int .u8 (((0 : UInt8).toNat : Nat) : Int)) ++ (Value.int .u8 (((0 : UInt8).toNat : Nat) : Int) :: X)).drop (k + 1) = X := fun X => by
    rw [List.drop_append, l1, List.drop_eq_nil_of_le (by rw [l1]; omega)]
    simp
  simp only [List.cons_append, List.nil_append, t1, t2]

theorem cnv_u8 (x : Nat) (h : x < 256) : IntKind.u8.wrap ((x : Nat) : Int) = ((x : Nat) : Int) := by
  simp [IntKind.wrap, IntKind.signed, IntKind.bits]; omega
theorem byte_of {x : Nat} (h : x < 256) : ((UInt8.ofNat x).toNat : Int) = ((x : Nat) : Int) := by
  simp; omega
set_option maxHeartbeats 2000000 in
theorem fmt_loop (s : Bool) (n : Nat) (hn : n < pw 32) :
    Ev.holds Try.prog (env [.bool s, .agg (mgk 32 n), .bool (isz n), .int .i64 (310 - (dg n).length : Nat), .agg (mgk 32 0), .agg (bc (txt (dg n))).toArray]) (.loop 8 0 xfS8_0 xfH8_0 (.exit 0) .none 3) := by
  refine loop_holds plain (m := 3) (x := .exit 0) (alt := none) [.bool s, .agg (mgk 32 n), .bool (isz n)] [.int .i64 (310 - (dg n).length : Nat), .agg (mgk 32 0), .agg (bc (txt (dg n))).toArray] tFormat0_ok tFormat0_fine
    (fun vs => ∃ (R : Nat) (T : List UInt8), R < pw 32 ∧ dg n = dg R ++ T ∧ vs = [.int .i64 (310 - T.length : Nat), .agg (mgk 32 R), .agg (bc (txt T)).toArray])
    (fun vs => (vInt (vs.getD 0 undef)).toNat) tFormat0_diff ?_ ?_
  · refine ⟨_, rfl, ⟨n, [], hn, by rw [List.append_nil], rfl⟩, ?_⟩
    have h1 : rowCells (.agg (bc (txt [])).toArray) 310 = List.replicate 310 (.int .u8 0) := by
      rw [bc_row (txt_length (by simp))]
      show List.map _ (List.replicate 310 0 ++ []) = _
      rw [List.append_nil, List.map_replicate]; rfl
    simp [tFormat0_d, BTm.den, Tm.i, Tm.s, Tm.den, env, vInt, vBool, vStr, exI, SW.den, SV.den, Cell.den, densP, Piece.den, denV, denT, rowCells_mgk, h1, -List.reduceReplicate]
  · rintro vs hl ⟨R, T, hR, hd, rfl⟩
    clear hl
    have hlen := dg_309 hn
    have hlen2 : (dg n).length = (dg R).length + T.length := by rw [hd, List.length_append]
    have g1 := isZero R hR
    refine tree_ite ?_
    refine ev_call [.bool (isz R)] rfl rfl (pure_gives g1) (fun β => by simp [BTm.den, Tm.i, Tm.s, Tm.den, env, vInt, vBool, vStr, exI, SW.den, SV.den, Cell.den, densP, Piece.den, denV, denT, rowCells_mgk, mgl_agg]) (fun β => by simp [BTm.den, Tm.i, Tm.s, Tm.den, env, vInt, vBool, vStr, exI, SW.den, SV.den, Cell.den, densP, Piece.den, denV, denT]) ?_
    by_cases h0 : R = 0
    · subst h0
      rw [dg_zero, List.nil_append] at hd
      refine ev_nil (way_true (by simp [BTm.den, Tm.i, Tm.s, Tm.den, env, vInt, vBool, vStr, exI, isz]) (tree_leaf (ev_nil ⟨rfl, ?_⟩)))
      rw [hd]
      simp [BTm.den, Tm.i, Tm.s, Tm.den, env, vInt, vBool, vStr, exI, SW.den, SV.den, Cell.den, densP, Piece.den, denV, denT, rowCells_mgk]
    · refine ev_nil (way_false (by simp [BTm.den, Tm.i, Tm.s, Tm.den, env, vInt, vBool, vStr, exI, isz, h0]) (tree_leaf ?_))
      have g2 := divideByLimb_any R 10 hR (by omega) (by omega)
      have hd0 := dg_pos h0
      have hl1 : (dg R).length = (dg (R / 10)).length + 1 := by rw [hd0]; simp
      obtain ⟨q, hq⟩ : ∃ q, q = R / 10 := ⟨_, rfl⟩
      obtain ⟨r, hr⟩ : ∃ r, r = R % 10 := ⟨_, rfl⟩
      have hr10 : r < 10 := by omega
      have hq2 : q < pw 32 := Nat.lt_of_le_of_lt (by omega) hR
      rw [← hq] at hd0 hl1 g2
      rw [← hr] at hd0 g2
      have hput := txt_put (T := T) (by omega) (UInt8.ofNat (48 + r))
      rw [byte_of (by omega)] at hput
      have hk : ((310 - T.length : Nat) : Int) - 1 = ((310 - (T.length + 1) : Nat) : Int) := by omega
      refine ev_call [.agg (mgk 32 q), .int .u32 ((r : Nat) : Int)] rfl rfl (pure_gives g2) (fun β => by simp [BTm.den, Tm.i, Tm.s, Tm.den, env, vInt, vBool, vStr, exI, SW.den, SV.den, Cell.den, densP, Piece.den, denV, denT, rowCells_mgk, mgl_agg]) (fun β => by simp [BTm.den, Tm.i, Tm.s, Tm.den, env, vInt, vBool, vStr, exI, SW.den, SV.den, Cell.den, densP, Piece.den, denV, denT, rowCells_mgk, mgl_agg]) ?_
      refine ev_fits ((310 - (T.length + 1) : Nat) : Int) (by simp [BTm.den, Tm.i, Tm.s, Tm.den, env, vInt, vBool, vStr, exI]; omega) (rng_i64 _ (by omega)) ?_
      refine ev_fits ((48 + r : Nat) : Int) (by simp [BTm.den, Tm.i, Tm.s, Tm.den, env, vInt, vBool, vStr, exI, cnv_u8 r (by omega)]) (rng_u8 _ (by omega)) ?_
      refine ev_need (by simp [BTm.den, Tm.i, Tm.s, Tm.den, env, vInt, vBool, vStr, exI]; omega) ?_
      refine ev_need (by simp [BTm.den, Tm.i, Tm.s, Tm.den, env, vInt, vBool, vStr, exI]; omega) ?_
      refine ev_put [.agg (bc (txt (UInt8.ofNat (48 + r) :: T))).toArray] rfl rfl (l := bc (txt T)) (l' := bc (txt (UInt8.ofNat (48 + r) :: T))) (m := [.int .u8 ((48 + r : Nat) : Int)]) (k := 310 - (T.length + 1)) (by simp [BTm.den, Tm.i, Tm.s, Tm.den, env, vInt, vBool, vStr, exI] <;> omega) (fun β => bc_row (txt_length (by omega))) (fun β => bc_row (txt_length (by simp <;> omega))) (fun β => by simp [BTm.den, Tm.i, Tm.s, Tm.den, env, vInt, vBool, vStr, exI, SW.den, SV.den, Cell.den, densP, Piece.den, denV, denT, cnv_u8 r (by omega)]) hput (by rw [bc_length, txt_length (by omega)]; simp <;> omega) ?_
      refine ev_nil ⟨[.int .i64 (310 - (UInt8.ofNat (48 + r) :: T).length : Nat), .agg (mgk 32 q), .agg (bc (txt (UInt8.ofNat (48 + r) :: T))).toArray], rfl, ⟨q, UInt8.ofNat (48 + r) :: T, hq2, by rw [hd, hd0]; simp, rfl⟩, by simp [vInt]; omega, ?_⟩
      have hk2 : ((310 - (UInt8.ofNat (48 + r) :: T).length : Nat) : Int) = ((310 - T.length : Nat) : Int) - 1 := by simp; omega
      rw [hk2]
      simp [BTm.den, Tm.i, Tm.s, Tm.den, env, vInt, vBool, vStr, exI, SW.den, SV.den, Cell.den, densP, Piece.den, denV, denT, rowCells_mgk]
def fmtL (s : Bool) (n : Nat) : List UInt8 := if n = 0 then [48] else if s then 45 :: dg n else dg n
set_option maxHeartbeats 2000000 in
theorem fmt_p (s : Bool) (n : Nat) (hn : n < pw 32) : Gives Try.prog 8 #[.agg (iv s n)] (.string (bt (fmtL s n))) := by
  have main : tFormat.den Try.prog (fun ρ' ret => ∀ β, ret.val.den (env ρ') β = .string (bt (fmtL s n))) [.bool s, .agg (mgk 32 n)] := by
    have g1 := isZero n hn
    have hlen := dg_309 hn
    refine tree_ite ?_
    refine ev_call [.bool (isz n)] rfl rfl (pure_gives g1) (fun β => by simp [BTm.den, Tm.i, Tm.s, Tm.den, env, vInt, vBool, vStr, exI, SW.den, SV.den, Cell.den, densP, Piece.den, denV, denT, rowCells_mgk, mgl_agg]) (fun β => by simp [BTm.den, Tm.i, Tm.s, Tm.den, env, vInt, vBool, vStr, exI, SW.den, SV.den, Cell.den, densP, Piece.den, denV, denT]) ?_
    by_cases h0 : n = 0
    · subst h0
      refine ev_nil (way_true (by simp [BTm.den, Tm.i, Tm.s, Tm.den, env, vInt, vBool, vStr, exI, isz]) (tree_leaf (ev_nil fun β => ?_)))
      simp [BTm.den, Tm.i, Tm.s, Tm.den, env, vInt, vBool, vStr, exI, SW.den, SV.den, Cell.den, densP, Piece.den, denV, denT, fmtL, bt]
    · refine ev_nil (way_false (by simp [BTm.den, Tm.i, Tm.s, Tm.den, env, vInt, vBool, vStr, exI, isz, h0]) (tree_ite ?_))
      refine ev_loop [.int .i64 (310 - (dg n).length : Nat), .agg (mgk 32 0), .agg (bc (txt (dg n))).toArray] rfl rfl (fmt_loop s n hn) ?_
      cases s with
      | true =>
        have hk : ((310 - (dg n).length : Nat) : Int) - 1 = ((310 - ((dg n).length + 1) : Nat) : Int) := by omega
        have hput := txt_put (T := dg n) (by omega) 45
        have hle : (dg n).length + 1 = (45 :: dg n : List UInt8).length := rfl
        have hd := txt_drop (T := 45 :: dg n)
        refine ev_nil (way_true (by simp [BTm.den, Tm.i, Tm.s, Tm.den, env, vInt, vBool, vStr, exI]) (tree_leaf ?_))
        refine ev_fits ((310 - ((dg n).length + 1) : Nat) : Int) (by simp [BTm.den, Tm.i, Tm.s, Tm.den, env, vInt, vBool, vStr, exI]; omega) (rng_i64 _ (by omega)) ?_
        refine ev_need (by simp [BTm.den, Tm.i, Tm.s, Tm.den, env, vInt, vBool, vStr, exI]; omega) ?_
        refine ev_need (by simp [BTm.den, Tm.i, Tm.s, Tm.den, env, vInt, vBool, vStr, exI]; omega) ?_
        refine ev_put [.agg (bc (txt (45 :: dg n))).toArray] rfl rfl (l := bc (txt (dg n))) (l' := bc (txt (45 :: dg n))) (m := [.int .u8 45]) (k := 310 - ((dg n).length + 1)) (by simp [BTm.den, Tm.i, Tm.s, Tm.den, env, vInt, vBool, vStr, exI] <;> omega) (fun β => bc_row (txt_length (by omega))) (fun β => bc_row (txt_length (by simp <;> omega))) (fun β => by simp [BTm.den, Tm.i, Tm.s, Tm.den, env, vInt, vBool, vStr, exI, SW.den, SV.den, Cell.den, densP, Piece.den, denV, denT]) hput (by rw [bc_length, txt_length (by omega)]; simp <;> omega) ?_
        refine ev_need (by simp [BTm.den, Tm.i, Tm.s, Tm.den, env, vInt, vBool, vStr, exI]; omega) ?_
        refine ev_need (by simp [BTm.den, Tm.i, Tm.s, Tm.den, env, vInt, vBool, vStr, exI]; omega) ?_
        refine ev_need (by simp [BTm.den, Tm.i, Tm.s, Tm.den, env, vInt, vBool, vStr, exI]) ?_
        refine ev_join [] rfl rfl (fun β => by simp [densP, denJ]) (fun β x hx => ?_) ?_
        · cases List.mem_singleton.1 hx
          exact ⟨310, by simp [BTm.den, Tm.i, Tm.s, Tm.den, env, vInt, vBool, vStr, exI], by simp [densP, Piece.den, rowCells_length]⟩
        refine ev_need (by simp [BTm.den, Tm.i, Tm.s, Tm.den, env, vInt, vBool, vStr, exI]; omega) ?_
        refine ev_need (by simp [BTm.den, Tm.i, Tm.s, Tm.den, env, vInt, vBool, vStr, exI]; omega) ?_
        refine ev_need (by simp [BTm.den, Tm.i, Tm.s, Tm.den, env, vInt, vBool, vStr, exI] <;> omega) ?_
        refine ev_elem [.agg (bc (45 :: dg n)).toArray] rfl rfl (l := bc (txt (45 :: dg n))) (m := bc (45 :: dg n)) (k := 310 - ((dg n).length + 1)) (by simp [BTm.den, Tm.i, Tm.s, Tm.den, env, vInt, vBool, vStr, exI] <;> omega) (fun β => bc_row (txt_length (by simp <;> omega))) (fun β => by simp only [densP, List.append_nil]; exact bc_all _) (by rw [hle, hd]; exact List.take_length) ?_
        refine ev_join [.string (bt (45 :: dg n))] rfl rfl (fun β => ?_) (fun β x hx => ?_) ?_
        · show byteCells (bt (45 :: dg n)) ++ [] = (((Value.agg (bc (45 :: dg n)).toArray).cells.toList.map fix) ++ []) ++ []
          rw [bc_all, List.append_nil, List.append_nil, List.append_nil, bc_bytes]
        · cases List.mem_singleton.1 hx
          refine ⟨(dg n).length + 1, by simp [BTm.den, Tm.i, Tm.s, Tm.den, env, vInt, vBool, vStr, exI]; omega, ?_⟩
          show (((Value.agg (bc (45 :: dg n)).toArray).cells.toList.map fix) ++ []).length = _
          rw [bc_all, List.append_nil, bc_length]; simp
        refine ev_nil fun β => ?_
        simp [BTm.den, Tm.i, Tm.s, Tm.den, env, vInt, vBool, vStr, exI, SW.den, SV.den, Cell.den, densP, Piece.den, denV, denT, fmtL, h0]
      | false =>
        have hd := txt_drop (T := dg n)
        refine ev_nil (way_false (by simp [BTm.den, Tm.i, Tm.s, Tm.den, env, vInt, vBool, vStr, exI]) (tree_leaf ?_))
        refine ev_need (by simp [BTm.den, Tm.i, Tm.s, Tm.den, env, vInt, vBool, vStr, exI] <;> omega) ?_
        refine ev_need (by simp [BTm.den, Tm.i, Tm.s, Tm.den, env, vInt, vBool, vStr, exI] <;> omega) ?_
        refine ev_need (by simp [BTm.den, Tm.i, Tm.s, Tm.den, env, vInt, vBool, vStr, exI]) ?_
        refine ev_join [] rfl rfl (fun β => by simp [densP, denJ]) (fun β x hx => ?_) ?_
        · cases List.mem_singleton.1 hx
          exact ⟨310, by simp [BTm.den, Tm.i, Tm.s, Tm.den, env, vInt, vBool, vStr, exI], by simp [densP, Piece.den, rowCells_length]⟩
        refine ev_need (by simp [BTm.den, Tm.i, Tm.s, Tm.den, env, vInt, vBool, vStr, exI] <;> omega) ?_
        refine ev_need (by simp [BTm.den, Tm.i, Tm.s, Tm.den, env, vInt, vBool, vStr, exI] <;> omega) ?_
        refine ev_need (by simp [BTm.den, Tm.i, Tm.s, Tm.den, env, vInt, vBool, vStr, exI] <;> omega) ?_
        refine ev_elem [.agg (bc (dg n)).toArray] rfl rfl (l := bc (txt (dg n))) (m := bc (dg n)) (k := 310 - (dg n).length) (by simp [BTm.den, Tm.i, Tm.s, Tm.den, env, vInt, vBool, vStr, exI] <;> omega) (fun β => bc_row (txt_length (by omega))) (fun β => by simp only [densP, List.append_nil]; exact bc_all _) (by rw [hd]; exact List.take_length) ?_
        refine ev_join [.string (bt (dg n))] rfl rfl (fun β => ?_) (fun β x hx => ?_) ?_
        · show byteCells (bt (dg n)) ++ [] = (((Value.agg (bc (dg n)).toArray).cells.toList.map fix) ++ []) ++ []
          rw [bc_all, List.append_nil, List.append_nil, List.append_nil, bc_bytes]
        · cases List.mem_singleton.1 hx
          refine ⟨(dg n).length, by simp [BTm.den, Tm.i, Tm.s, Tm.den, env, vInt, vBool, vStr, exI] <;> omega, ?_⟩
          show (((Value.agg (bc (dg n)).toArray).cells.toList.map fix) ++ []).length = _
          rw [bc_all, List.append_nil, bc_length]; simp
        refine ev_nil fun β => ?_
        simp [BTm.den, Tm.i, Tm.s, Tm.den, env, vInt, vBool, vStr, exI, SW.den, SV.den, Cell.den, densP, Piece.den, denV, denT, fmtL, h0]
  have h := pure_of plain [.bool s, .agg (mgk 32 n)] tFormat_ok (by kernel_rfl) _ main
  refine gives_pure ?_
  simpa [intF, BTm.den, Tm.i, Tm.s, Tm.den, env, vInt, vBool, vStr, exI, SW.den, SV.den, Cell.den, densP, Piece.den, denV, denT, rowCells_mgk, iv_list] using h
end Go.Proofs.Ytlccefdjhiedcaa
end
section
namespace Go.Proofs.Ytlccefdjhiedcaa
open Go.RowKit Go.Proofs.Ytlccefdjhiedcaa.Sx
set_option linter.unusedSimpArgs false
set_option linter.unusedVariables false

theorem mgl_none (k : Nat) : mgl k 0 = List.replicate k (.int .u32 0) := by
  refine List.ext_getElem (by simp [mgl_length]) fun i h1 h2 => ?_
  have h3 : i < k := by simpa using h2
  have := mgl_get (n := 0) h3
  rw [List.getElem?_eq_getElem h1] at this
  rw [Option.some.inj this, limb_zero]
  simp
set_option maxHeartbeats 2000000 in
theorem parse_loop (s D : ByteArray) (hD : D = s) (c : Bool) (hl : D.size ≤ 309) (hdig : ∀ i, i < D.size → digB D i) (j : Nat) (big : Bool) (h1 : j ≤ D.size) (h2 : dval D j < pw 32) (h3 : big = true → j < D.size ∧ pw 32 ≤ dval D (j + 1)) (h4 : big = false → j = D.size) (e : Int) (V : Nat) (h5 : big = true → e = 10 ∧ V = dval D (j + 1) % pw 32) (h6 : big = false → e = 0 ∧ V = dval D j) :
    Ev.holds Try.prog (env [.string s, .bool c, .int .i64 (j : Nat), .int .i64 e, .agg (mgk 32 V), .bool false, .agg (mgk 32 0), .bool big]) (.loop 6 0 xtS6_0 xtH6_0 (.exit 0) (some (7, .ret)) 6) := by
  refine loop_holds plain (m := 6) (x := .exit 0) (alt := some (7, .ret)) [.string s, .bool c] [.int .i64 (j : Nat), .int .i64 e, .agg (mgk 32 V), .bool false, .agg (mgk 32 0), .bool big] tParse0_ok tParse0_fine
    (fun vs => ∃ i : Nat, i ≤ j ∧ vs = [.int .i64 (i : Nat), .int .i64 0, .agg (mgk 32 (dval D i)), .bool false, .agg (mgk 32 0), .bool big])
    (fun vs => 400 - (vInt (vs.getD 0 undef)).toNat) tParse0_diff ?_ ?_
  · refine ⟨_, rfl, ⟨0, Nat.zero_le _, rfl⟩, ?_⟩
    simp [tParse0_d, BTm.den, Tm.i, Tm.s, Tm.den, env, vInt, vBool, vStr, exI, SW.den, SV.den, Cell.den, densP, Piece.den, denV, denT, rowCells_mgk, dval, mgl_none, -List.reduceReplicate]
  · rintro vs hlv ⟨i, hi, rfl⟩
    clear hlv
    have hb := byteI_N D i
    have hvi : dval D i < pw 32 := Nat.lt_of_le_of_lt (dval_le D hi) h2
    refine tree_ite (ev_nil ⟨fun hlt => tree_ite ?_, fun hlt => tree_leaf (ev_nil ?_)⟩)
    · have hlt : i < D.size := by simpa [BTm.den, Tm.i, Tm.s, Tm.den, env, vInt, vBool, vStr, exI, ← hD] using hlt
      have hd := hdig i hlt
      have hd1 := hd.1
      have hd2 := hd.2
      have hstep : 10 * dval D i + (byteN D i - 48) = dval D (i + 1) := rfl
      have g := append_any (dval D i) (byteN D i - 48) hvi (by omega)
      rw [hstep] at g
      have hw : IntKind.u8.wrap (((byteN D i : Nat) : Int) - 48) = ((byteN D i - 48 : Nat) : Int) := by
        rw [show ((byteN D i : Nat) : Int) - 48 = ((byteN D i - 48 : Nat) : Int) by omega]
        exact cnv_u8 _ (by omega)
      obtain ⟨X, hX⟩ : ∃ X, X = dval D (i + 1) := ⟨_, rfl⟩
      obtain ⟨Q, hQ⟩ : ∃ Q, Q = X % pw 32 := ⟨_, rfl⟩
      obtain ⟨C, hC⟩ : ∃ C, C = X / pw 32 := ⟨_, rfl⟩
      rw [← hX, ← hQ, ← hC] at g
      refine ev_need (by simp [BTm.den, Tm.i, Tm.s, Tm.den, env, vInt, vBool, vStr, exI]) ?_
      refine ev_need (by simp [BTm.den, Tm.i, Tm.s, Tm.den, env, vInt, vBool, vStr, exI, ← hD, hlt]) ?_
      refine ev_call [.agg (mgk 32 Q), .int .u32 ((C : Nat) : Int)] rfl rfl (pure_gives g) (fun β => by simp [BTm.den, Tm.i, Tm.s, Tm.den, env, vInt, vBool, vStr, exI, SW.den, SV.den, Cell.den, densP, Piece.den, denV, denT, rowCells_mgk, mgl_agg, ← hD, hb, hw, ariI]) (fun β => by simp [BTm.den, Tm.i, Tm.s, Tm.den, env, vInt, vBool, vStr, exI, SW.den, SV.den, Cell.den, densP, Piece.den, denV, denT, rowCells_mgk, mgl_agg]) ?_
      refine ev_nil ⟨fun h0 => tree_leaf ?_, fun h0 => tree_leaf (ev_nil ?_)⟩
      · have h0 : C = 0 := by simpa [BTm.den, Tm.i, Tm.s, Tm.den, env, vInt, vBool, vStr, exI] using h0
        have hp := pw_pos 32
        have hXlt : X < pw 32 := by
          rcases Nat.lt_or_ge X (pw 32) with h | h
          · exact h
          · have := (Nat.div_pos h hp); omega
        have hij : i + 1 ≤ j := by
          rcases Nat.lt_or_ge i j with h8 | h8
          · omega
          · have h9 : i = j := by omega
            subst h9
            cases hbig : big with
            | true => have := (h3 hbig).2; omega
            | false => have := h4 hbig; omega
        have hQX : Q = dval D (i + 1) := by rw [hQ, Nat.mod_eq_of_lt hXlt, hX]
        refine ev_fits ((i + 1 : Nat) : Int) (by simp [BTm.den, Tm.i, Tm.s, Tm.den, env, vInt, vBool, vStr, exI]) (rng_i64 _ (by omega)) ?_
        refine ev_nil ⟨[.int .i64 (i + 1 : Nat), .int .i64 0, .agg (mgk 32 (dval D (i + 1))), .bool false, .agg (mgk 32 0), .bool big], rfl, ⟨i + 1, hij, rfl⟩, by simp [vInt]; omega, ?_⟩
        rw [← hQX]
        simp [BTm.den, Tm.i, Tm.s, Tm.den, env, vInt, vBool, vStr, exI, SW.den, SV.den, Cell.den, densP, Piece.den, denV, denT, rowCells_mgk]
      · have h0 : ¬ C = 0 := by simpa [BTm.den, Tm.i, Tm.s, Tm.den, env, vInt, vBool, vStr, exI] using h0
        have hXge : pw 32 ≤ X := by
          rcases Nat.lt_or_ge X (pw 32) with h | h
          · exact absurd (hC.trans (Nat.div_eq_of_lt h)) h0
          · exact h
        have hij : i = j := by
          rcases Nat.lt_or_ge i j with h8 | h8
          · have := dval_le D (show i + 1 ≤ j by omega); omega
          · omega
        subst hij
        have hbig : big = true := by
          cases hbig : big with
          | true => rfl
          | false => have := h4 hbig; omega
        subst hbig
        obtain ⟨rfl, hV⟩ := h5 rfl
        rw [← hX, ← hQ] at hV
        subst hV
        refine ⟨rfl, ?_⟩
        simp [BTm.den, Tm.i, Tm.s, Tm.den, env, vInt, vBool, vStr, exI, SW.den, SV.den, Cell.den, densP, Piece.den, denV, denT, rowCells_mgk, mgl_none, -List.reduceReplicate]
    · have hlt : ¬ i < D.size := by simpa [BTm.den, Tm.i, Tm.s, Tm.den, env, vInt, vBool, vStr, exI, ← hD] using hlt
      have hij : i = j := by omega
      subst hij
      have hbig : big = false := by
        cases hbig : big with
        | true => have := (h3 hbig).1; omega
        | false => rfl
      subst hbig
      obtain ⟨rfl, rfl⟩ := h6 rfl
      refine ⟨rfl, ?_⟩
      simp [BTm.den, Tm.i, Tm.s, Tm.den, env, vInt, vBool, vStr, exI, SW.den, SV.den, Cell.den, densP, Piece.den, denV, denT, rowCells_mgk]
set_option maxHeartbeats 2000000 in
theorem parse_loopb (s D : ByteArray) (hD : D = s.extract 1 s.size) (c : Bool) (hl : D.size ≤ 309) (hdig : ∀ i, i < D.size → digB D i) (j : Nat) (big : Bool) (h1 : j ≤ D.size) (h2 : dval D j < pw 32) (h3 : big = true → j < D.size ∧ pw 32 ≤ dval D (j + 1)) (h4 : big = false → j = D.size) (e : Int) (V : Nat) (h5 : big = true → e = 10 ∧ V = dval D (j + 1) % pw 32) (h6 : big = false → e = 0 ∧ V = dval D j) :
    Ev.holds Try.prog (env [.string s, .bool c, .int .i64 (j : Nat), .int .i64 e, .agg (mgk 32 V), .bool false, .agg (mgk 32 0), .bool big]) (.loop 6 0 xtS6_0b xtH6_0b (.exit 0) (some (7, .ret)) 6) := by
  refine loop_holds plain (m := 6) (x := .exit 0) (alt := some (7, .ret)) [.string s, .bool c] [.int .i64 (j : Nat), .int .i64 e, .agg (mgk 32 V), .bool false, .agg (mgk 32 0), .bool big] tParse0b_ok tParse0b_fine
    (fun vs => ∃ i : Nat, i ≤ j ∧ vs = [.int .i64 (i : Nat), .int .i64 0, .agg (mgk 32 (dval D i)), .bool false, .agg (mgk 32 0), .bool big])
    (fun vs => 400 - (vInt (vs.getD 0 undef)).toNat) tParse0b_diff ?_ ?_
  · refine ⟨_, rfl, ⟨0, Nat.zero_le _, rfl⟩, ?_⟩
    simp [tParse0b_d, BTm.den, Tm.i, Tm.s, Tm.den, env, vInt, vBool, vStr, exI, SW.den, SV.den, Cell.den, densP, Piece.den, denV, denT, rowCells_mgk, dval, mgl_none, -List.reduceReplicate]
  · rintro vs hlv ⟨i, hi, rfl⟩
    clear hlv
    have hb := byteI_N D i
    have hvi : dval D i < pw 32 := Nat.lt_of_le_of_lt (dval_le D hi) h2
    refine tree_ite (ev_nil ⟨fun hlt => tree_ite ?_, fun hlt => tree_leaf (ev_nil ?_)⟩)
    · have hlt : i < D.size := by simpa [BTm.den, Tm.i, Tm.s, Tm.den, env, vInt, vBool, vStr, exI, ← hD] using hlt
      have hd := hdig i hlt
      have hd1 := hd.1
      have hd2 := hd.2
      have hstep : 10 * dval D i + (byteN D i - 48) = dval D (i + 1) := rfl
      have g := append_any (dval D i) (byteN D i - 48) hvi (by omega)
      rw [hstep] at g
      have hw : IntKind.u8.wrap (((byteN D i : Nat) : Int) - 48) = ((byteN D i - 48 : Nat) : Int) := by
        rw [show ((byteN D i : Nat) : Int) - 48 = ((byteN D i - 48 : Nat) : Int) by omega]
        exact cnv_u8 _ (by omega)
      obtain ⟨X, hX⟩ : ∃ X, X = dval D (i + 1) := ⟨_, rfl⟩
      obtain ⟨Q, hQ⟩ : ∃ Q, Q = X % pw 32 := ⟨_, rfl⟩
      obtain ⟨C, hC⟩ : ∃ C, C = X / pw 32 := ⟨_, rfl⟩
      rw [← hX, ← hQ, ← hC] at g
      refine ev_need (by simp [BTm.den, Tm.i, Tm.s, Tm.den, env, vInt, vBool, vStr, exI]) ?_
      refine ev_need (by simp [BTm.den, Tm.i, Tm.s, Tm.den, env, vInt, vBool, vStr, exI, ← hD, hlt]) ?_
      refine ev_call [.agg (mgk 32 Q), .int .u32 ((C : Nat) : Int)] rfl rfl (pure_gives g) (fun β => by simp [BTm.den, Tm.i, Tm.s, Tm.den, env, vInt, vBool, vStr, exI, SW.den, SV.den, Cell.den, densP, Piece.den, denV, denT, rowCells_mgk, mgl_agg, ← hD, hb, hw, ariI]) (fun β => by simp [BTm.den, Tm.i, Tm.s, Tm.den, env, vInt, vBool, vStr, exI, SW.den, SV.den, Cell.den, densP, Piece.den, denV, denT, rowCells_mgk, mgl_agg]) ?_
      refine ev_nil ⟨fun h0 => tree_leaf ?_, fun h0 => tree_leaf (ev_nil ?_)⟩
      · have h0 : C = 0 := by simpa [BTm.den, Tm.i, Tm.s, Tm.den, env, vInt, vBool, vStr, exI] using h0
        have hp := pw_pos 32
        have hXlt : X < pw 32 := by
          rcases Nat.lt_or_ge X (pw 32) with h | h
          · exact h
          · have := (Nat.div_pos h hp); omega
        have hij : i + 1 ≤ j := by
          rcases Nat.lt_or_ge i j with h8 | h8
          · omega
          · have h9 : i = j := by omega
            subst h9
            cases hbig : big with
            | true => have := (h3 hbig).2; omega
            | false => have := h4 hbig; omega
        have hQX : Q = dval D (i + 1) := by rw [hQ, Nat.mod_eq_of_lt hXlt, hX]
        refine ev_fits ((i + 1 : Nat) : Int) (by simp [BTm.den, Tm.i, Tm.s, Tm.den, env, vInt, vBool, vStr, exI]) (rng_i64 _ (by omega)) ?_
        refine ev_nil ⟨[.int .i64 (i + 1 : Nat), .int .i64 0, .agg (mgk 32 (dval D (i + 1))), .bool false, .agg (mgk 32 0), .bool big], rfl, ⟨i + 1, hij, rfl⟩, by simp [vInt]; omega, ?_⟩
        rw [← hQX]
        simp [BTm.den, Tm.i, Tm.s, Tm.den, env, vInt, vBool, vStr, exI, SW.den, SV.den, Cell.den, densP, Piece.den, denV, denT, rowCells_mgk]
      · have h0 : ¬ C = 0 := by simpa [BTm.den, Tm.i, Tm.s, Tm.den, env, vInt, vBool, vStr, exI] using h0
        have hXge : pw 32 ≤ X := by
          rcases Nat.lt_or_ge X (pw 32) with h | h
          · exact absurd (hC.trans (Nat.div_eq_of_lt h)) h0
          · exact h
        have hij : i = j := by
          rcases Nat.lt_or_ge i j with h8 | h8
          · have := dval_le D (show i + 1 ≤ j by omega); omega
          · omega
        subst hij
        have hbig : big = true := by
          cases hbig : big with
          | true => rfl
          | false => have := h4 hbig; omega
        subst hbig
        obtain ⟨rfl, hV⟩ := h5 rfl
        rw [← hX, ← hQ] at hV
        subst hV
        refine ⟨rfl, ?_⟩
        simp [BTm.den, Tm.i, Tm.s, Tm.den, env, vInt, vBool, vStr, exI, SW.den, SV.den, Cell.den, densP, Piece.den, denV, denT, rowCells_mgk, mgl_none, -List.reduceReplicate]
    · have hlt : ¬ i < D.size := by simpa [BTm.den, Tm.i, Tm.s, Tm.den, env, vInt, vBool, vStr, exI, ← hD] using hlt
      have hij : i = j := by omega
      subst hij
      have hbig : big = false := by
        cases hbig : big with
        | true => have := (h3 hbig).1; omega
        | false => rfl
      subst hbig
      obtain ⟨rfl, rfl⟩ := h6 rfl
      refine ⟨rfl, ?_⟩
      simp [BTm.den, Tm.i, Tm.s, Tm.den, env, vInt, vBool, vStr, exI, SW.den, SV.den, Cell.den, densP, Piece.den, denV, denT, rowCells_mgk]
end Go.Proofs.Ytlccefdjhiedcaa
end
section
namespace Go.Proofs.Ytlccefdjhiedcaa
open Go.RowKit Go.Proofs.Ytlccefdjhiedcaa.Sx
set_option linter.unusedSimpArgs false
set_option linter.unusedVariables false

def negB (s : ByteArray) : Bool := cond (decide (s.size < 1)) false ((s.extract 0 1).toList == (ByteArray.mk #[45]).toList)
def digs (s : ByteArray) : ByteArray := cond (negB s) (s.extract 1 s.size) s
def zeroB (D : ByteArray) : Bool := D.toList == (ByteArray.mk #[48]).toList
def numV (neg : Bool) (D : ByteArray) (ok : Bool) : Value :=
  cond ok (if dval D D.size < pw 32 then .tuple #[.agg (ivZ (vz neg (dval D D.size))), .int .i64 0] else .tuple #[.agg (iv false 0), .int .i64 10]) (.tuple #[.agg (iv false 0), .int .i64 12])
theorem iv_none : (Value.bool false :: List.replicate 32 (Value.int .u32 0)).toArray = iv false 0 := by rw [← mgl_zero, iv_list]
theorem loop_end (neg : Bool) (D : ByteArray) : ∃ (j : Nat) (big : Bool) (e : Int) (V : Nat), j ≤ D.size ∧ dval D j < pw 32 ∧ (big = true → j < D.size ∧ pw 32 ≤ dval D (j + 1)) ∧ (big = false → j = D.size) ∧ (big = true → e = 10 ∧ V = dval D (j + 1) % pw 32) ∧ (big = false → e = 0 ∧ V = dval D j) ∧
    (big = true → e = 10 ∧ numV neg D true = .tuple #[.agg (iv false 0), .int .i64 10]) ∧ (big = false → V < pw 32 ∧ numV neg D true = .tuple #[.agg (ivZ (vz neg V)), .int .i64 0]) := by
  obtain ⟨j, big, h1, h2, h3, h4⟩ := dval_end D
  cases big with
  | true =>
    obtain ⟨h5, h6⟩ := h3 rfl
    have h7 : ¬ dval D D.size < pw 32 := by have := dval_le D (show j + 1 ≤ D.size by omega); omega
    exact ⟨j, true, 10, _, h1, h2, h3, h4, fun _ => ⟨rfl, rfl⟩, (fun h => by cases h), fun _ => ⟨rfl, by unfold numV; rw [if_neg h7]; rfl⟩, (fun h => by cases h)⟩
  | false =>
    have h5 := h4 rfl
    subst h5
    exact ⟨_, false, 0, _, h1, h2, h3, h4, (fun h => by cases h), fun _ => ⟨rfl, rfl⟩, (fun h => by cases h), fun _ => ⟨h2, by unfold numV; rw [if_pos h2]; rfl⟩⟩
set_option maxHeartbeats 4000000 in
theorem parse_p (s : ByteArray) : ∃ ok : Bool, (ok = true ↔ NumOk (digs s) ∧ ¬ (negB s = true ∧ zeroB (digs s) = true)) ∧ Gives Try.prog 6 #[.string s] (numV (negB s) (digs s) ok) := by
  have fin : ∀ v : Value, (tParse.den Try.prog (fun ρ' ret => ∀ β, ret.val.den (env ρ') β = v) [.string s]) → Gives Try.prog 6 #[.string s] v := fun v main => by
    have h := pure_of plain [.string s] tParse_ok (by kernel_rfl) _ main
    refine gives_pure ?_
    simpa [strW, BTm.den, Tm.i, Tm.s, Tm.den, env, vInt, vBool, vStr, exI, SW.den, SV.den, Cell.den, densP, Piece.den, denV, denT] using h
  obtain ⟨b, hb, g1⟩ := isnum_any (digs s)
  by_cases e1 : s.size < 1
  · have hn : negB s = false := by unfold negB; rw [decide_eq_true e1]; rfl
    have hD : digs s = s := by unfold digs; rw [hn]; rfl
    rw [hD] at hb g1 ⊢
    have b0 : b = false := by
      cases b with
      | true => exact absurd (hb.1 rfl).1 (by omega)
      | false => rfl
    subst b0
    refine ⟨false, ⟨fun h => (by cases h), fun h => absurd (hb.2 h.1) (by simp)⟩, fin _ ?_⟩
    refine tree_ite (ev_nil (way_true (by simp [BTm.den, Tm.i, Tm.s, Tm.den, env, vInt, vBool, vStr, exI]; omega) (tree_ite ?_)))
    refine ev_call [.bool false] rfl rfl (pure_gives g1) (fun β => by simp [BTm.den, Tm.i, Tm.s, Tm.den, env, vInt, vBool, vStr, exI, SW.den, SV.den, Cell.den, densP, Piece.den, denV, denT]) (fun β => by simp [BTm.den, Tm.i, Tm.s, Tm.den, env, vInt, vBool, vStr, exI, SW.den, SV.den, Cell.den, densP, Piece.den, denV, denT]) ?_
    refine ev_nil (way_false (by simp [BTm.den, Tm.i, Tm.s, Tm.den, env, vInt, vBool, vStr, exI]) (tree_leaf (ev_nil fun β => ?_)))
    simp [BTm.den, Tm.i, Tm.s, Tm.den, env, vInt, vBool, vStr, exI, SW.den, SV.den, Cell.den, densP, Piece.den, denV, denT, numV, iv_none, -List.reduceReplicate]
  have hsz : 1 ≤ s.size := by omega
  cases hn : negB s with
  | true =>
    have hc : ((s.extract 0 1).toList == (ByteArray.mk #[45]).toList) = true := by
      unfold negB at hn; rw [decide_eq_false e1] at hn; exact hn
    have hD : digs s = s.extract 1 s.size := by unfold digs; rw [hn]; rfl
    obtain ⟨D, hDD⟩ : ∃ D, D = digs s := ⟨_, rfl⟩
    rw [← hDD] at hb g1 hD ⊢
    cases hz : zeroB D with
    | true =>
      refine ⟨false, ⟨fun h => (by cases h), fun h => absurd ⟨rfl, rfl⟩ h.2⟩, fin _ ?_⟩
      refine tree_ite (ev_nil (way_false (by simp [BTm.den, Tm.i, Tm.s, Tm.den, env, vInt, vBool, vStr, exI]; omega) (tree_ite ?_)))
      refine ev_need (by simp [BTm.den, Tm.i, Tm.s, Tm.den, env, vInt, vBool, vStr, exI]) ?_
      refine ev_need (by simp [BTm.den, Tm.i, Tm.s, Tm.den, env, vInt, vBool, vStr, exI]; omega) ?_
      refine ev_nil (way_true (by simpa [BTm.den, Tm.i, Tm.s, Tm.den, env, vInt, vBool, vStr, exI] using hc) (tree_ite ?_))
      refine ev_need (by simp [BTm.den, Tm.i, Tm.s, Tm.den, env, vInt, vBool, vStr, exI]) ?_
      refine ev_need (by simp [BTm.den, Tm.i, Tm.s, Tm.den, env, vInt, vBool, vStr, exI]; omega) ?_
      refine ev_call [.bool b] rfl rfl (pure_gives g1) (fun β => by simp [BTm.den, Tm.i, Tm.s, Tm.den, env, vInt, vBool, vStr, exI, SW.den, SV.den, Cell.den, densP, Piece.den, denV, denT, ← hD]) (fun β => by simp [BTm.den, Tm.i, Tm.s, Tm.den, env, vInt, vBool, vStr, exI, SW.den, SV.den, Cell.den, densP, Piece.den, denV, denT]) ?_
      cases b with
      | true =>
        refine ev_nil (way_true (by simp [BTm.den, Tm.i, Tm.s, Tm.den, env, vInt, vBool, vStr, exI]) (tree_ite (ev_nil (way_true ?_ (tree_leaf (ev_nil fun β => ?_))))))
        · have hz2 : (D.toList == (ByteArray.mk #[48]).toList) = true := hz
          simpa [BTm.den, Tm.i, Tm.s, Tm.den, env, vInt, vBool, vStr, exI, ← hD] using hz2
        · simp [BTm.den, Tm.i, Tm.s, Tm.den, env, vInt, vBool, vStr, exI, SW.den, SV.den, Cell.den, densP, Piece.den, denV, denT, numV, iv_none, -List.reduceReplicate]
      | false =>
        refine ev_nil (way_false (by simp [BTm.den, Tm.i, Tm.s, Tm.den, env, vInt, vBool, vStr, exI]) (tree_leaf (ev_nil fun β => ?_)))
        simp [BTm.den, Tm.i, Tm.s, Tm.den, env, vInt, vBool, vStr, exI, SW.den, SV.den, Cell.den, densP, Piece.den, denV, denT, numV, iv_none, -List.reduceReplicate]
    | false =>
      refine ⟨b, ⟨fun h => ⟨hb.1 h, fun h => absurd h.2 (by simp)⟩, fun h => hb.2 h.1⟩, fin _ ?_⟩
      refine tree_ite (ev_nil (way_false (by simp [BTm.den, Tm.i, Tm.s, Tm.den, env, vInt, vBool, vStr, exI]; omega) (tree_ite ?_)))
      refine ev_need (by simp [BTm.den, Tm.i, Tm.s, Tm.den, env, vInt, vBool, vStr, exI]) ?_
      refine ev_need (by simp [BTm.den, Tm.i, Tm.s, Tm.den, env, vInt, vBool, vStr, exI]; omega) ?_
      refine ev_nil (way_true (by simpa [BTm.den, Tm.i, Tm.s, Tm.den, env, vInt, vBool, vStr, exI] using hc) (tree_ite ?_))
      refine ev_need (by simp [BTm.den, Tm.i, Tm.s, Tm.den, env, vInt, vBool, vStr, exI]) ?_
      refine ev_need (by simp [BTm.den, Tm.i, Tm.s, Tm.den, env, vInt, vBool, vStr, exI]; omega) ?_
      refine ev_call [.bool b] rfl rfl (pure_gives g1) (fun β => by simp [BTm.den, Tm.i, Tm.s, Tm.den, env, vInt, vBool, vStr, exI, SW.den, SV.den, Cell.den, densP, Piece.den, denV, denT, ← hD]) (fun β => by simp [BTm.den, Tm.i, Tm.s, Tm.den, env, vInt, vBool, vStr, exI, SW.den, SV.den, Cell.den, densP, Piece.den, denV, denT]) ?_
      cases b with
      | true =>
        obtain ⟨n1, n2, n3, n4⟩ := hb.1 rfl
        obtain ⟨j, big, e, V, h1, h2, h3, h4, h5, h6, h7, h8⟩ := loop_end true D
        refine ev_nil (way_true (by simp [BTm.den, Tm.i, Tm.s, Tm.den, env, vInt, vBool, vStr, exI]) (tree_ite (ev_nil (way_false ?_ (tree_ite ?_)))))
        · have hz2 : (D.toList == (ByteArray.mk #[48]).toList) = false := hz
          simpa [BTm.den, Tm.i, Tm.s, Tm.den, env, vInt, vBool, vStr, exI, ← hD] using hz2
        refine ev_loop [.int .i64 (j : Nat), .int .i64 e, .agg (mgk 32 V), .bool false, .agg (mgk 32 0), .bool big] rfl rfl (parse_loopb s D hD true n2 n4 j big h1 h2 h3 h4 e V h5 h6) ?_
        cases big with
        | true =>
          obtain ⟨rfl, hv⟩ := h7 rfl
          rw [hv]
          refine ev_nil (way_true (by simp [BTm.den, Tm.i, Tm.s, Tm.den, env, vInt, vBool, vStr, exI]) (tree_leaf (ev_nil fun β => ?_)))
          simp [BTm.den, Tm.i, Tm.s, Tm.den, env, vInt, vBool, vStr, exI, SW.den, SV.den, Cell.den, densP, Piece.den, denV, denT, rowCells_mgk, iv_list]
        | false =>
          obtain ⟨hV, hv⟩ := h8 rfl
          rw [hv]
          have g2 := signed_any true V hV
          refine ev_nil (way_false (by simp [BTm.den, Tm.i, Tm.s, Tm.den, env, vInt, vBool, vStr, exI]) (tree_leaf ?_))
          obtain ⟨z, hzz⟩ : ∃ z, z = vz true V := ⟨_, rfl⟩
          rw [← hzz] at g2 ⊢
          refine ev_call [.bool (decide (z < 0)), .agg (mgk 32 z.natAbs)] rfl rfl (pure_gives g2) (fun β => by simp [BTm.den, Tm.i, Tm.s, Tm.den, env, vInt, vBool, vStr, exI, SW.den, SV.den, Cell.den, densP, Piece.den, denV, denT, rowCells_mgk, mgl_agg]) (fun β => by simp [BTm.den, Tm.i, Tm.s, Tm.den, env, vInt, vBool, vStr, exI, SW.den, SV.den, Cell.den, densP, Piece.den, denV, denT, rowCells_mgk, iv_list, ivZ]) ?_
          refine ev_nil fun β => ?_
          simp [BTm.den, Tm.i, Tm.s, Tm.den, env, vInt, vBool, vStr, exI, SW.den, SV.den, Cell.den, densP, Piece.den, denV, denT, rowCells_mgk, iv_list, ivZ]
      | false =>
        refine ev_nil (way_false (by simp [BTm.den, Tm.i, Tm.s, Tm.den, env, vInt, vBool, vStr, exI]) (tree_leaf (ev_nil fun β => ?_)))
        simp [BTm.den, Tm.i, Tm.s, Tm.den, env, vInt, vBool, vStr, exI, SW.den, SV.den, Cell.den, densP, Piece.den, denV, denT, numV, iv_none, -List.reduceReplicate]
  | false =>
    have hc : ((s.extract 0 1).toList == (ByteArray.mk #[45]).toList) = false := by
      unfold negB at hn; rw [decide_eq_false e1] at hn; exact hn
    have hD : digs s = s := by unfold digs; rw [hn]; rfl
    rw [hD] at hb g1 ⊢
    refine ⟨b, ⟨fun h => ⟨hb.1 h, fun h => absurd h.1 (by simp)⟩, fun h => hb.2 h.1⟩, fin _ ?_⟩
    refine tree_ite (ev_nil (way_false (by simp [BTm.den, Tm.i, Tm.s, Tm.den, env, vInt, vBool, vStr, exI]; omega) (tree_ite ?_)))
    refine ev_need (by simp [BTm.den, Tm.i, Tm.s, Tm.den, env, vInt, vBool, vStr, exI]) ?_
    refine ev_need (by simp [BTm.den, Tm.i, Tm.s, Tm.den, env, vInt, vBool, vStr, exI]; omega) ?_
    refine ev_nil (way_false (by simpa [BTm.den, Tm.i, Tm.s, Tm.den, env, vInt, vBool, vStr, exI] using hc) (tree_ite ?_))
    refine ev_call [.bool b] rfl rfl (pure_gives g1) (fun β => by simp [BTm.den, Tm.i, Tm.s, Tm.den, env, vInt, vBool, vStr, exI, SW.den, SV.den, Cell.den, densP, Piece.den, denV, denT]) (fun β => by simp [BTm.den, Tm.i, Tm.s, Tm.den, env, vInt, vBool, vStr, exI, SW.den, SV.den, Cell.den, densP, Piece.den, denV, denT]) ?_
    cases b with
    | true =>
      obtain ⟨n1, n2, n3, n4⟩ := hb.1 rfl
      obtain ⟨j, big, e, V, h1, h2, h3, h4, h5, h6, h7, h8⟩ := loop_end false s
      refine ev_nil (way_true (by simp [BTm.den, Tm.i, Tm.s, Tm.den, env, vInt, vBool, vStr, exI]) (tree_ite ?_))
      refine ev_loop [.int .i64 (j : Nat), .int .i64 e, .agg (mgk 32 V), .bool false, .agg (mgk 32 0), .bool big] rfl rfl (parse_loop s s rfl true n2 n4 j big h1 h2 h3 h4 e V h5 h6) ?_
      cases big with
      | true =>
        obtain ⟨rfl, hv⟩ := h7 rfl
        rw [hv]
        refine ev_nil (way_true (by simp [BTm.den, Tm.i, Tm.s, Tm.den, env, vInt, vBool, vStr, exI]) (tree_leaf (ev_nil fun β => ?_)))
        simp [BTm.den, Tm.i, Tm.s, Tm.den, env, vInt, vBool, vStr, exI, SW.den, SV.den, Cell.den, densP, Piece.den, denV, denT, rowCells_mgk, iv_list]
      | false =>
        obtain ⟨hV, hv⟩ := h8 rfl
        rw [hv]
        have g2 := signed_any false V hV
        refine ev_nil (way_false (by simp [BTm.den, Tm.i, Tm.s, Tm.den, env, vInt, vBool, vStr, exI]) (tree_leaf ?_))
        obtain ⟨z, hzz⟩ : ∃ z, z = vz false V := ⟨_, rfl⟩
        rw [← hzz] at g2 ⊢
        refine ev_call [.bool (decide (z < 0)), .agg (mgk 32 z.natAbs)] rfl rfl (pure_gives g2) (fun β => by simp [BTm.den, Tm.i, Tm.s, Tm.den, env, vInt, vBool, vStr, exI, SW.den, SV.den, Cell.den, densP, Piece.den, denV, denT, rowCells_mgk, mgl_agg]) (fun β => by simp [BTm.den, Tm.i, Tm.s, Tm.den, env, vInt, vBool, vStr, exI, SW.den, SV.den, Cell.den, densP, Piece.den, denV, denT, rowCells_mgk, iv_list, ivZ]) ?_
        refine ev_nil fun β => ?_
        simp [BTm.den, Tm.i, Tm.s, Tm.den, env, vInt, vBool, vStr, exI, SW.den, SV.den, Cell.den, densP, Piece.den, denV, denT, rowCells_mgk, iv_list, ivZ]
    | false =>
      refine ev_nil (way_false (by simp [BTm.den, Tm.i, Tm.s, Tm.den, env, vInt, vBool, vStr, exI]) (tree_leaf (ev_nil fun β => ?_)))
      simp [BTm.den, Tm.i, Tm.s, Tm.den, env, vInt, vBool, vStr, exI, SW.den, SV.den, Cell.den, densP, Piece.den, denV, denT, numV, iv_none, -List.reduceReplicate]
end Go.Proofs.Ytlccefdjhiedcaa
end
section
namespace Go.Proofs.Ytlccefdjhiedcaa
open Go.RowKit
set_option linter.unusedVariables false

set_option maxHeartbeats 800000 in
theorem rsum (n m : Nat) (hn : n < pw 32) (hm : m < pw 32) : Gives Try.prog 58 #[.agg (mgk 32 n), .agg (mgk 32 m)] (.tuple #[.agg (mgk 32 ((n + m) % pw 32)), .bool (decide (n + m < pw 32))]) := by
  intro w
  have hS := St.start w
  have HN := Lib.hid hn
  have HM := Lib.hid hm
  clear hn hm
  go_enter Try.func58, Try.ntmps58
  go_wp2_with (first | (refine L_box_agg hS rfl rfl ?_; refine ⟨_, rfl, ?_⟩; clear hS; intro _ _ hS) | (refine L_alloc_agg hS rfl rfl ?_; refine ⟨_, zero23, ?_⟩; clear hS; intro _ _ hS))
  rename_i b1 _ b2 _ b3 _ b4 w1 _ _
  go_loopw [7, 8] (fun cy i wr => ∃ k : Nat, k ≤ 32 ∧ i = .int .i64 k ∧ cy = .int .u64 ((pcar n m k : Nat) : Int) ∧ St none w wr [] [(b4, .cells (mgk 32 (psum n m k)) 23), (b3, .cells (mgk 32 0) 23), (b2, .cells (mgk 32 m) 23), (b1, .cells (mgk 32 n) 23)]) (fun _ i _ => 32 - (intOf i).toNat)
  case atStart =>
    exact ⟨0, by omega, rfl, by rw [pcar_zero]; rfl, by rw [psum_zero]; exact hS⟩
  case round =>
    clear hS
    obtain ⟨k, hk, rfl, rfl, hS⟩ := hrel
    have hc := pcar_le n m k
    by_cases hlt : k < 32
    · have hx := limb_lt n k
      have hy := limb_lt m k
      obtain ⟨V, hV⟩ : ∃ V, limb n k + limb m k + pcar n m k = V := ⟨_, rfl⟩
      have hVZ : ((limb n k : Nat) : Int) + ((limb m k : Nat) : Int) + ((pcar n m k : Nat) : Int) = ((V : Nat) : Int) := by omega
      have hVb : V ≤ 8589934591 := by omega
      go_wp2_with (fail)
      (try simp only [Act.put]); (try simp only [List.setIfInBounds_toArray, List.set_cons_succ, List.set_cons_zero]); refine wp_region_w0 hS (by kernel_rfl) (by kernel_rfl) ?_
      repeat (first
        | (refine S_load (t := 22) rfl rfl rfl rfl ?_; refine ⟨_, fun _ hS' => run_load_cell hS' _ _ rfl _ _ rfl _ _ (.inl (.tail _ (.tail _ (.head _)))) _ Try.underlying22 rfl _ (mgk_get' (by omega)), ?_⟩; simp only [Act.put, List.setIfInBounds_toArray, List.set_cons_succ, List.set_cons_zero])
        | (refine S_load (t := 22) rfl rfl rfl rfl ?_; refine ⟨_, fun _ hS' => run_load_cell hS' _ _ rfl _ _ rfl _ _ (.inl (.tail _ (.tail _ (.tail _ (.head _))))) _ Try.underlying22 rfl _ (mgk_get' (by omega)), ?_⟩; simp only [Act.put, List.setIfInBounds_toArray, List.set_cons_succ, List.set_cons_zero])
        | (refine S_run rfl rfl ?_; apply Exists.intro; refine ⟨fun _ => ?_, ?_⟩; (focus (go_simp; (try go_bits); exact rfl)); simp only [Act.put, List.setIfInBounds_toArray, List.set_cons_succ, List.set_cons_zero]))
      refine S_end0 ?_; clear hS; intro _ hS
      go_wp2_with (first | (refine L_store (t := 22) hS rfl rfl ?_; refine ⟨_, _, mgk 32 (psum n m (k + 1)), _, _, (.head), run_store_cell hS _ _ _ rfl _ _ rfl _ rfl _ _ _ (.head) size22 rfl rfl ?_ ?_, ?_⟩; (focus (rw [mgk_size]; omega)); (focus (exact (mgk_fill' _ (addS (limb n k) (limb m k) (pcar n m k)) (by unfold addS; rw [hV]; rfl) (psum_lt _ _ _) (addS_lt _ _ _)).trans (by rw [psum_next]; rfl))); clear hS; intro _ hS))
      go_roundw
      case rel => exact ⟨k + 1, by omega, by go_num, by rw [pcar_next, hV]; rfl, hS⟩
      case measure => simp [intOf]; omega
    · have ek : k = 32 := by omega
      subst ek
      go_wp2_with (first | (refine L_load (t := 23) rfl rfl ?_; refine ⟨_, run_load_row hS _ _ rfl _ rfl _ _ (.inl (.head _)) _ Try.underlying23 rfl (size23_mg _), ?_⟩) | (refine L_store (t := 23) hS rfl rfl ?_; refine ⟨_, _, _, _, _, (.tail .head), run_store_row hS _ _ _ rfl _ rfl _ _ rfl _ (.tail .head) (size23_mg _) (mg_sizes _ _ _) (oneCells _ _), ?_⟩; clear hS; intro _ hS))
      (try simp only [Exit.inBlock, Exit.then]); refine bodyPost_ret (res_cell_tmp rfl _ _ _ (run_loadRow hS _ _ _ _ (.inl (.tail _ (.head _))) _ Try.underlying23 rfl (size23_mg _)) rfl _ rfl) rfl ⟨?_, hS.below⟩
      refine ret2 (by rw [psum_end HN.out HM.out]) (congrArg Value.bool ?_)
      have h0 := pcar_end HN.out HM.out
      by_cases h1 : pcar n m 32 = 0
      · simp [h1, h0.1 h1]
      · have h2 : ¬ n + m < pw 32 := fun h => h1 (h0.2 h)
        simp [h1, h2]

def dif64 (x y c : Nat) : Nat := if x < y + c then x + 18446744073709551616 - y - c else x - y - c
theorem dif64_wrap {x y c : Nat} (hx : x < 4294967296) (hy : y < 4294967296) (hc : c ≤ 1) : IntKind.u64.wrap (IntKind.u64.wrap ((x : Int) - (y : Int)) - (c : Int)) = ((dif64 x y c : Nat) : Int) := by
  have wr : ∀ z : Int, IntKind.u64.wrap z = z % 18446744073709551616 := fun z => by simp [IntKind.wrap, IntKind.signed, IntKind.bits]
  rw [wr, wr]
  unfold dif64
  split <;> omega
theorem dif64_lt {x y c : Nat} (hx : x < 4294967296) : dif64 x y c < 18446744073709551616 := by unfold dif64; split <;> omega
theorem dif64_low {x y c : Nat} (hx : x < 4294967296) (hy : y < 4294967296) (hc : c ≤ 1) : dif64 x y c % 4294967296 = subD x y c := by unfold dif64 subD; split <;> omega
theorem dif64_high {x y c : Nat} (hx : x < 4294967296) (hy : y < 4294967296) (hc : c ≤ 1) : dif64 x y c / 9223372036854775808 = brw x y c := by unfold dif64 brw; split <;> omega
set_option maxHeartbeats 800000 in
theorem rdiff (n m : Nat) (hn : n < pw 32) (hm : m ≤ n) : Gives Try.prog 60 #[.agg (mgk 32 n), .agg (mgk 32 m)] (.agg (mgk 32 (n - m))) := by
  intro w
  have hS := St.start w
  have HN := Lib.hid hn
  have HM := Lib.hid hm
  clear hn hm
  go_enter Try.func60, Try.ntmps60
  go_wp2_with (first | (refine L_box_agg hS rfl rfl ?_; refine ⟨_, rfl, ?_⟩; clear hS; intro _ _ hS) | (refine L_alloc_agg hS rfl rfl ?_; refine ⟨_, zero23, ?_⟩; clear hS; intro _ _ hS))
  rename_i b1 _ b2 _ b3 _ b4 w1 _ _
  go_loopw [6, 7] (fun cy i wr => ∃ k : Nat, k ≤ 32 ∧ i = .int .i64 k ∧ cy = .int .u64 ((mbrw n m k : Nat) : Int) ∧ St none w wr [] [(b4, .cells (mgk 32 (mdif n m k)) 23), (b3, .cells (mgk 32 0) 23), (b2, .cells (mgk 32 m) 23), (b1, .cells (mgk 32 n) 23)]) (fun _ i _ => 32 - (intOf i).toNat)
  case atStart =>
    exact ⟨0, by omega, rfl, by rw [mbrw_zero]; rfl, by rw [mdif_zero]; exact hS⟩
  case round =>
    clear hS
    obtain ⟨k, hk, rfl, rfl, hS⟩ := hrel
    have hc := mbrw_le n m k
    by_cases hlt : k < 32
    · have hx := limb_lt n k
      have hy := limb_lt m k
      go_wp2_with (fail)
      (try simp only [Act.put]); (try simp only [List.setIfInBounds_toArray, List.set_cons_succ, List.set_cons_zero]); refine wp_region_w0 hS (by kernel_rfl) (by kernel_rfl) ?_
      repeat (first
        | (refine S_load (t := 22) rfl rfl rfl rfl ?_; refine ⟨_, fun _ hS' => run_load_cell hS' _ _ rfl _ _ rfl _ _ (.inl (.tail _ (.tail _ (.head _)))) _ Try.underlying22 rfl _ (mgk_get' (by omega)), ?_⟩; simp only [Act.put, List.setIfInBounds_toArray, List.set_cons_succ, List.set_cons_zero])
        | (refine S_load (t := 22) rfl rfl rfl rfl ?_; refine ⟨_, fun _ hS' => run_load_cell hS' _ _ rfl _ _ rfl _ _ (.inl (.tail _ (.tail _ (.tail _ (.head _))))) _ Try.underlying22 rfl _ (mgk_get' (by omega)), ?_⟩; simp only [Act.put, List.setIfInBounds_toArray, List.set_cons_succ, List.set_cons_zero])
        | (refine S_run rfl rfl ?_; apply Exists.intro; refine ⟨fun _ => ?_, ?_⟩; (focus (go_simp; (try go_bits); exact rfl)); simp only [Act.put, List.setIfInBounds_toArray, List.set_cons_succ, List.set_cons_zero]))
      refine S_end0 ?_; clear hS; intro _ hS
      have HVZ := dif64_wrap hx hy hc
      have HVL := Lib.hid (dif64_low hx hy hc)
      have HVH := Lib.hid (dif64_high hx hy hc)
      have HVB := dif64_lt (y := limb m k) (c := mbrw n m k) hx
      generalize dif64 (limb n k) (limb m k) (mbrw n m k) = V at *
      rw [HVZ]
      clear HVZ
      go_wp2_with (first | (refine L_store (t := 22) hS rfl rfl ?_; refine ⟨_, _, mgk 32 (mdif n m (k + 1)), _, _, (.head), run_store_cell hS _ _ _ rfl _ _ rfl _ rfl _ _ _ (.head) size22 rfl rfl ?_ ?_, ?_⟩; (focus (rw [mgk_size]; omega)); (focus (exact (mgk_fill' _ (subD (limb n k) (limb m k) (mbrw n m k)) (by rw [← HVL.out]; rfl) (mdif_lt _ _ _) (subD_lt _ _ _)).trans (by rw [mdif_next]; rfl))); clear hS; intro _ hS))
      go_roundw
      case rel => exact ⟨k + 1, by omega, by go_num, by rw [mbrw_next, ← HVH.out]; rfl, hS⟩
      case measure => simp [intOf]; omega
    · have ek : k = 32 := by omega
      subst ek
      go_wp2_with (first | (refine L_load (t := 23) rfl rfl ?_; refine ⟨_, run_load_row hS _ _ rfl _ rfl _ _ (.inl (.head _)) _ Try.underlying23 rfl (size23_mg _), ?_⟩) | (refine L_store (t := 23) hS rfl rfl ?_; refine ⟨_, _, _, _, _, (.tail .head), run_store_row hS _ _ _ rfl _ rfl _ _ rfl _ (.tail .head) (size23_mg _) (mg_sizes _ _ _) (oneCells _ _), ?_⟩; clear hS; intro _ hS))
      (try simp only [Exit.inBlock, Exit.then]); refine bodyPost_ret (res_cell rfl hS _ _ _ _ (.inl (.tail _ (.head _))) rfl _ Try.underlying23 rfl (size23_mg _)) rfl ⟨?_, hS.below⟩
      rw [mdif_end HN.out HM.out]
end Go.Proofs.Ytlccefdjhiedcaa
end
section
namespace Go.Proofs.Ytlccefdjhiedcaa
open Go.RowKit
set_option linter.unusedVariables false

theorem vz_canon (s : Bool) (n : Nat) : vz (s && !isz n) n = vz s n := by
  by_cases h : n = 0
  · subst h; rw [vz_zero, vz_zero]
  · rw [isz_false h]; simp
theorem rcanon' (s s' : Bool) (n : Nat) (hn : n < pw 32) (h : (s && !isz n) = s') : Gives Try.prog 29 #[.bool s, .agg (mgk 32 n)] (.agg (iv s' n)) := by
  have := rcanon s n hn
  rwa [ivZ_vz, h] at this
theorem resZ_vz {s : Bool} {n : Nat} (hn : n < pw 32) : resZ (vz s n) = .tuple #[.agg (ivZ (vz s n)), .int .i64 0] := resZ_fits (by rw [vz_abs]; exact hn)

set_option maxRecDepth 100000 in
set_option maxHeartbeats 1000000 in
theorem radd_same (s t u : Bool) (n m : Nat) (hn : n < pw 32) (hm : m < pw 32) (hs : (s && !isz n) = u) (ht : (t && !isz m) = u) : Gives Try.prog 28 #[.agg (iv s n), .agg (iv t m)] (resZ (vz u n + vz u m)) := by
  intro w
  have hS := St.start w
  have HN := Lib.hid hn
  have HM := Lib.hid hm
  have HC1 := rcanon' s u n hn hs
  have HC2 := rcanon' t u m hm ht
  have hss : (u == u) = true := by simp
  rw [vz_add_same]
  by_cases hfit : n + m < pw 32
  · have HR : Hid (resZ (vz u (n + m)) = _) := resZ_vz hfit
    have hd := decide_eq_true hfit
    have HL : Hid ((n + m) % pw 32 = n + m) := Nat.mod_eq_of_lt hfit
    clear hn hm hfit hs ht
    go_enter Try.func28, Try.ntmps28
    go_wp2_with (first | (refine L_box_agg hS rfl rfl ?_; refine ⟨_, rfl, ?_⟩; clear hS; intro _ _ hS) | (refine L_alloc_agg hS rfl rfl ?_; refine ⟨_, zero25, ?_⟩; clear hS; intro _ _ hS))
    (try simp only [Act.put]); (try simp only [List.setIfInBounds_toArray, List.set_cons_succ, List.set_cons_zero]); refine wp_region_u2 hS 10 11 [] (.tail (.tail (.head (o' := .cells (iv u n) 25)))) (.tail (.head (o' := .cells (iv u m) 25))) (by kernel_rfl) (by kernel_rfl) ?_
    (refine S_run rfl rfl ?_; apply Exists.intro; refine ⟨fun _ => ?_, ?_⟩; (focus (go_simp; (try go_bits); exact rfl)); simp only [Act.put, List.setIfInBounds_toArray, List.set_cons_succ, List.set_cons_zero])
    (refine S_load (t := 4) rfl rfl rfl rfl ?_; refine ⟨_, fun _ hS' => run_load_cell hS' _ _ rfl _ _ rfl _ _ (.inl (.tail _ (.tail _ (.head _)))) _ Try.underlying4 rfl _ (iv_neg _ _), ?_⟩; simp only [Act.put, List.setIfInBounds_toArray, List.set_cons_succ, List.set_cons_zero])
    (refine S_run rfl rfl ?_; apply Exists.intro; refine ⟨fun _ => ?_, ?_⟩; (focus (go_simp; (try go_bits); exact rfl)); simp only [Act.put, List.setIfInBounds_toArray, List.set_cons_succ, List.set_cons_zero])
    (refine S_load (t := 23) rfl rfl rfl rfl ?_; refine ⟨_, fun _ hS' => run_load_mid hS' _ _ rfl _ _ rfl _ _ (.inl (.tail _ (.tail _ (.head _)))) _ Try.underlying23 rfl (mgk 32 _) (size23_mg _) (fun k _ => iv_mag _ _ k), ?_⟩; simp only [Act.put, List.setIfInBounds_toArray, List.set_cons_succ, List.set_cons_zero])
    (refine S_call 29 rfl rfl rfl rfl ?_; apply Exists.intro; refine ⟨fun _ => ?_, ?_⟩; (focus (go_simp; exact rfl)); apply Exists.intro; (with_reducible refine ⟨HC1, ?_⟩); simp only [Act.put, List.setIfInBounds_toArray, List.set_cons_succ, List.set_cons_zero])
    (refine S_run rfl rfl ?_; apply Exists.intro; refine ⟨fun _ => ?_, ?_⟩; (focus (go_simp; (try go_bits); exact rfl)); simp only [Act.put, List.setIfInBounds_toArray, List.set_cons_succ, List.set_cons_zero])
    (refine S_load (t := 4) rfl rfl rfl rfl ?_; refine ⟨_, fun _ hS' => run_load_cell hS' _ _ rfl _ _ rfl _ _ (.inl (.tail _ (.head _))) _ Try.underlying4 rfl _ (iv_neg _ _), ?_⟩; simp only [Act.put, List.setIfInBounds_toArray, List.set_cons_succ, List.set_cons_zero])
    (refine S_run rfl rfl ?_; apply Exists.intro; refine ⟨fun _ => ?_, ?_⟩; (focus (go_simp; (try go_bits); exact rfl)); simp only [Act.put, List.setIfInBounds_toArray, List.set_cons_succ, List.set_cons_zero])
    (refine S_load (t := 23) rfl rfl rfl rfl ?_; refine ⟨_, fun _ hS' => run_load_mid hS' _ _ rfl _ _ rfl _ _ (.inl (.tail _ (.head _))) _ Try.underlying23 rfl (mgk 32 _) (size23_mg _) (fun k _ => iv_mag _ _ k), ?_⟩; simp only [Act.put, List.setIfInBounds_toArray, List.set_cons_succ, List.set_cons_zero])
    (refine S_call 29 rfl rfl rfl rfl ?_; apply Exists.intro; refine ⟨fun _ => ?_, ?_⟩; (focus (go_simp; exact rfl)); apply Exists.intro; (with_reducible refine ⟨HC2, ?_⟩); simp only [Act.put, List.setIfInBounds_toArray, List.set_cons_succ, List.set_cons_zero])
    (refine S_store (t := 25) rfl rfl rfl ?_; refine ⟨_, _, _, _, (.tail (.tail .head)), fun _ hS' => run_store_row hS' _ _ _ rfl _ rfl _ _ rfl _ (.tail (.tail .head)) (size25_iv _ _) (iv_sizes _ _ _ _) (oneCells_iv _ _), ?_⟩; simp only [Act.put])
    (refine S_store (t := 25) rfl rfl rfl ?_; refine ⟨_, _, _, _, (.tail .head), fun _ hS' => run_store_row hS' _ _ _ rfl _ rfl _ _ rfl _ (.tail .head) (size25_iv _ _) (iv_sizes _ _ _ _) (oneCells_iv _ _), ?_⟩; simp only [Act.put])
    refine S_end2 ?_; clear hS; intro _ hS
    go_wp2_with (first | (refine L_load (t := 4) rfl rfl ?_; refine ⟨_, run_load_cell hS _ _ rfl _ _ rfl _ _ (.inl (.tail _ (.tail _ (.head _)))) _ Try.underlying4 rfl _ (iv_neg _ _), ?_⟩) | (refine L_load (t := 4) rfl rfl ?_; refine ⟨_, run_load_cell hS _ _ rfl _ _ rfl _ _ (.inl (.tail _ (.head _))) _ Try.underlying4 rfl _ (iv_neg _ _), ?_⟩) | (refine L_load (t := 4) rfl rfl ?_; refine ⟨_, run_load_cell hS _ _ rfl _ _ rfl _ _ (.inl (.tail _ (.tail _ (.tail _ (.head _))))) _ Try.underlying4 rfl _ (iv_neg _ _), ?_⟩) | (refine L_load (t := 23) rfl rfl ?_; refine ⟨_, run_load_mid hS _ _ rfl _ _ rfl _ _ (.inl (.tail _ (.tail _ (.head _)))) _ Try.underlying23 rfl (mgk 32 _) (size23_mg _) (fun k _ => iv_mag _ _ k), ?_⟩) | (refine L_load (t := 23) rfl rfl ?_; refine ⟨_, run_load_mid hS _ _ rfl _ _ rfl _ _ (.inl (.tail _ (.head _))) _ Try.underlying23 rfl (mgk 32 _) (size23_mg _) (fun k _ => iv_mag _ _ k), ?_⟩) | (refine L_alloc_agg hS rfl rfl ?_; refine ⟨_, zero23, ?_⟩; clear hS; intro _ _ hS) | (refine L_load (t := 23) rfl rfl ?_; refine ⟨_, run_load_row hS _ _ rfl _ rfl _ _ (.inl (.head _)) _ Try.underlying23 rfl (size23_mg _), ?_⟩) | (refine L_store (t := 23) hS rfl rfl ?_; refine ⟨_, _, _, _, _, (.head), run_store_row hS _ _ _ rfl _ rfl _ _ rfl _ (.head) (size23_mg _) (mg_sizes _ _ _) (oneCells _ _), ?_⟩; clear hS; intro _ hS) | (refine L_store (t := 25) hS rfl rfl ?_; refine ⟨_, _, _, _, _, (.tail .head), run_store_row hS _ _ _ rfl _ rfl _ _ rfl _ (.tail .head) (size25_iv _ _) (iv_sizes _ _ _ _) (oneCells_iv _ _), ?_⟩; clear hS; intro _ hS) | (go_at_call 58; (with_reducible refine Gives.use (rsum _ _ HN.out HM.out) hS ?_); clear hS; intro _ hS) | (go_at_call 29; (with_reducible refine Gives.use (rcanon _ _ (Nat.mod_lt _ (pw_pos _))) hS ?_); clear hS; intro _ hS))
    (try simp only [Exit.inBlock, Exit.then]); refine bodyPost_ret (res_cell_tmp rfl _ _ _ (run_loadRow hS _ _ _ _ (.inl (.tail _ (.head _))) _ Try.underlying25 rfl (size25_iv _ _)) rfl _ rfl) rfl ⟨?_, hS.below⟩
    rw [HR.out, HL.out]; rfl
  · have HR : Hid (resZ (vz u (n + m)) = _) := resZ_not (z := vz u (n + m)) (by rw [vz_abs]; exact hfit)
    have hd := decide_eq_false hfit
    clear hn hm hfit hs ht
    go_enter Try.func28, Try.ntmps28
    go_wp2_with (first | (refine L_box_agg hS rfl rfl ?_; refine ⟨_, rfl, ?_⟩; clear hS; intro _ _ hS) | (refine L_alloc_agg hS rfl rfl ?_; refine ⟨_, zero25, ?_⟩; clear hS; intro _ _ hS))
    (try simp only [Act.put]); (try simp only [List.setIfInBounds_toArray, List.set_cons_succ, List.set_cons_zero]); refine wp_region_u2 hS 10 11 [] (.tail (.tail (.head (o' := .cells (iv u n) 25)))) (.tail (.head (o' := .cells (iv u m) 25))) (by kernel_rfl) (by kernel_rfl) ?_
    (refine S_run rfl rfl ?_; apply Exists.intro; refine ⟨fun _ => ?_, ?_⟩; (focus (go_simp; (try go_bits); exact rfl)); simp only [Act.put, List.setIfInBounds_toArray, List.set_cons_succ, List.set_cons_zero])
    (refine S_load (t := 4) rfl rfl rfl rfl ?_; refine ⟨_, fun _ hS' => run_load_cell hS' _ _ rfl _ _ rfl _ _ (.inl (.tail _ (.tail _ (.head _)))) _ Try.underlying4 rfl _ (iv_neg _ _), ?_⟩; simp only [Act.put, List.setIfInBounds_toArray, List.set_cons_succ, List.set_cons_zero])
    (refine S_run rfl rfl ?_; apply Exists.intro; refine ⟨fun _ => ?_, ?_⟩; (focus (go_simp; (try go_bits); exact rfl)); simp only [Act.put, List.setIfInBounds_toArray, List.set_cons_succ, List.set_cons_zero])
    (refine S_load (t := 23) rfl rfl rfl rfl ?_; refine ⟨_, fun _ hS' => run_load_mid hS' _ _ rfl _ _ rfl _ _ (.inl (.tail _ (.tail _ (.head _)))) _ Try.underlying23 rfl (mgk 32 _) (size23_mg _) (fun k _ => iv_mag _ _ k), ?_⟩; simp only [Act.put, List.setIfInBounds_toArray, List.set_cons_succ, List.set_cons_zero])
    (refine S_call 29 rfl rfl rfl rfl ?_; apply Exists.intro; refine ⟨fun _ => ?_, ?_⟩; (focus (go_simp; exact rfl)); apply Exists.intro; (with_reducible refine ⟨HC1, ?_⟩); simp only [Act.put, List.setIfInBounds_toArray, List.set_cons_succ, List.set_cons_zero])
    (refine S_run rfl rfl ?_; apply Exists.intro; refine ⟨fun _ => ?_, ?_⟩; (focus (go_simp; (try go_bits); exact rfl)); simp only [Act.put, List.setIfInBounds_toArray, List.set_cons_succ, List.set_cons_zero])
    (refine S_load (t := 4) rfl rfl rfl rfl ?_; refine ⟨_, fun _ hS' => run_load_cell hS' _ _ rfl _ _ rfl _ _ (.inl (.tail _ (.head _))) _ Try.underlying4 rfl _ (iv_neg _ _), ?_⟩; simp only [Act.put, List.setIfInBounds_toArray, List.set_cons_succ, List.set_cons_zero])
    (refine S_run rfl rfl ?_; apply Exists.intro; refine ⟨fun _ => ?_, ?_⟩; (focus (go_simp; (try go_bits); exact rfl)); simp only [Act.put, List.setIfInBounds_toArray, List.set_cons_succ, List.set_cons_zero])
    (refine S_load (t := 23) rfl rfl rfl rfl ?_; refine ⟨_, fun _ hS' => run_load_mid hS' _ _ rfl _ _ rfl _ _ (.inl (.tail _ (.head _))) _ Try.underlying23 rfl (mgk 32 _) (size23_mg _) (fun k _ => iv_mag _ _ k), ?_⟩; simp only [Act.put, List.setIfInBounds_toArray, List.set_cons_succ, List.set_cons_zero])
    (refine S_call 29 rfl rfl rfl rfl ?_; apply Exists.intro; refine ⟨fun _ => ?_, ?_⟩; (focus (go_simp; exact rfl)); apply Exists.intro; (with_reducible refine ⟨HC2, ?_⟩); simp only [Act.put, List.setIfInBounds_toArray, List.set_cons_succ, List.set_cons_zero])
    (refine S_store (t := 25) rfl rfl rfl ?_; refine ⟨_, _, _, _, (.tail (.tail .head)), fun _ hS' => run_store_row hS' _ _ _ rfl _ rfl _ _ rfl _ (.tail (.tail .head)) (size25_iv _ _) (iv_sizes _ _ _ _) (oneCells_iv _ _), ?_⟩; simp only [Act.put])
    (refine S_store (t := 25) rfl rfl rfl ?_; refine ⟨_, _, _, _, (.tail .head), fun _ hS' => run_store_row hS' _ _ _ rfl _ rfl _ _ rfl _ (.tail .head) (size25_iv _ _) (iv_sizes _ _ _ _) (oneCells_iv _ _), ?_⟩; simp only [Act.put])
    refine S_end2 ?_; clear hS; intro _ hS
    go_wp2_with (first | (refine L_load (t := 4) rfl rfl ?_; refine ⟨_, run_load_cell hS _ _ rfl _ _ rfl _ _ (.inl (.tail _ (.tail _ (.head _)))) _ Try.underlying4 rfl _ (iv_neg _ _), ?_⟩) | (refine L_load (t := 4) rfl rfl ?_; refine ⟨_, run_load_cell hS _ _ rfl _ _ rfl _ _ (.inl (.tail _ (.head _))) _ Try.underlying4 rfl _ (iv_neg _ _), ?_⟩) | (refine L_load (t := 23) rfl rfl ?_; refine ⟨_, run_load_mid hS _ _ rfl _ _ rfl _ _ (.inl (.tail _ (.tail _ (.head _)))) _ Try.underlying23 rfl (mgk 32 _) (size23_mg _) (fun k _ => iv_mag _ _ k), ?_⟩) | (refine L_load (t := 23) rfl rfl ?_; refine ⟨_, run_load_mid hS _ _ rfl _ _ rfl _ _ (.inl (.tail _ (.head _))) _ Try.underlying23 rfl (mgk 32 _) (size23_mg _) (fun k _ => iv_mag _ _ k), ?_⟩) | (refine L_alloc_agg hS rfl rfl ?_; refine ⟨_, zero23, ?_⟩; clear hS; intro _ _ hS) | (refine L_load (t := 23) rfl rfl ?_; refine ⟨_, run_load_row hS _ _ rfl _ rfl _ _ (.inl (.head _)) _ Try.underlying23 rfl (size23_mg _), ?_⟩) | (refine L_store (t := 23) hS rfl rfl ?_; refine ⟨_, _, _, _, _, (.head), run_store_row hS _ _ _ rfl _ rfl _ _ rfl _ (.head) (size23_mg _) (mg_sizes _ _ _) (oneCells _ _), ?_⟩; clear hS; intro _ hS) | (refine L_store (t := 25) hS rfl rfl ?_; refine ⟨_, _, _, _, _, (.tail .head), run_store_row hS _ _ _ rfl _ rfl _ _ rfl _ (.tail .head) (size25_iv _ _) (iv_sizes _ _ _ _) (oneCells_iv _ _), ?_⟩; clear hS; intro _ hS) | (refine L_build rfl rfl ?_; refine ⟨_, built25, ?_⟩) | (go_at_call 58; (with_reducible refine Gives.use (rsum _ _ HN.out HM.out) hS ?_); clear hS; intro _ hS))
    (try simp only [Exit.inBlock, Exit.then]); refine bodyPost_ret (res_cell_tmp rfl _ _ _ (run_loadRow hS _ _ _ _ (.inl (.tail _ (.head _))) _ Try.underlying25 rfl (size25_iv _ _)) rfl _ rfl) rfl ⟨?_, hS.below⟩
    rw [HR.out, ← ivZ_zero]; rfl
set_option maxRecDepth 100000 in
set_option maxHeartbeats 1000000 in
theorem radd_other (s t u v : Bool) (n m : Nat) (hn : n < pw 32) (hm : m < pw 32) (hs : (s && !isz n) = u) (ht : (t && !isz m) = v) (huv : u ≠ v) : Gives Try.prog 28 #[.agg (iv s n), .agg (iv t m)] (resZ (vz u n + vz v m)) := by
  intro w
  have hS := St.start w
  have HN := Lib.hid hn
  have HM := Lib.hid hm
  have HC1 := rcanon' s u n hn hs
  have HC2 := rcanon' t v m hm ht
  have hss : (u == v) = false := by simpa using huv
  by_cases hlt : n < m
  · have HR : Hid (resZ (vz v (m - n)) = _) := resZ_vz (Nat.lt_of_le_of_lt (Nat.sub_le _ _) hm)
    have HD : Hid (m - n < pw 32) := Nat.lt_of_le_of_lt (Nat.sub_le _ _) hm
    have HE : Hid (n ≤ m) := Nat.le_of_lt hlt
    rw [vz_add_lt huv hlt]
    have hc := cmpv_lt hlt
    clear hn hm hlt hs ht huv
    go_enter Try.func28, Try.ntmps28
    go_wp2_with (first | (refine L_box_agg hS rfl rfl ?_; refine ⟨_, rfl, ?_⟩; clear hS; intro _ _ hS) | (refine L_alloc_agg hS rfl rfl ?_; refine ⟨_, zero25, ?_⟩; clear hS; intro _ _ hS))
    (try simp only [Act.put]); (try simp only [List.setIfInBounds_toArray, List.set_cons_succ, List.set_cons_zero]); refine wp_region_u2 hS 10 11 [] (.tail (.tail (.head (o' := .cells (iv u n) 25)))) (.tail (.head (o' := .cells (iv v m) 25))) (by kernel_rfl) (by kernel_rfl) ?_
    (refine S_run rfl rfl ?_; apply Exists.intro; refine ⟨fun _ => ?_, ?_⟩; (focus (go_simp; (try go_bits); exact rfl)); simp only [Act.put, List.setIfInBounds_toArray, List.set_cons_succ, List.set_cons_zero])
    (refine S_load (t := 4) rfl rfl rfl rfl ?_; refine ⟨_, fun _ hS' => run_load_cell hS' _ _ rfl _ _ rfl _ _ (.inl (.tail _ (.tail _ (.head _)))) _ Try.underlying4 rfl _ (iv_neg _ _), ?_⟩; simp only [Act.put, List.setIfInBounds_toArray, List.set_cons_succ, List.set_cons_zero])
    (refine S_run rfl rfl ?_; apply Exists.intro; refine ⟨fun _ => ?_, ?_⟩; (focus (go_simp; (try go_bits); exact rfl)); simp only [Act.put, List.setIfInBounds_toArray, List.set_cons_succ, List.set_cons_zero])
    (refine S_load (t := 23) rfl rfl rfl rfl ?_; refine ⟨_, fun _ hS' => run_load_mid hS' _ _ rfl _ _ rfl _ _ (.inl (.tail _ (.tail _ (.head _)))) _ Try.underlying23 rfl (mgk 32 _) (size23_mg _) (fun k _ => iv_mag _ _ k), ?_⟩; simp only [Act.put, List.setIfInBounds_toArray, List.set_cons_succ, List.set_cons_zero])
    (refine S_call 29 rfl rfl rfl rfl ?_; apply Exists.intro; refine ⟨fun _ => ?_, ?_⟩; (focus (go_simp; exact rfl)); apply Exists.intro; (with_reducible refine ⟨HC1, ?_⟩); simp only [Act.put, List.setIfInBounds_toArray, List.set_cons_succ, List.set_cons_zero])
    (refine S_run rfl rfl ?_; apply Exists.intro; refine ⟨fun _ => ?_, ?_⟩; (focus (go_simp; (try go_bits); exact rfl)); simp only [Act.put, List.setIfInBounds_toArray, List.set_cons_succ, List.set_cons_zero])
    (refine S_load (t := 4) rfl rfl rfl rfl ?_; refine ⟨_, fun _ hS' => run_load_cell hS' _ _ rfl _ _ rfl _ _ (.inl (.tail _ (.head _))) _ Try.underlying4 rfl _ (iv_neg _ _), ?_⟩; simp only [Act.put, List.setIfInBounds_toArray, List.set_cons_succ, List.set_cons_zero])
    (refine S_run rfl rfl ?_; apply Exists.intro; refine ⟨fun _ => ?_, ?_⟩; (focus (go_simp; (try go_bits); exact rfl)); simp only [Act.put, List.setIfInBounds_toArray, List.set_cons_succ, List.set_cons_zero])
    (refine S_load (t := 23) rfl rfl rfl rfl ?_; refine ⟨_, fun _ hS' => run_load_mid hS' _ _ rfl _ _ rfl _ _ (.inl (.tail _ (.head _))) _ Try.underlying23 rfl (mgk 32 _) (size23_mg _) (fun k _ => iv_mag _ _ k), ?_⟩; simp only [Act.put, List.setIfInBounds_toArray, List.set_cons_succ, List.set_cons_zero])
    (refine S_call 29 rfl rfl rfl rfl ?_; apply Exists.intro; refine ⟨fun _ => ?_, ?_⟩; (focus (go_simp; exact rfl)); apply Exists.intro; (with_reducible refine ⟨HC2, ?_⟩); simp only [Act.put, List.setIfInBounds_toArray, List.set_cons_succ, List.set_cons_zero])
    (refine S_store (t := 25) rfl rfl rfl ?_; refine ⟨_, _, _, _, (.tail (.tail .head)), fun _ hS' => run_store_row hS' _ _ _ rfl _ rfl _ _ rfl _ (.tail (.tail .head)) (size25_iv _ _) (iv_sizes _ _ _ _) (oneCells_iv _ _), ?_⟩; simp only [Act.put])
    (refine S_store (t := 25) rfl rfl rfl ?_; refine ⟨_, _, _, _, (.tail .head), fun _ hS' => run_store_row hS' _ _ _ rfl _ rfl _ _ rfl _ (.tail .head) (size25_iv _ _) (iv_sizes _ _ _ _) (oneCells_iv _ _), ?_⟩; simp only [Act.put])
    refine S_end2 ?_; clear hS; intro _ hS
    go_wp2_with (first | (refine L_load (t := 4) rfl rfl ?_; refine ⟨_, run_load_cell hS _ _ rfl _ _ rfl _ _ (.inl (.tail _ (.tail _ (.head _)))) _ Try.underlying4 rfl _ (iv_neg _ _), ?_⟩) | (refine L_load (t := 4) rfl rfl ?_; refine ⟨_, run_load_cell hS _ _ rfl _ _ rfl _ _ (.inl (.tail _ (.head _))) _ Try.underlying4 rfl _ (iv_neg _ _), ?_⟩) | (refine L_load (t := 23) rfl rfl ?_; refine ⟨_, run_load_mid hS _ _ rfl _ _ rfl _ _ (.inl (.tail _ (.tail _ (.head _)))) _ Try.underlying23 rfl (mgk 32 _) (size23_mg _) (fun k _ => iv_mag _ _ k), ?_⟩) | (refine L_load (t := 23) rfl rfl ?_; refine ⟨_, run_load_mid hS _ _ rfl _ _ rfl _ _ (.inl (.tail _ (.head _))) _ Try.underlying23 rfl (mgk 32 _) (size23_mg _) (fun k _ => iv_mag _ _ k), ?_⟩) | (refine L_load (t := 25) rfl rfl ?_; refine ⟨_, run_load_row hS _ _ rfl _ rfl _ _ (.inl (.tail _ (.head _))) _ Try.underlying25 rfl (size25_iv _ _), ?_⟩) | (refine L_load (t := 25) rfl rfl ?_; refine ⟨_, run_load_row hS _ _ rfl _ rfl _ _ (.inl (.tail _ (.tail _ (.head _)))) _ Try.underlying25 rfl (size25_iv _ _), ?_⟩) | (refine L_store (t := 25) hS rfl rfl ?_; refine ⟨_, _, _, _, _, (.tail .head), run_store_row hS _ _ _ rfl _ rfl _ _ rfl _ (.tail .head) (size25_iv _ _) (iv_sizes _ _ _ _) (oneCells_iv _ _), ?_⟩; clear hS; intro _ hS) | (refine L_store (t := 25) hS rfl rfl ?_; refine ⟨_, _, _, _, _, (.tail (.tail .head)), run_store_row hS _ _ _ rfl _ rfl _ _ rfl _ (.tail (.tail .head)) (size25_iv _ _) (iv_sizes _ _ _ _) (oneCells_iv _ _), ?_⟩; clear hS; intro _ hS) | (go_at_call 59; (with_reducible refine Gives.use (rcompare _ _ HN.out HM.out) hS ?_); clear hS; intro _ hS))
    (try simp only [Act.put]); (try simp only [List.setIfInBounds_toArray, List.set_cons_succ, List.set_cons_zero]); refine wp_region_u1 hS 8 [] (.head (o' := .cells (ivZ (vz v (m - n))) 25)) (by kernel_rfl) (by kernel_rfl) ?_
    (refine S_run rfl rfl ?_; apply Exists.intro; refine ⟨fun _ => ?_, ?_⟩; (focus (go_simp; (try go_bits); exact rfl)); simp only [Act.put, List.setIfInBounds_toArray, List.set_cons_succ, List.set_cons_zero])
    (refine S_load (t := 4) rfl rfl rfl rfl ?_; refine ⟨_, fun _ hS' => run_load_cell hS' _ _ rfl _ _ rfl _ _ (.inl (.tail _ (.tail _ (.head _)))) _ Try.underlying4 rfl _ (iv_neg _ _), ?_⟩; simp only [Act.put, List.setIfInBounds_toArray, List.set_cons_succ, List.set_cons_zero])
    (refine S_run rfl rfl ?_; apply Exists.intro; refine ⟨fun _ => ?_, ?_⟩; (focus (go_simp; (try go_bits); exact rfl)); simp only [Act.put, List.setIfInBounds_toArray, List.set_cons_succ, List.set_cons_zero])
    (refine S_load (t := 23) rfl rfl rfl rfl ?_; refine ⟨_, fun _ hS' => run_load_mid hS' _ _ rfl _ _ rfl _ _ (.inl (.tail _ (.tail _ (.head _)))) _ Try.underlying23 rfl (mgk 32 _) (size23_mg _) (fun k _ => iv_mag _ _ k), ?_⟩; simp only [Act.put, List.setIfInBounds_toArray, List.set_cons_succ, List.set_cons_zero])
    (refine S_run rfl rfl ?_; apply Exists.intro; refine ⟨fun _ => ?_, ?_⟩; (focus (go_simp; (try go_bits); exact rfl)); simp only [Act.put, List.setIfInBounds_toArray, List.set_cons_succ, List.set_cons_zero])
    (refine S_load (t := 23) rfl rfl rfl rfl ?_; refine ⟨_, fun _ hS' => run_load_mid hS' _ _ rfl _ _ rfl _ _ (.inl (.tail _ (.head _))) _ Try.underlying23 rfl (mgk 32 _) (size23_mg _) (fun k _ => iv_mag _ _ k), ?_⟩; simp only [Act.put, List.setIfInBounds_toArray, List.set_cons_succ, List.set_cons_zero])
    (refine S_call 60 rfl rfl rfl rfl ?_; apply Exists.intro; refine ⟨fun _ => ?_, ?_⟩; (focus (go_simp; exact rfl)); apply Exists.intro; (with_reducible refine ⟨rdiff _ _ HM.out HE.out, ?_⟩); simp only [Act.put, List.setIfInBounds_toArray, List.set_cons_succ, List.set_cons_zero])
    (refine S_call 29 rfl rfl rfl rfl ?_; apply Exists.intro; refine ⟨fun _ => ?_, ?_⟩; (focus (go_simp; exact rfl)); apply Exists.intro; (with_reducible refine ⟨rcanon _ _ HD.out, ?_⟩); simp only [Act.put, List.setIfInBounds_toArray, List.set_cons_succ, List.set_cons_zero])
    (refine S_store (t := 25) rfl rfl rfl ?_; refine ⟨_, _, _, _, (.head), fun _ hS' => run_store_row hS' _ _ _ rfl _ rfl _ _ rfl _ (.head) (size25_iv _ _) (iv_sizes _ _ _ _) (oneCells_iv _ _), ?_⟩; simp only [Act.put])
    (refine S_run rfl rfl ?_; apply Exists.intro; refine ⟨fun _ => ?_, ?_⟩; (focus (go_simp; (try go_bits); exact rfl)); simp only [Act.put, List.setIfInBounds_toArray, List.set_cons_succ, List.set_cons_zero])
    refine S_nil ?_
    intro wn hS
    go_wp2
    (try simp only [Exit.inBlock, Exit.then]); refine bodyPost_ret (res_cell_tmp rfl _ _ _ (run_loadRow hS _ _ _ _ (.inl (.head _)) _ Try.underlying25 rfl (size25_iv _ _)) rfl _ rfl) rfl ⟨?_, hS.below⟩
    rw [HR.out]; rfl
  · have hle : m ≤ n := by omega
    have HR : Hid (resZ (vz u (n - m)) = _) := resZ_vz (Nat.lt_of_le_of_lt (Nat.sub_le _ _) hn)
    have HD : Hid (n - m < pw 32) := Nat.lt_of_le_of_lt (Nat.sub_le _ _) hn
    have HE := Lib.hid hle
    rw [vz_add_ge huv hle]
    have hc : 0 ≤ cmpv n m := by unfold cmpv; rw [if_neg hlt]; split <;> omega
    clear hn hm hlt hs ht huv hle
    go_enter Try.func28, Try.ntmps28
    go_wp2_with (first | (refine L_box_agg hS rfl rfl ?_; refine ⟨_, rfl, ?_⟩; clear hS; intro _ _ hS) | (refine L_alloc_agg hS rfl rfl ?_; refine ⟨_, zero25, ?_⟩; clear hS; intro _ _ hS))
    (try simp only [Act.put]); (try simp only [List.setIfInBounds_toArray, List.set_cons_succ, List.set_cons_zero]); refine wp_region_u2 hS 10 11 [] (.tail (.tail (.head (o' := .cells (iv u n) 25)))) (.tail (.head (o' := .cells (iv v m) 25))) (by kernel_rfl) (by kernel_rfl) ?_
    (refine S_run rfl rfl ?_; apply Exists.intro; refine ⟨fun _ => ?_, ?_⟩; (focus (go_simp; (try go_bits); exact rfl)); simp only [Act.put, List.setIfInBounds_toArray, List.set_cons_succ, List.set_cons_zero])
    (refine S_load (t := 4) rfl rfl rfl rfl ?_; refine ⟨_, fun _ hS' => run_load_cell hS' _ _ rfl _ _ rfl _ _ (.inl (.tail _ (.tail _ (.head _)))) _ Try.underlying4 rfl _ (iv_neg _ _), ?_⟩; simp only [Act.put, List.setIfInBounds_toArray, List.set_cons_succ, List.set_cons_zero])
    (refine S_run rfl rfl ?_; apply Exists.intro; refine ⟨fun _ => ?_, ?_⟩; (focus (go_simp; (try go_bits); exact rfl)); simp only [Act.put, List.setIfInBounds_toArray, List.set_cons_succ, List.set_cons_zero])
    (refine S_load (t := 23) rfl rfl rfl rfl ?_; refine ⟨_, fun _ hS' => run_load_mid hS' _ _ rfl _ _ rfl _ _ (.inl (.tail _ (.tail _ (.head _)))) _ Try.underlying23 rfl (mgk 32 _) (size23_mg _) (fun k _ => iv_mag _ _ k), ?_⟩; simp only [Act.put, List.setIfInBounds_toArray, List.set_cons_succ, List.set_cons_zero])
    (refine S_call 29 rfl rfl rfl rfl ?_; apply Exists.intro; refine ⟨fun _ => ?_, ?_⟩; (focus (go_simp; exact rfl)); apply Exists.intro; (with_reducible refine ⟨HC1, ?_⟩); simp only [Act.put, List.setIfInBounds_toArray, List.set_cons_succ, List.set_cons_zero])
    (refine S_run rfl rfl ?_; apply Exists.intro; refine ⟨fun _ => ?_, ?_⟩; (focus (go_simp; (try go_bits); exact rfl)); simp only [Act.put, List.setIfInBounds_toArray, List.set_cons_succ, List.set_cons_zero])
    (refine S_load (t := 4) rfl rfl rfl rfl ?_; refine ⟨_, fun _ hS' => run_load_cell hS' _ _ rfl _ _ rfl _ _ (.inl (.tail _ (.head _))) _ Try.underlying4 rfl _ (iv_neg _ _), ?_⟩; simp only [Act.put, List.setIfInBounds_toArray, List.set_cons_succ, List.set_cons_zero])
    (refine S_run rfl rfl ?_; apply Exists.intro; refine ⟨fun _ => ?_, ?_⟩; (focus (go_simp; (try go_bits); exact rfl)); simp only [Act.put, List.setIfInBounds_toArray, List.set_cons_succ, List.set_cons_zero])
    (refine S_load (t := 23) rfl rfl rfl rfl ?_; refine ⟨_, fun _ hS' => run_load_mid hS' _ _ rfl _ _ rfl _ _ (.inl (.tail _ (.head _))) _ Try.underlying23 rfl (mgk 32 _) (size23_mg _) (fun k _ => iv_mag _ _ k), ?_⟩; simp only [Act.put, List.setIfInBounds_toArray, List.set_cons_succ, List.set_cons_zero])
    (refine S_call 29 rfl rfl rfl rfl ?_; apply Exists.intro; refine ⟨fun _ => ?_, ?_⟩; (focus (go_simp; exact rfl)); apply Exists.intro; (with_reducible refine ⟨HC2, ?_⟩); simp only [Act.put, List.setIfInBounds_toArray, List.set_cons_succ, List.set_cons_zero])
    (refine S_store (t := 25) rfl rfl rfl ?_; refine ⟨_, _, _, _, (.tail (.tail .head)), fun _ hS' => run_store_row hS' _ _ _ rfl _ rfl _ _ rfl _ (.tail (.tail .head)) (size25_iv _ _) (iv_sizes _ _ _ _) (oneCells_iv _ _), ?_⟩; simp only [Act.put])
    (refine S_store (t := 25) rfl rfl rfl ?_; refine ⟨_, _, _, _, (.tail .head), fun _ hS' => run_store_row hS' _ _ _ rfl _ rfl _ _ rfl _ (.tail .head) (size25_iv _ _) (iv_sizes _ _ _ _) (oneCells_iv _ _), ?_⟩; simp only [Act.put])
    refine S_end2 ?_; clear hS; intro _ hS
    go_wp2_with (first | (refine L_load (t := 4) rfl rfl ?_; refine ⟨_, run_load_cell hS _ _ rfl _ _ rfl _ _ (.inl (.tail _ (.tail _ (.head _)))) _ Try.underlying4 rfl _ (iv_neg _ _), ?_⟩) | (refine L_load (t := 4) rfl rfl ?_; refine ⟨_, run_load_cell hS _ _ rfl _ _ rfl _ _ (.inl (.tail _ (.head _))) _ Try.underlying4 rfl _ (iv_neg _ _), ?_⟩) | (refine L_load (t := 23) rfl rfl ?_; refine ⟨_, run_load_mid hS _ _ rfl _ _ rfl _ _ (.inl (.tail _ (.tail _ (.head _)))) _ Try.underlying23 rfl (mgk 32 _) (size23_mg _) (fun k _ => iv_mag _ _ k), ?_⟩) | (refine L_load (t := 23) rfl rfl ?_; refine ⟨_, run_load_mid hS _ _ rfl _ _ rfl _ _ (.inl (.tail _ (.head _))) _ Try.underlying23 rfl (mgk 32 _) (size23_mg _) (fun k _ => iv_mag _ _ k), ?_⟩) | (go_at_call 59; (with_reducible refine Gives.use (rcompare _ _ HN.out HM.out) hS ?_); clear hS; intro _ hS))
    (try simp only [Act.put]); (try simp only [List.setIfInBounds_toArray, List.set_cons_succ, List.set_cons_zero]); refine wp_region_u1 hS 8 [] (.head (o' := .cells (ivZ (vz u (n - m))) 25)) (by kernel_rfl) (by kernel_rfl) ?_
    (refine S_run rfl rfl ?_; apply Exists.intro; refine ⟨fun _ => ?_, ?_⟩; (focus (go_simp; (try go_bits); exact rfl)); simp only [Act.put, List.setIfInBounds_toArray, List.set_cons_succ, List.set_cons_zero])
    (refine S_load (t := 4) rfl rfl rfl rfl ?_; refine ⟨_, fun _ hS' => run_load_cell hS' _ _ rfl _ _ rfl _ _ (.inl (.tail _ (.tail _ (.head _)))) _ Try.underlying4 rfl _ (iv_neg _ _), ?_⟩; simp only [Act.put, List.setIfInBounds_toArray, List.set_cons_succ, List.set_cons_zero])
    (refine S_run rfl rfl ?_; apply Exists.intro; refine ⟨fun _ => ?_, ?_⟩; (focus (go_simp; (try go_bits); exact rfl)); simp only [Act.put, List.setIfInBounds_toArray, List.set_cons_succ, List.set_cons_zero])
    (refine S_load (t := 23) rfl rfl rfl rfl ?_; refine ⟨_, fun _ hS' => run_load_mid hS' _ _ rfl _ _ rfl _ _ (.inl (.tail _ (.tail _ (.head _)))) _ Try.underlying23 rfl (mgk 32 _) (size23_mg _) (fun k _ => iv_mag _ _ k), ?_⟩; simp only [Act.put, List.setIfInBounds_toArray, List.set_cons_succ, List.set_cons_zero])
    (refine S_run rfl rfl ?_; apply Exists.intro; refine ⟨fun _ => ?_, ?_⟩; (focus (go_simp; (try go_bits); exact rfl)); simp only [Act.put, List.setIfInBounds_toArray, List.set_cons_succ, List.set_cons_zero])
    (refine S_load (t := 23) rfl rfl rfl rfl ?_; refine ⟨_, fun _ hS' => run_load_mid hS' _ _ rfl _ _ rfl _ _ (.inl (.tail _ (.head _))) _ Try.underlying23 rfl (mgk 32 _) (size23_mg _) (fun k _ => iv_mag _ _ k), ?_⟩; simp only [Act.put, List.setIfInBounds_toArray, List.set_cons_succ, List.set_cons_zero])
    (refine S_call 60 rfl rfl rfl rfl ?_; apply Exists.intro; refine ⟨fun _ => ?_, ?_⟩; (focus (go_simp; exact rfl)); apply Exists.intro; (with_reducible refine ⟨rdiff _ _ HN.out HE.out, ?_⟩); simp only [Act.put, List.setIfInBounds_toArray, List.set_cons_succ, List.set_cons_zero])
    (refine S_call 29 rfl rfl rfl rfl ?_; apply Exists.intro; refine ⟨fun _ => ?_, ?_⟩; (focus (go_simp; exact rfl)); apply Exists.intro; (with_reducible refine ⟨rcanon _ _ HD.out, ?_⟩); simp only [Act.put, List.setIfInBounds_toArray, List.set_cons_succ, List.set_cons_zero])
    (refine S_store (t := 25) rfl rfl rfl ?_; refine ⟨_, _, _, _, (.head), fun _ hS' => run_store_row hS' _ _ _ rfl _ rfl _ _ rfl _ (.head) (size25_iv _ _) (iv_sizes _ _ _ _) (oneCells_iv _ _), ?_⟩; simp only [Act.put])
    (refine S_run rfl rfl ?_; apply Exists.intro; refine ⟨fun _ => ?_, ?_⟩; (focus (go_simp; (try go_bits); exact rfl)); simp only [Act.put, List.setIfInBounds_toArray, List.set_cons_succ, List.set_cons_zero])
    refine S_nil ?_
    intro wn hS
    go_wp2
    (try simp only [Exit.inBlock, Exit.then]); refine bodyPost_ret (res_cell_tmp rfl _ _ _ (run_loadRow hS _ _ _ _ (.inl (.head _)) _ Try.underlying25 rfl (size25_iv _ _)) rfl _ rfl) rfl ⟨?_, hS.below⟩
    rw [HR.out]; rfl
theorem radd_any (s t : Bool) (n m : Nat) (hn : n < pw 32) (hm : m < pw 32) : Gives Try.prog 28 #[.agg (iv s n), .agg (iv t m)] (resZ (vz s n + vz t m)) := by
  have h : Gives Try.prog 28 #[.agg (iv s n), .agg (iv t m)] (resZ (vz (s && !isz n) n + vz (t && !isz m) m)) := by
    by_cases h : (s && !isz n) = (t && !isz m)
    · rw [h]; exact radd_same s t _ n m hn hm h rfl
    · exact radd_other s t _ _ n m hn hm rfl rfl h
  rwa [vz_canon, vz_canon] at h
end Go.Proofs.Ytlccefdjhiedcaa
end
section
namespace Go.Proofs.Ytlccefdjhiedcaa
open Go.RowKit

def Tk (Lv : Value) (k : Nat) : Array Value := #[Lv, .int .i64 ((k : Nat) : Int)]
def Slc (r : List (Nat × Obj)) (Lv : Value) : Prop :=
  ∃ a len cap, Lv = .slice a len cap ∧ len ≤ 9223372036854775807 ∧ ∀ i, i < len → ∃ bl off cs T fz z, a = some ⟨bl, off, none⟩ ∧ (bl, Obj.cells cs T fz) ∈ r ∧ cs[off + i]? = some (.int .i64 z) ∧ -9223372036854775808 ≤ z ∧ z ≤ 9223372036854775807
theorem Slc.more {r r' : List (Nat × Obj)} {Lv : Value} (h : Slc r Lv) (hr : ∀ x ∈ r, x ∈ r') : Slc r' Lv := by
  obtain ⟨a, len, cap, h1, h2, h3⟩ := h
  refine ⟨a, len, cap, h1, h2, fun i hi => ?_⟩
  obtain ⟨bl, off, cs, T, fz, z, h4, h5, h6⟩ := h3 i hi
  exact ⟨bl, off, cs, T, fz, z, h4, hr _ h5, h6⟩

def Draws {α : Type} (P : Program) (f : FuncId) (args : Array Value) (b d : Nat) (ro : List (Nat × Obj)) (V : α → Value) (p : α → Prop) : Prop :=
  ∀ w r Lv k, w.heap[b]? = some (.cells (Tk Lv k) 36) → (∀ x ∈ r, w.heap[x.1]? = some x.2 ∧ x.1 ≠ b) → (∀ x ∈ ro, x ∈ r) → Slc r Lv → k + d ≤ 1152921504606846976 →
    Calls P f args w fun e w' => ∃ x k' l, e = .returned (V x) ∧ p x ∧ k ≤ k' ∧ k' ≤ k + d ∧ St (some b) w w' r l ∧ (b, Obj.cells (Tk Lv k') 36) ∈ l

variable {c : Option Nat} {w0 w w' : World} {r l l' : List (Nat × Obj)} {P : Program}

theorem St.but (h : St c w0 w r l) {b : Nat} {o o' : Obj} (hu : Upd l b o o' l') {r2 l2 : List (Nat × Obj)} (h2 : St (some b) w w' r2 l2) (hm : (b, o') ∈ l2) : St c w0 w' r l' := by
  have hown := (h.own _ hu.mem).1
  have hbw := h.lt hu.mem
  have hk : ∀ k, k < w.heap.size → k ≠ b → w'.heap[k]? = w.heap[k]? := fun k hk hne => h2.block k hk (fun e => hne (Option.some.inj e).symm)
  refine ⟨h2.os.trans h.os, h2.tape.trans h.tape, h2.output.trans h.output, Nat.le_trans h.size h2.size, fun k hk' hc => ?_, fun x hx => ?_, fun x hx => ?_, ?_⟩
  · rw [hk k (Nat.lt_of_lt_of_le hk' h.size) (fun e => by
      subst e
      rcases hown with hown | hown
      · simp only at hown; omega
      · exact hc hown)]
    exact h.block k hk' hc
  · refine ⟨(h.ro x hx).1, (h.ro x hx).2.1, ?_⟩
    rw [hk x.1 (Nat.lt_of_lt_of_le (h.ro x hx).1 h.size) (fun e => by
      have h1 := (h.ro x hx).1; have h2 := (h.ro x hx).2.1; rw [e] at h1 h2
      rcases hown with hown | hown
      · simp only at hown; omega
      · exact h2 hown)]
    exact (h.ro x hx).2.2
  · rcases hu.of_mem h.apart x hx with rfl | ⟨hx, hne⟩
    · exact ⟨hown, (h2.own _ hm).2⟩
    · exact ⟨(h.own x hx).1, by rw [hk x.1 (h.lt hx) hne]; exact (h.own x hx).2⟩
  · rw [pairwise_ids, hu.ids, ← pairwise_ids]; exact h.apart

theorem Draws.use {α : Type} {f : FuncId} {args : Array Value} {b d : Nat} {ro : List (Nat × Obj)} {V : α → Value} {p : α → Prop} (hg : Draws P f args b d ro V p) (h : St c w0 w r l) {Lv : Value} {k : Nat} {L : Nat → List (Nat × Obj)}
    (hro : ∀ x ∈ ro, x ∈ l ∧ x.1 ≠ b) (hs : Slc r Lv) (hk : k + d ≤ 1152921504606846976) (hu : ∀ k', Upd l b (.cells (Tk Lv k) 36) (.cells (Tk Lv k') 36) (L k')) {R : Ending → World → Prop}
    (hR : ∀ x k' w', p x → k ≤ k' → k' ≤ k + d → St c w0 w' r (L k') → R (.returned (V x)) w') : Calls P f args w R := by
  have hb := h.own _ (hu k).mem
  refine (hg w (ro ++ r) Lv k hb.2 (fun x hx => ?_) (fun x hx => List.mem_append_left _ hx) (hs.more fun x hx => List.mem_append_right _ hx) hk).mono fun e w' he => ?_
  · rcases List.mem_append.1 hx with hx | hx
    · exact ⟨(h.own _ (hro x hx).1).2, (hro x hx).2⟩
    · refine ⟨(h.ro x hx).2.2, fun e => ?_⟩
      have h1 := (h.ro x hx).1
      have h2 := (h.ro x hx).2.1
      rw [e] at h1 h2
      rcases hb.1 with hb | hb
      · simp only at hb; omega
      · exact h2 hb
  · obtain ⟨x, k', l2, rfl, hp, h1, h2, h3, h4⟩ := he
    exact hR x k' w' hp h1 h2 (h.but (hu k') h3 h4)

theorem Draws.of {α : Type} {f : FuncId} {args : Array Value} {b d : Nat} {ro : List (Nat × Obj)} {V : α → Value} {p : α → Prop}
    (h : ∀ w r Lv k, St (some b) w w r [(b, .cells (Tk Lv k) 36)] → (∀ x ∈ ro, x ∈ r) → Slc r Lv → k + d ≤ 1152921504606846976 →
      Calls P f args w fun e w' => ∃ x k' l, e = .returned (V x) ∧ p x ∧ k ≤ k' ∧ k' ≤ k + d ∧ St (some b) w w' r l ∧ (b, Obj.cells (Tk Lv k') 36) ∈ l) : Draws P f args b d ro V p :=
  fun w r Lv k hb hr hro hs hk => h w r Lv k (St.start_may w b _ hb r hr) hro hs hk

def foldv (v n : Int) : Int := if n ≤ 1 then 0 else v % n
theorem foldv_range {v n : Int} (h : 1 ≤ n) : 0 ≤ foldv v n ∧ foldv v n < n := by
  unfold foldv
  split
  · omega
  · exact ⟨Int.emod_nonneg _ (by omega), Int.emod_lt_of_pos _ (by omega)⟩
end Go.Proofs.Ytlccefdjhiedcaa
end
section
namespace Go.Proofs.Ytlccefdjhiedcaa
open Go.RowKit
set_option linter.unusedVariables false

def ints (zs : List Int) : Array Value := (zs.map fun z => Value.int .i64 z).toArray
theorem ints_get {zs : List Int} {j : Nat} (h : j < zs.length) : (ints zs)[j]? = some (.int .i64 zs[j]) := by simp [ints, h]
theorem ints_at_int {zs : List Int} {n : Nat} {x : Int} (hz : zs.length = n) (hx : 0 ≤ x ∧ x < ((n : Nat) : Int)) : (ints zs)[x.toNat]? = some (.int .i64 (zs.getD x.toNat 0)) := by
  have : x.toNat < zs.length := by omega
  rw [ints_get this, List.getD_eq_getElem?_getD, List.getElem?_eq_getElem this]; rfl
end Go.Proofs.Ytlccefdjhiedcaa
end
section
namespace Go.Proofs.Ytlccefdjhiedcaa
open Go.RowKit
variable {P : Program} {c : Option Nat} {w0 w w' : World} {r l : List (Nat × Obj)} {Q : Exit → Act → World → Prop}

theorem St.drop {x : Nat × Obj} (h : St c w0 w r (x :: l)) : St c w0 w r l :=
  ⟨h.os, h.tape, h.output, h.size, h.block, h.ro, fun y hy => h.own y (.tail _ hy), (List.pairwise_cons.1 h.apart).2⟩
theorem St.swap {x y : Nat × Obj} (h : St c w0 w r (x :: y :: l)) : St c w0 w r (y :: x :: l) := by
  refine ⟨h.os, h.tape, h.output, h.size, h.block, h.ro, fun z hz => h.own z ?_, ?_⟩
  · rcases List.mem_cons.1 hz with rfl | hz
    · exact .tail _ (.head _)
    · rcases List.mem_cons.1 hz with rfl | hz
      · exact .head _
      · exact .tail _ (.tail _ hz)
  · have h1 := List.pairwise_cons.1 h.apart
    have h2 := List.pairwise_cons.1 h1.2
    refine List.pairwise_cons.2 ⟨fun z hz => ?_, List.pairwise_cons.2 ⟨fun z hz => h1.1 z (.tail _ hz), h2.2⟩⟩
    rcases List.mem_cons.1 hz with rfl | hz
    · exact fun e => h1.1 y (.head _) e.symm
    · exact h2.1 z hz

def wpHd (P : Program) (ops : Array Oper) (S : World → Prop) (K : Act → Prop) : List Oper → Act → Prop
  | [], a => K a
  | o :: rest, a => ∃ v, YieldsIf P ops S o v a ∧ wpHd P ops S K rest (a.put o.dst v)

theorem wpHd_cons {ops : Array Oper} {S : World → Prop} {K : Act → Prop} {o : Oper} {rest : List Oper} {a : Act} (h : ∃ v, YieldsIf P ops S o v a ∧ wpHd P ops S K rest (a.put o.dst v)) : wpHd P ops S K (o :: rest) a := h

def okHd (md : Region.Mode) (ops : Array Oper) : Nat → Nat → Array Bool → Bool
  | 0, k, listed => decide (Region.ready md ops listed = [k, k + 1]) && decide (Region.ready md ops (listed.setIfInBounds k true) = [k + 1]) && decide (Region.ready md ops (listed.setIfInBounds (k + 1) true) = [k]) &&
      decide (Region.ready md ops ((listed.setIfInBounds k true).setIfInBounds (k + 1) true) = [k + 2]) &&
      decide (Region.ready md ops (((listed.setIfInBounds k true).setIfInBounds (k + 1) true).setIfInBounds (k + 2) true) = [k + 3]) &&
      decide (Region.ready md ops ((((listed.setIfInBounds k true).setIfInBounds (k + 1) true).setIfInBounds (k + 2) true).setIfInBounds (k + 3) true) = [])
  | n + 1, k, listed => (Region.ready md ops listed).contains k && Region.free md ops listed k && okHd md ops n (k + 1) (listed.setIfInBounds k true)

structure New (P : Program) (c : Option Nat) (w0 : World) (r l : List (Nat × Obj)) (Q : Exit → Act → World → Prop) (o1 o2 o3 o4 : Oper) (t1 t2 : TypeId) (z1 z2 cs1 cs2 : Array Value) (a : Act) : Prop where
  g1 : o1.guard = none
  g2 : o2.guard = none
  g3 : o3.guard = none
  g4 : o4.guard = none
  op1 : o1.op = .alloc t1
  op2 : o2.op = .alloc t2
  zero1 : (P.info? t1).map (·.zero) = some (some (.agg z1))
  zero2 : (P.info? t2).map (·.zero) = some (some (.agg z2))
  comm : ∀ v1 v2, (a.put o2.dst v2).put o1.dst v1 = (a.put o1.dst v1).put o2.dst v2
  run3 : ∀ b1 b2 w, St c w0 w r ((b2, .cells z2 t2) :: (b1, .cells z1 t1) :: l) → (execOp ((a.put o1.dst (.pointer (some ⟨b1, 0, none⟩))).put o2.dst (.pointer (some ⟨b2, 0, none⟩))).eval o3).run P w = .ok .skip (w.setRow b1 cs1)
  run4 : ∀ b1 b2 w, St c w0 w r ((b2, .cells z2 t2) :: (b1, .cells cs1 t1) :: l) → (execOp (((a.put o1.dst (.pointer (some ⟨b1, 0, none⟩))).put o2.dst (.pointer (some ⟨b2, 0, none⟩))).put o3.dst undef).eval o4).run P w = .ok .skip (w.setRow b2 cs2)
  rest : ∀ b1 b2 w, St c w0 w r ((b2, .cells cs2 t2) :: (b1, .cells cs1 t1) :: l) → Q .normal ((((a.put o1.dst (.pointer (some ⟨b1, 0, none⟩))).put o2.dst (.pointer (some ⟨b2, 0, none⟩))).put o3.dst undef).put o4.dst undef) w

theorem run_alloc_op {o : Oper} {a : Act} (w : World) (t : TypeId) (ho : o.op = .alloc t) (z : Array Value) (hz : (P.info? t).map (·.zero) = some (some (.agg z))) :
    (execOp a.eval o).run P w = .ok (.value (.pointer (some ⟨w.heap.size, 0, none⟩))) (w.alloc (.cells z t)) := by
  have hzv : ∀ w, (zeroValue t).run P w = .ok (.agg z) w := by
    intro w
    cases hq : P.info? t with
    | none => simp [hq] at hz
    | some i => simp [hq] at hz; simp [zeroValue, typeInfo, hq, hz]
  unfold execOp
  simp only [ho, Instr.alloc, newVar, Value.cells, Sem.run_bind, Sem.run_pure, run_alloc_row, Result.andThen_ok, hzv]

theorem wpOp_value {ops : Array Oper} {i : Nat} {o : Oper} {a : Act} {K : Act → World → Prop} {v : Value} (hi : ops[i]? = some o) (hg : o.guard = none) (hrun : (execOp a.eval o).run P w = .ok (.value v) w') (h : K (a.put o.dst v) w') : wpOp P ops Q i K a w := by
  unfold wpOp
  simp only [hi]
  rw [if_pos (by simp [Region.wanted, hg])]
  refine .inl ?_
  unfold Oper.wp
  rw [hrun]
  exact h
theorem wpOp_skip {ops : Array Oper} {i : Nat} {o : Oper} {a : Act} {K : Act → World → Prop} (hi : ops[i]? = some o) (hg : o.guard = none) (hrun : (execOp a.eval o).run P w = .ok .skip w') (h : K (a.put o.dst undef) w') : wpOp P ops Q i K a w := by
  unfold wpOp
  simp only [hi]
  rw [if_pos (by simp [Region.wanted, hg])]
  refine .inl ?_
  unfold Oper.wp
  rw [hrun]
  exact h

theorem wpAnyH_one {ops : Array Oper} {md : Region.Mode} {S : World → Prop} {i f : Nat} {listed : Array Bool} {a : Act} (hr : Region.ready md ops listed = [i])
    (h : wpOp P ops Q i (fun a' w' => S w' ∧ wpAnyH P md ops Q S f (listed.setIfInBounds i true) a' w') a w) : wpAnyH P md ops Q S (f + 1) listed a w :=
  wpAnyH_all hr (by simp) fun j hj => by
    have : j = i := by simpa using hj
    subst this; exact h

theorem wpAnyH_new {ops : Array Oper} {md : Region.Mode} {k : Nat} {o1 o2 o3 o4 : Oper} {t1 t2 : TypeId} {z1 z2 cs1 cs2 : Array Value} (h1 : ops[k]? = some o1) (h2 : ops[k + 1]? = some o2) (h3 : ops[k + 2]? = some o3) (h4 : ops[k + 3]? = some o4)
    {listed : Array Bool} {a : Act} (hS : St c w0 w r l) (hB : okHd md ops 0 k listed = true) (hN : New P c w0 r l Q o1 o2 o3 o4 t1 t2 z1 z2 cs1 cs2 a) : wpAnyH P md ops Q (fun w => St c w0 w r l) 4 listed a w := by
  simp only [okHd, Bool.and_eq_true, decide_eq_true_eq] at hB
  obtain ⟨⟨⟨⟨⟨r0, r1⟩, r2⟩, r3⟩, r4⟩, r5⟩ := hB
  -- behind both allocations
  have fin : ∀ b1 b2 w, St c w0 w r ((b2, .cells z2 t2) :: (b1, .cells z1 t1) :: l) →
      wpAnyH P md ops Q (fun w => St c w0 w r l) 2 ((listed.setIfInBounds k true).setIfInBounds (k + 1) true) ((a.put o1.dst (.pointer (some ⟨b1, 0, none⟩))).put o2.dst (.pointer (some ⟨b2, 0, none⟩))) w := fun b1 b2 w hS2 => by
    refine wpAnyH_one r3 (wpOp_skip h3 hN.g3 (hN.run3 b1 b2 w hS2) ?_)
    have hS3 := hS2.setRow (cs' := cs1) (.tail .head)
    refine ⟨hS3.drop.drop, wpAnyH_one r4 (wpOp_skip h4 hN.g4 (hN.run4 b1 b2 _ hS3) ?_)⟩
    have hS4 := hS3.setRow (cs' := cs2) .head
    exact ⟨hS4.drop.drop, wpAnyH_done r5 (hN.rest b1 b2 _ hS4) _⟩
  refine wpAnyH_all r0 (by simp) fun i hi => ?_
  have hi' : i = k ∨ i = k + 1 := by simpa using hi
  rcases hi' with rfl | rfl
  · refine wpOp_value h1 hN.g1 (run_alloc_op w t1 hN.op1 z1 hN.zero1) ?_
    have hS1 := hS.alloc (.cells z1 t1)
    refine ⟨hS1.drop, wpAnyH_one r1 (wpOp_value h2 hN.g2 (run_alloc_op _ t2 hN.op2 z2 hN.zero2) ?_)⟩
    have hS2 := hS1.alloc (.cells z2 t2)
    exact ⟨hS2.drop.drop, fin _ _ _ hS2⟩
  · refine wpOp_value h2 hN.g2 (run_alloc_op w t2 hN.op2 z2 hN.zero2) ?_
    have hS1 := hS.alloc (.cells z2 t2)
    refine ⟨hS1.drop, wpAnyH_one r2 (wpOp_value h1 hN.g1 (run_alloc_op _ t1 hN.op1 z1 hN.zero1) ?_)⟩
    have hS2 := hS1.alloc (.cells z1 t1)
    rw [hN.comm, Array.setIfInBounds_comm _ _ (by omega)]
    exact ⟨hS2.drop.drop, fin _ _ _ hS2.swap⟩

theorem wpAnyH_hd {ops : Array Oper} {o1 o2 o3 o4 : Oper} {t1 t2 : TypeId} {z1 z2 cs1 cs2 : Array Value} (hsel : Region.noSelect ops = true) (hQ : ∀ ch d v a w, Q (.panic ch) (a.put d v) w → Q (.panic ch) a w) :
    ∀ (hd : List Oper) (k : Nat) (listed : Array Bool) (a : Act) (w : World), (∀ j, j < hd.length → hd[j]? = ops[k + j]?) → ops[k + hd.length]? = some o1 → ops[k + hd.length + 1]? = some o2 → ops[k + hd.length + 2]? = some o3 → ops[k + hd.length + 3]? = some o4 →
    okHd .any ops hd.length k listed = true → St c w0 w r l → wpHd P ops (fun w => St c w0 w r l) (New P c w0 r l Q o1 o2 o3 o4 t1 t2 z1 z2 cs1 cs2) hd a →
    wpAnyH P .any ops Q (fun w => St c w0 w r l) (hd.length + 4) listed a w
  | [], k, listed, a, w, _, h1, h2, h3, h4, hB, hS, h => wpAnyH_new h1 h2 h3 h4 hS hB h
  | o :: hd, k, listed, a, w, hl, h1, h2, h3, h4, hB, hS, ⟨v, hy, h⟩ => by
    have h0 : ops[k]? = some o := by simpa using (hl 0 (by simp)).symm
    simp only [List.length_cons, okHd, Bool.and_eq_true] at hB
    obtain ⟨⟨hr, hf⟩, hB⟩ := hB
    have e : k + (o :: hd).length = k + 1 + hd.length := by simp only [List.length_cons]; omega
    rw [e] at h1 h2 h3 h4
    rw [show (o :: hd).length + 4 = hd.length + 4 + 1 by simp only [List.length_cons]]
    exact wpAnyH_take h0 hsel hf hr (fun _ _ _ => hQ _ _ _ _ _) hy hS
      (wpAnyH_hd hsel hQ hd (k + 1) _ _ w (fun j hj => by have := hl (j + 1) (by simp [hj]); simpa [Nat.add_assoc, Nat.add_comm 1 j] using this) h1 h2 h3 h4 hB hS h)

theorem wp_region_2new {id : Nat} {a : Act} {hd : List Oper} {o1 o2 o3 o4 : Oper} (t1 t2 : TypeId) (z1 z2 cs1 cs2 : Array Value) (hS : St c w0 w r l) (hm : P.follows .mixedOrders = true) (hsel : Region.noSelect (hd ++ [o1, o2, o3, o4]).toArray = true)
    (hQ : ∀ ch d v a w, Q (.panic ch) (a.put d v) w → Q (.panic ch) a w) (hB : okHd .any (hd ++ [o1, o2, o3, o4]).toArray hd.length 0 (Array.replicate (hd ++ [o1, o2, o3, o4]).toArray.size false) = true)
    (h : wpHd P (hd ++ [o1, o2, o3, o4]).toArray (fun w => St c w0 w r l) (New P c w0 r l Q o1 o2 o3 o4 t1 t2 z1 z2 cs1 cs2) hd a) : (Code.region id (hd ++ [o1, o2, o3, o4]).toArray true).wp P Q a w := by
  refine wp_region_held (S := fun w => St c w0 w r l) hm ?_
  have := wpAnyH_hd (Q := Q) hsel hQ hd 0 (Array.replicate (hd ++ [o1, o2, o3, o4]).toArray.size false) a w.drew (fun j hj => by rw [Nat.zero_add, List.getElem?_toArray]; exact (List.getElem?_append_left hj).symm) (by simp) (by simp) (by simp) (by simp) hB hS.drew h
  simpa using this
end Go.Proofs.Ytlccefdjhiedcaa
end
section
namespace Go.Proofs.Ytlccefdjhiedcaa
open Go.RowKit
set_option maxRecDepth 10000 in
set_option maxHeartbeats 1000000 in
theorem gcd_of (L : Nat) (s t : Bool) (n m : Nat) (hn : n < pw 32) (hm : m < pw 32) (hL : m < L) (G : ∀ x y, x < pw 32 → y < pw 32 → 0 < y → y < L → DivGives x y) :
    Gives Try.prog 35 #[.agg (iv s n), .agg (iv t m)] (.agg (ivZ ((Nat.gcd n m : Nat) : Int))) := by
  intro w
  have hS := St.start w
  have HB : Hid (n < pw 32 ∧ m < pw 32 ∧ m < L) := ⟨hn, hm, hL⟩
  have HG := Lib.hid G
  clear hn hm hL G
  go_enter Try.func35, Try.ntmps35
  go_wp2_with (first | (refine L_box_agg (o := ⟨some 2, _, _, _, _, _⟩) hS rfl rfl ?_; refine ⟨_, rfl, ?_⟩; clear hS; intro b2 _ hS) | (refine L_box_agg (o := ⟨some 3, _, _, _, _, _⟩) hS rfl rfl ?_; refine ⟨_, rfl, ?_⟩; clear hS; intro b3 _ hS) | (refine L_alloc_agg (o := ⟨some 4, _, _, _, _, _⟩) hS rfl rfl ?_; refine ⟨_, zero25, ?_⟩; clear hS; intro b4 _ hS))
  (try simp only [Act.put]); (try simp only [List.setIfInBounds_toArray, List.set_cons_succ, List.set_cons_zero]); refine wp_region_2new (hd := [_, _, _, _]) 54 54 (mgk 32 0) (mgk 32 0) (mgk 32 n) (mgk 32 m) hS (by kernel_rfl) (by kernel_rfl) (fun _ d _ _ _ h => (by cases d <;> exact h)) (by kernel_rfl) ?_
  (refine wpHd_cons ?_; apply Exists.intro; refine ⟨.inl ⟨rfl, fun _ _ => ?_⟩, ?_⟩; (focus (go_simp; (try go_bits); exact rfl)); simp only [Act.put, List.setIfInBounds_toArray, List.set_cons_succ, List.set_cons_zero])
  (refine wpHd_cons ⟨_, .inl ⟨rfl, fun _ hS' => run_load_mid hS' 23 _ rfl _ _ rfl _ _ (.inl (.tail _ (.tail _ (.head _)))) _ Try.underlying23 rfl (mgk 32 _) (size23_mg _) (fun k _ => iv_mag _ _ k)⟩, ?_⟩; simp only [Act.put, List.setIfInBounds_toArray, List.set_cons_succ, List.set_cons_zero])
  (refine wpHd_cons ?_; apply Exists.intro; refine ⟨.inl ⟨rfl, fun _ _ => ?_⟩, ?_⟩; (focus (go_simp; (try go_bits); exact rfl)); simp only [Act.put, List.setIfInBounds_toArray, List.set_cons_succ, List.set_cons_zero])
  (refine wpHd_cons ⟨_, .inl ⟨rfl, fun _ hS' => run_load_mid hS' 23 _ rfl _ _ rfl _ _ (.inl (.tail _ (.head _))) _ Try.underlying23 rfl (mgk 32 _) (size23_mg _) (fun k _ => iv_mag _ _ k)⟩, ?_⟩; simp only [Act.put, List.setIfInBounds_toArray, List.set_cons_succ, List.set_cons_zero])
  refine ⟨rfl, rfl, rfl, rfl, rfl, rfl, zero54, zero54, fun _ _ => rfl, fun _ _ _ hS' => run_store_row hS' 54 _ _ rfl _ rfl _ _ rfl _ (.tail .head) (size54_mg _) (mg_sizes _ _ _) (oneCells _ _), fun _ _ _ hS' => run_store_row hS' 54 _ _ rfl _ rfl _ _ rfl _ .head (size54_mg _) (mg_sizes _ _ _) (oneCells _ _), ?_⟩; clear hS
  intro b5 b6 w1 hS
  simp only [Act.put, List.setIfInBounds_toArray, List.set_cons_succ, List.set_cons_zero]
  go_wp2_with (fail)
  go_loopg [15] m (fun k _ wr => ∃ x y : Nat, y ≤ k ∧ Hid (x < pw 32 ∧ y < pw 32 ∧ y < L) ∧ Hid (Nat.gcd x y = Nat.gcd n m) ∧ St none w wr [] [(b6, .cells (mgk 32 y) 54), (b5, .cells (mgk 32 x) 54), (b4, .cells (iv false 0) 25), (b3, .cells (iv t m) 25), (b2, .cells (iv s n) 25)])
  case atStart => exact ⟨n, m, Nat.le_refl _, HB, rfl, hS⟩
  case round =>
    clear hS
    obtain ⟨x, y, hyk, HX, HE, hS⟩ := hrel
    by_cases hy0 : y = 0
    · have hz := isz_true hy0
      have HR : Hid (x = Nat.gcd n m) := by show x = Nat.gcd n m; rw [← HE.out, hy0, Nat.gcd_zero_right]
      clear hy0
      go_wp2_with (first | (refine L_load (t := 54) rfl rfl ?_; refine ⟨_, run_load_row hS _ _ rfl _ rfl _ _ (.inl (.head _)) _ Try.underlying54 rfl (size54_mg _), ?_⟩) | (refine L_load (t := 54) rfl rfl ?_; refine ⟨_, run_load_row hS _ _ rfl _ rfl _ _ (.inl (.tail _ (.head _))) _ Try.underlying54 rfl (size54_mg _), ?_⟩) | (go_at_call 30; (with_reducible refine Gives.use (isZero _ HX.out.2.1) hS ?_); clear hS; intro _ hS) | (go_at_call 25; (with_reducible refine Gives.use (signed_any _ _ HX.out.1) hS ?_); clear hS; intro _ hS) | (refine L_store (t := 25) hS rfl rfl ?_; refine ⟨_, _, _, _, _, (.tail (.tail .head)), run_store_row hS _ _ _ rfl _ rfl _ _ rfl _ (.tail (.tail .head)) (size25_iv _ _) (iv_sizes _ _ _ _) (oneCells_iv _ _), ?_⟩; clear hS; intro _ hS))
      (try simp only [Exit.inBlock, Exit.then]); refine bodyPost_ret (res_cell rfl hS _ _ _ _ (.inl (.tail _ (.tail _ (.head _)))) rfl _ Try.underlying25 rfl (size25_iv _ _)) rfl ⟨?_, hS.below⟩
      rw [← HR.out]; rfl
    · have hz := isz_false hy0
      have GD := HG.out x y HX.out.1 HX.out.2.1 (by omega) HX.out.2.2
      unfold DivGives at GD
      have hlt : x % y < y := Nat.mod_lt _ (by omega)
      have hge : x % y < gk := by omega
      have HX2 : Hid (y < pw 32 ∧ x % y < pw 32 ∧ x % y < L) := ⟨HX.out.2.1, by have := HX.out.2.1; omega, by have := HX.out.2.2; omega⟩
      have HE2 : Hid (Nat.gcd y (x % y) = Nat.gcd n m) := by show Nat.gcd y (x % y) = _; rw [← HE.out, Nat.gcd_comm x y, Nat.gcd_rec y x, Nat.gcd_comm]
      obtain ⟨r, hr⟩ : ∃ r, r = x % y := ⟨_, rfl⟩
      obtain ⟨q, hq⟩ : ∃ q, q = x / y := ⟨_, rfl⟩
      rw [← hr, ← hq] at GD
      rw [← hr] at HX2 HE2 hlt hge
      clear hr hq hy0
      go_wp2_with (first | (refine L_load (t := 54) rfl rfl ?_; refine ⟨_, run_load_row hS _ _ rfl _ rfl _ _ (.inl (.head _)) _ Try.underlying54 rfl (size54_mg _), ?_⟩) | (refine L_load (t := 54) rfl rfl ?_; refine ⟨_, run_load_row hS _ _ rfl _ rfl _ _ (.inl (.tail _ (.head _))) _ Try.underlying54 rfl (size54_mg _), ?_⟩) | (refine L_alloc_agg hS rfl rfl ?_; refine ⟨_, zero54, ?_⟩; clear hS; intro _ _ hS) | (refine L_store (t := 54) hS rfl rfl ?_; refine ⟨_, _, _, _, _, (.tail .head), run_store_row hS _ _ _ rfl _ rfl _ _ rfl _ (.tail .head) (size54_mg _) (mg_sizes _ _ _) (oneCells _ _), ?_⟩; clear hS; intro _ hS) | (refine L_store (t := 54) hS rfl rfl ?_; refine ⟨_, _, _, _, _, (.head), run_store_row hS _ _ _ rfl _ rfl _ _ rfl _ (.head) (size54_mg _) (mg_sizes _ _ _) (oneCells _ _), ?_⟩; clear hS; intro _ hS) | (go_at_call 30; (with_reducible refine Gives.use (isZero _ HX.out.2.1) hS ?_); clear hS; intro _ hS) | (go_at_call 63; (with_reducible refine Gives.use (GD) hS ?_); clear hS; intro _ hS))
      (try simp only [Act.put]); (try simp only [List.setIfInBounds_toArray, List.set_cons_succ, List.set_cons_zero]); refine wp_region_u2 hS 2 3 [1] (.tail (.tail (.tail (.head (o' := .cells (mgk 32 y) 54))))) (.tail (.tail (.head (o' := .cells (mgk 32 r) 54)))) (by kernel_rfl) (by kernel_rfl) ?_
      (refine S_load (t := 54) rfl rfl rfl rfl ?_; refine ⟨_, fun _ hS' => run_load_row hS' _ _ rfl _ rfl _ _ (.inl (.tail _ (.tail _ (.head _)))) _ Try.underlying54 rfl (size54_mg _), ?_⟩; simp only [Act.put, List.setIfInBounds_toArray, List.set_cons_succ, List.set_cons_zero])
      (refine S_float (t := 54) rfl rfl rfl ?_ (by decide); refine ⟨.agg (mgk 32 (r)), fun q _ hq _ hS' => run_load_row hS' _ _ rfl _ rfl (mgk 32 (r)) 54 (by rcases q with _ | _ | _ | q; (focus exact .inl (.head _)); (focus exact .inl (.head _)); (focus exact .inl (.head _)); exact absurd hq (by simp)) _ Try.underlying54 rfl (size54_mg _), ?_⟩; simp only [Act.put, List.setIfInBounds_toArray, List.set_cons_succ, List.set_cons_zero])
      (refine S_store (t := 54) rfl rfl rfl ?_; refine ⟨_, _, _, _, (.tail (.tail (.tail .head))), fun _ hS' => run_store_row hS' _ _ _ rfl _ rfl _ _ rfl _ (.tail (.tail (.tail .head))) (size54_mg _) (mg_sizes _ _ _) (oneCells _ _), ?_⟩; simp only [Act.put])
      (refine S_store (t := 54) rfl rfl rfl ?_; refine ⟨_, _, _, _, (.tail (.tail .head)), fun _ hS' => run_store_row hS' _ _ _ rfl _ rfl _ _ rfl _ (.tail (.tail .head)) (size54_mg _) (mg_sizes _ _ _) (oneCells _ _), ?_⟩; simp only [Act.put])
      refine S_end2 ?_; clear hS; intro _ hS
      go_wp2
      go_roundg r
      case rel => exact ⟨y, r, Nat.le_refl _, HX2, HE2, hS.drop.drop⟩
      case measure => exact hge
end Go.Proofs.Ytlccefdjhiedcaa
end
