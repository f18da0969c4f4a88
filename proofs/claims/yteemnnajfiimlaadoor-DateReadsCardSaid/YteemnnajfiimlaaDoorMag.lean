/- Numbers in limbs of 32 bits: the plain arithmetic, and rows of limbs as values. No program is named here. -/
import GoSem.Core.Value
namespace Go.Proofs.YteemnnajfiimlaaDoor

/-- The weight of limb k. -/
def pw (k : Nat) : Nat := 4294967296 ^ k
theorem pw_zero : pw 0 = 1 := rfl
theorem pw_succ (k : Nat) : pw (k + 1) = pw k * 4294967296 := Nat.pow_succ ..
theorem pw_one : pw 1 = 4294967296 := by rw [pw_succ, pw_zero]
theorem pw_pos (k : Nat) : 0 < pw k := Nat.pow_pos (by omega)
theorem pw_add (a b : Nat) : pw (a + b) = pw a * pw b := Nat.pow_add ..
theorem pw_le {a b : Nat} (h : a ≤ b) : pw a ≤ pw b := Nat.pow_le_pow_right (by omega) h
theorem pw_lt {a b : Nat} (h : a < b) : pw a < pw b := Nat.lt_of_lt_of_le (by rw [pw_succ]; have := pw_pos a; omega) (pw_le (show a + 1 ≤ b from h))

/-- Limb i of n. -/
def limb (n i : Nat) : Nat := n / pw i % 4294967296
theorem limb_lt (n i : Nat) : limb n i < 4294967296 := Nat.mod_lt _ (by omega)
theorem limb_zero (i : Nat) : limb 0 i = 0 := by simp [limb]

/-- From limb i up: one limb more below. -/
theorem div_pw (n i : Nat) : n / pw i = n / pw (i + 1) * 4294967296 + limb n i := by
  unfold limb
  rw [pw_succ, ← Nat.div_div_eq_div_mul]
  have := Nat.div_add_mod (n / pw i) 4294967296
  omega
/-- Below limb i + 1: one limb more above. -/
theorem mod_pw (n i : Nat) : n % pw (i + 1) = n % pw i + limb n i * pw i := by
  unfold limb
  rw [pw_succ, Nat.mod_mul, Nat.mul_comm]
theorem mod_pw_zero (n : Nat) : n % pw 0 = 0 := by rw [pw_zero, Nat.mod_one]
theorem div_pw_zero (n : Nat) : n / pw 0 = n := by rw [pw_zero, Nat.div_one]

theorem limb_of_ge {n i : Nat} (h : n < pw i) : limb n i = 0 := by
  unfold limb; rw [Nat.div_eq_of_lt h]
theorem limb_mod {n k i : Nat} (h : i < k) : limb (n % pw k) i = limb n i := by
  unfold limb
  obtain ⟨d, rfl⟩ : ∃ d, k = i + 1 + d := ⟨k - (i + 1), by omega⟩
  rw [Nat.add_assoc, pw_add, Nat.mod_mul_right_div_self, Nat.add_comm 1 d, pw_succ, Nat.mul_comm (pw d), Nat.mod_mul_right_mod]

theorem limb_split (a lo j i : Nat) (h : lo < pw j) : limb (a * pw j + lo) i = if i < j then limb lo i else limb a (i - j) := by
  by_cases hi : i < j
  · rw [if_pos hi, ← limb_mod (n := a * pw j + lo) hi, ← limb_mod (n := lo) hi]
    congr 1
    rw [Nat.add_comm, Nat.mul_comm, Nat.add_mul_mod_self_left]
  · rw [if_neg hi]
    unfold limb
    obtain ⟨d, rfl⟩ : ∃ d, i = j + d := ⟨i - j, by omega⟩
    rw [pw_add, ← Nat.div_div_eq_div_mul, Nat.add_comm, Nat.add_mul_div_right _ _ (pw_pos j), Nat.div_eq_of_lt h, Nat.zero_add, Nat.add_sub_cancel_left]

theorem limb_small (n : Nat) (h : n < 4294967296) (i : Nat) : limb n i = if i = 0 then n else 0 := by
  by_cases hi : i = 0
  · subst hi; rw [if_pos rfl]; unfold limb; rw [div_pw_zero]; exact Nat.mod_eq_of_lt h
  · rw [if_neg hi]; exact limb_of_ge (Nat.lt_of_lt_of_le h (by rw [← pw_one]; exact pw_le (by omega)))

/-- n with limb j turned to v. -/
def put (n j v : Nat) : Nat := n - limb n j * pw j + v * pw j
theorem put_eq (n j v : Nat) : put n j v = (n / pw (j + 1) * 4294967296 + v) * pw j + n % pw j := by
  have h1 := Nat.div_add_mod n (pw (j + 1))
  rw [mod_pw, pw_succ] at h1
  unfold put
  rw [Nat.add_mul, Nat.mul_assoc, Nat.mul_comm 4294967296 (pw j), pw_succ, Nat.mul_comm (n / _)]
  omega
theorem limb_put (n j v i : Nat) (h : v < 4294967296) : limb (put n j v) i = if i = j then v else limb n i := by
  rw [put_eq, limb_split _ _ _ _ (Nat.mod_lt _ (pw_pos j))]
  by_cases hi : i < j
  · rw [if_pos hi, if_neg (by omega), limb_mod hi]
  · rw [if_neg hi]
    by_cases he : i = j
    · subst he
      rw [if_pos rfl, Nat.sub_self]
      unfold limb
      rw [div_pw_zero]
      omega
    · rw [if_neg he]
      unfold limb
      obtain ⟨d, rfl⟩ : ∃ d, i = j + 1 + d := ⟨i - (j + 1), by omega⟩
      rw [show j + 1 + d - j = 1 + d by omega, pw_add 1 d, pw_one, ← Nat.div_div_eq_div_mul, Nat.add_comm _ v, Nat.add_mul_div_right _ _ (by omega), Nat.div_eq_of_lt h, Nat.zero_add, pw_add (j + 1) d, ← Nat.div_div_eq_div_mul]
theorem put_low {s j : Nat} (v : Nat) (h : s < pw j) : put s j v = s + v * pw j := by
  unfold put; rw [limb_of_ge h]; omega
theorem put_lt {n j v k : Nat} (hn : n < pw k) (hj : j < k) (hv : v < 4294967296) : put n j v < pw k := by
  have hd : n / pw (j + 1) < pw (k - (j + 1)) := by
    rw [Nat.div_lt_iff_lt_mul (pw_pos _), ← pw_add, show k - (j + 1) + (j + 1) = k by omega]; exact hn
  rw [put_eq]
  have h2 : n % pw j < pw j := Nat.mod_lt _ (pw_pos j)
  have h3 : (n / pw (j + 1) * 4294967296 + v + 1) * pw j ≤ pw (k - (j + 1)) * 4294967296 * pw j := Nat.mul_le_mul_right _ (by omega)
  have h4 : pw (k - (j + 1)) * 4294967296 * pw j = pw k := by rw [← pw_succ, ← pw_add]; congr 1; omega
  rw [Nat.add_mul, Nat.one_mul] at h3
  omega
theorem low_lt {s j v : Nat} (h : s < pw j) (hv : v < 4294967296) : s + v * pw j < pw (j + 1) := by
  rw [pw_succ]
  have : (v + 1) * pw j ≤ pw j * 4294967296 := by rw [Nat.mul_comm (pw j)]; exact Nat.mul_le_mul_right _ (by omega)
  rw [Nat.add_mul, Nat.one_mul] at this
  omega

/-- Numbers of k limbs whose limbs agree are one number. -/
theorem mod_ext {n m : Nat} : ∀ k, (∀ i, i < k → limb n i = limb m i) → n % pw k = m % pw k
  | 0, _ => by rw [mod_pw_zero, mod_pw_zero]
  | k + 1, h => by rw [mod_pw, mod_pw, mod_ext k (fun i hi => h i (by omega)), h k (by omega)]
theorem limb_ext {n m k : Nat} (hn : n < pw k) (hm : m < pw k) (h : ∀ i, i < k → limb n i = limb m i) : n = m := by
  have := mod_ext k h
  rwa [Nat.mod_eq_of_lt hn, Nat.mod_eq_of_lt hm] at this

/-- Is it 0? -/
def isz (n : Nat) : Bool := decide (n = 0)
theorem isz_true {n : Nat} (h : n = 0) : isz n = true := decide_eq_true h
theorem isz_false {n : Nat} (h : n ≠ 0) : isz n = false := decide_eq_false h

/-! ### Rows of limbs -/
/-- A limb as a value. -/
def lv (n : Nat) : Value := .int .u32 ((n : Nat) : Int)
/-- The k limbs of n, the least significant first. -/
def mgk (k n : Nat) : Array Value := Array.ofFn (n := k) fun i => lv (limb n i)
theorem mgk_size (k n : Nat) : (mgk k n).size = k := by simp [mgk]
theorem mgk_get {k n j : Nat} (h : j < k) : (mgk k n)[j]? = some (lv (limb n j)) := by
  simp [mgk, h]
theorem mgk_get' {k n j : Nat} (h : j < k) : (mgk k n)[j]? = some (.int .u32 ((limb n j : Nat) : Int)) := mgk_get h
theorem mgk_congr {k n m : Nat} (h : ∀ i, i < k → limb n i = limb m i) : mgk k n = mgk k m := by
  apply Array.ext
  · simp [mgk]
  · intro i h1 h2
    simp only [mgk_size] at h1
    simp [mgk, h i h1]
theorem mgk_put {k j : Nat} (n v : Nat) (hv : v < 4294967296) : (mgk k n).setIfInBounds j (.int .u32 ((v : Nat) : Int)) = mgk k (put n j v) := by
  apply Array.ext
  · simp [mgk]
  · intro i h1 h2
    simp only [Array.size_setIfInBounds, mgk_size] at h1
    rw [Array.getElem_setIfInBounds (by simpa [mgk_size] using h1)]
    simp only [mgk, Array.getElem_ofFn, limb_put n j v i hv]
    split
    · rename_i e; subst e; simp [lv]
    · rename_i e; rw [if_neg (fun h => e h.symm)]
theorem mgk_fill {k j : Nat} (s v : Nat) (hs : s < pw j) (hv : v < 4294967296) : (mgk k s).setIfInBounds j (.int .u32 ((v : Nat) : Int)) = mgk k (s + v * pw j) := by
  rw [mgk_put s v hv, put_low v hs]
theorem mgk_put' {k j : Nat} (n v : Nat) {z : Int} (hz : z = ((v : Nat) : Int)) (hv : v < 4294967296) : (mgk k n).setIfInBounds j (.int .u32 z) = mgk k (put n j v) := by
  rw [hz]; exact mgk_put n v hv
theorem mgk_fill' {k j : Nat} (s v : Nat) {z : Int} (hz : z = ((v : Nat) : Int)) (hs : s < pw j) (hv : v < 4294967296) : (mgk k s).setIfInBounds j (.int .u32 z) = mgk k (s + v * pw j) := by
  rw [hz]; exact mgk_fill s v hs hv
theorem lv_inj {a b : Nat} (h : lv a = lv b) : a = b := by
  unfold lv at h; injection h with _ h; omega
theorem mgk_inj {k n m : Nat} (hn : n < pw k) (hm : m < pw k) (h : mgk k n = mgk k m) : n = m := by
  refine limb_ext hn hm fun i hi => ?_
  have h1 := mgk_get (n := n) hi
  rw [h, mgk_get hi] at h1
  exact (lv_inj (Option.some.inj h1)).symm
theorem mgk_zero (k : Nat) : mgk k 0 = Array.replicate k (.int .u32 0) := by
  apply Array.ext
  · simp [mgk]
  · intro i h1 h2
    simp [mgk, limb_zero, lv]

/-- Whatever row of limbs there is, it is that of one number. -/
theorem exists_mgk : ∀ (k : Nat) (f : Nat → Nat), (∀ i, i < k → f i < 4294967296) → ∃ n, n < pw k ∧ ∀ i, i < k → limb n i = f i
  | 0, _, _ => ⟨0, by rw [pw_zero]; omega, fun i hi => by omega⟩
  | k + 1, f, h => by
    obtain ⟨n, hn, hl⟩ := exists_mgk k f (fun i hi => h i (by omega))
    refine ⟨n + f k * pw k, low_lt hn (h k (by omega)), fun i hi => ?_⟩
    rw [← put_low (f k) hn, limb_put n k _ i (h k (by omega))]
    by_cases he : i = k
    · subst he; rw [if_pos rfl]
    · rw [if_neg he]; exact hl i (by omega)
theorem mgk_of_row (k : Nat) (A : Array Value) (hs : A.size = k) (h : ∀ i, i < k → ∃ x : Nat, x < 4294967296 ∧ A[i]? = some (lv x)) : ∃ n, n < pw k ∧ A = mgk k n := by
  obtain ⟨f, hf⟩ : ∃ f : Nat → Nat, ∀ i, i < k → f i < 4294967296 ∧ A[i]? = some (lv (f i)) :=
    ⟨fun i => if hi : i < k then (h i hi).choose else 0, fun i hi => by simp only [hi, dite_true]; exact (h i hi).choose_spec⟩
  obtain ⟨n, hn, hl⟩ := exists_mgk k f (fun i hi => (hf i hi).1)
  refine ⟨n, hn, ?_⟩
  apply Array.ext_getElem?
  intro i
  by_cases hi : i < k
  · rw [(hf i hi).2, mgk_get hi, hl i hi]
  · rw [Array.getElem?_eq_none (by omega), Array.getElem?_eq_none (by rw [mgk_size]; omega)]

/-! ### Numbers with a sign: the cells of 'Neg bool; Mag [32]uint32' -/
def iv (s : Bool) (n : Nat) : Array Value := #[.bool s] ++ mgk 32 n
theorem iv_size (s : Bool) (n : Nat) : (iv s n).size = 33 := by simp [iv, mgk_size]
theorem iv_neg (s : Bool) (n : Nat) : (iv s n)[0]? = some (.bool s) := by
  unfold iv; rw [Array.getElem?_append_left (by simp)]; rfl
theorem iv_mag (s : Bool) (n : Nat) (k : Nat) : (iv s n)[1 + k]? = (mgk 32 n)[k]? := by
  unfold iv; rw [Array.getElem?_append_right (by simp)]; simp
theorem iv_limb {s : Bool} {n k : Nat} (h : k < 32) : (iv s n)[1 + k]? = some (.int .u32 ((limb n k : Nat) : Int)) := by
  rw [iv_mag]; exact mgk_get h

end Go.Proofs.YteemnnajfiimlaaDoor
