/- Merged: Yq, Yx, Va, Hb, Hc, Hd, Hg, Hi, Sf, Hj, Hm, Ht, Hu, Hv, Hw. -/
import Derived.Test.YtkiefjbfepjcbaaGreatDoorDtf
import Derived.Test.YtkiefjbfepjcbaaGreatDoorProg
import Derived.Test.YtkiefjbfepjcbaaGreatDoorDtc
import Derived.Test.YtkiefjbfepjcbaaGreatDoorDtd
import Derived.Shelf.LaysM
import Derived.Shelf.Strconv.Itoa3
import Derived.Shelf.Strings.Search2
import Derived.Shelf.Bits.Mul64
import Derived.Shelf.Strings.Repeat
import Derived.LaidMore
import Derived.Stop.LaidErr
import Derived.Stop.Joined
import Derived.Lib.IndexLaws
section
namespace Go.Proofs.YtkiefjbfepjcbaaGreatDoor
open Go.RowKit Go.Proofs.YtkiefjbfepjcbaaGreatDoor.Sx
set_option linter.unusedSimpArgs false
set_option linter.unusedVariables false

theorem rv_x0 (s t : Bool) (n m : Nat) : (rv s n t m).extract 0 (0 + 33) = iv s n := by
  apply Array.toList_inj.1
  have := rv_left s t n m
  rw [List.drop_zero] at this
  rw [Array.toList_extract, ← this]
  try simp
theorem rv_x1 (s t : Bool) (n m : Nat) : (rv s n t m).extract 33 (33 + 33) = iv t m := by
  apply Array.toList_inj.1
  have := rv_right s t n m
  rw [Array.toList_extract, ← this]
  try simp
theorem size25' : (Tryz.prog.info? 25).map (·.size) = some 33 := by kernel_rfl
theorem stoodRat : Tryz.prog.stoodInHeld 27 = false := by kernel_rfl
theorem same_rv (s t s' t' : Bool) (n m n' m' : Nat) (hn : n < pw 32) (hm : m < pw 32) (hn' : n' < pw 32) (hm' : m' < pw 32) :
    SameFact Tryz.prog 27 (.agg (rv s n t m)) (.agg (rv s' n' t' m')) (decide ((s = s' ∧ n = n') ∧ (t = t' ∧ m = m'))) := fun w => by
  show (Op.equalIn (9999 + 1) 27 (.agg (rv s n t m)) (.agg (rv s' n' t' m'))).run Tryz.prog w = _
  have hu := Tryz.underlying27
  have hfs : Tryz.prog.fieldsOf 27 = #[⟨"Num", 25, 0, false, "", "", 0⟩, ⟨"Den", 25, 33, false, "", "", 132⟩] := by simp [Program.fieldsOf, hu]
  rw [run_equalIn_struct w 9999 27 _ _ (by rw [hfs]; exact hu) stoodRat, hfs]
  have hN : ¬ ("Num" = "_") := by decide
  have hD : ¬ ("Den" = "_") := by decide
  simp only [Op.eqFields, ne_eq, hN, hD, not_false_eq_true, if_true, Sem.run_bind]
  have e0 : ∀ (s t : Bool) (n m : Nat), (part 25 (rv s n t m) 0).run Tryz.prog w = .ok (.agg (iv s n)) w := fun s t n m => by
    rw [run_part_row w 25 _ Tryz.underlying25 rfl 33 size25', rv_x0]
  have e1 : ∀ (s t : Bool) (n m : Nat), (part 25 (rv s n t m) 33).run Tryz.prog w = .ok (.agg (iv t m)) w := fun s t n m => by
    rw [run_part_row w 25 _ Tryz.underlying25 rfl 33 size25', rv_x1]
  have q : ∀ (s s' : Bool) (n n' : Nat), n < pw 32 → n' < pw 32 → (Op.equalIn 9999 25 (.agg (iv s n)) (.agg (iv s' n'))).run Tryz.prog w = .ok (decide (s = s' ∧ n = n')) w := fun s s' n n' h h' =>
    run_equalIn_iv w 9996 25 4 23 22 .u32 _ _ s s' n n' Tryz.underlying25 (by kernel_rfl) (by decide) (by decide) rfl rfl rfl rfl Tryz.underlying4 Tryz.underlying23 size23 size22 Tryz.underlying22 h h'
  rw [show decide ((s = s' ∧ n = n') ∧ (t = t' ∧ m = m')) = (decide (s = s' ∧ n = n') && decide (t = t' ∧ m = m')) from Bool.decide_and _ _]
  have q2 := q t t' m m' hm hm'
  simp only [e0, Result.andThen_ok, q s s' n n' hn hn']
  obtain ⟨b1, hb1⟩ : ∃ b, b = decide (s = s' ∧ n = n') := ⟨_, rfl⟩
  obtain ⟨b2, hb2⟩ : ∃ b, b = decide (t = t' ∧ m = m') := ⟨_, rfl⟩
  rw [← hb1, ← hb2]
  rw [← hb2] at q2
  cases b1
  · simp
  · simp only [Bool.not_true, Bool.false_eq_true, if_false, Bool.true_and, Sem.run_bind, e1, Result.andThen_ok, q2]
    cases b2 <;> simp
theorem same_rZ (a b c d : Int) (ha : a.natAbs < pw 32) (hb : b.natAbs < pw 32) (hc : c.natAbs < pw 32) (hd : d.natAbs < pw 32) :
    SameFact Tryz.prog 27 (.agg (rvZ a b)) (.agg (rvZ c d)) (decide (a = c ∧ b = d)) := by
  have := same_rv (decide (a < 0)) (decide (b < 0)) (decide (c < 0)) (decide (d < 0)) _ _ _ _ ha hb hc hd
  rw [decide_eq_decide.2 (show _ ↔ (a = c ∧ b = d) from and_congr (ivZ_inj (x := a) (y := c)) (ivZ_inj (x := b) (y := d)))] at this
  exact this
theorem same_r1 (s t : Bool) (n m : Nat) (hn : n < pw 32) (hm : m < pw 32) : SameFact Tryz.prog 27 (.agg (rv s n t m)) (.agg (rv s n t m)) true := by
  have := same_rv s t s t n m n m hn hm hn hm
  rwa [decide_eq_true (show (s = s ∧ n = n) ∧ (t = t ∧ m = m) from ⟨⟨rfl, rfl⟩, rfl, rfl⟩)] at this
end Go.Proofs.YtkiefjbfepjcbaaGreatDoor
end
section
namespace Go.Proofs.YtkiefjbfepjcbaaGreatDoor
open Go.RowKit Go.Proofs.YtkiefjbfepjcbaaGreatDoor.Sx
set_option linter.unusedSimpArgs false
set_option linter.unusedVariables false

theorem short480 {n : Nat} (h : bl n ≤ 480) : n < pw 32 := by
  obtain ⟨L, hL, hb⟩ := pw_room
  have h1 := hb n h
  have h2 : L ≤ L * L * 4 := by
    have := Nat.le_mul_self L; omega
  omega
def RF (V : Value) : Prop := ∃ (s t : Bool) (n m : Nat) (e : Int), V = .tuple #[.agg (rv s n t m), .int .i64 e] ∧ n < pw 32 ∧ m < pw 32
theorem rf_err (e : Int) : RF (errV e) := ⟨false, false, 0, 0, e, rfl, pw_pos 32, pw_pos 32⟩
theorem rf_mkZ (x y : Int) : RF (mkZ x y) := by
  unfold mkZ mkv
  split
  · exact rf_err 11
  · split
    · rename_i h
      unfold mkF at h
      simp only [Bool.and_eq_true, decide_eq_true_eq] at h
      exact ⟨_, _, _, _, _, rfl, short480 h.1, short480 h.2⟩
    · exact rf_err 10
theorem rf_if {c : Prop} [Decidable c] {a b : Value} (ha : RF a) (hb : RF b) : RF (if c then a else b) := by
  split <;> assumption
theorem rf_quo (s t s' t' : Bool) (n m n' m' : Nat) : RF (quoR s n t m s' n' t' m') := rf_if (rf_mkZ _ _) (rf_err _)
theorem mkN_abs {x y : Int} {g : Nat} (hx : (g : Int) ∣ x) : (mkN x y g).natAbs = x.natAbs / g := by
  have : (x / (g : Int)).natAbs = x.natAbs / g := by rw [Int.natAbs_ediv_of_dvd hx, Int.natAbs_natCast]
  unfold mkN
  split
  · rw [Int.natAbs_neg]; exact this
  · exact this
theorem mkN_den {y : Int} {g : Nat} (h0 : y ≠ 0) (hg : 0 < g) (hy : (g : Int) ∣ y) : 0 < mkN y y g := by
  have h1 := quo_neg hg hy
  have h2 : y / (g : Int) ≠ 0 := fun h => h0 (by rw [← Int.mul_ediv_cancel' hy, h, Int.mul_zero])
  unfold mkN
  split <;> omega
theorem vldZ {a b : Int} (hb : 0 < b) (h1 : mkF a b = true) (h2 : Nat.gcd a.natAbs b.natAbs = 1) : vld (decide (a < 0)) a.natAbs (decide (b < 0)) b.natAbs = true := by
  unfold mkF at h1
  simp only [Bool.and_eq_true, decide_eq_true_eq] at h1
  unfold vld
  rw [decide_eq_true h1.1, decide_eq_true h1.2, decide_eq_true h2, decide_eq_false (show ¬ b < 0 by omega), isz_false (show b.natAbs ≠ 0 by omega)]
  by_cases ha : a < 0
  · rw [decide_eq_true ha, isz_false (show a.natAbs ≠ 0 by omega)]; rfl
  · rw [decide_eq_false ha]; rfl
end Go.Proofs.YtkiefjbfepjcbaaGreatDoor
end
section
namespace Go.Proofs.YtkiefjbfepjcbaaGreatDoor
open Go.RowKit Go.Proofs.YtkiefjbfepjcbaaGreatDoor.Sx
set_option linter.unusedSimpArgs false
set_option linter.unusedVariables false

structure Qf (n : Nat) (a b x y : Int) : Prop where
  pos : 0 < b
  co : Nat.gcd a.natAbs b.natAbs = 1
  ne : y ≠ 0
  eq : a * y = x * b
  la : a.natAbs < 2 ^ n
  lb : b.natAbs < 2 ^ n
variable {n m k : Nat} {a b c d x y z w : Int}
theorem Qf.fits (h : Qf n a b x y) (hn : n ≤ 480) : mkF a b = true := by
  unfold mkF
  rw [decide_eq_true (Nat.le_trans (bl_le h.la) hn), decide_eq_true (Nat.le_trans (bl_le h.lb) hn)]; rfl
theorem Qf.vld (h : Qf n a b x y) (hn : n ≤ 480) : Go.Proofs.YtkiefjbfepjcbaaGreatDoor.vld (decide (a < 0)) a.natAbs (decide (b < 0)) b.natAbs = true := vldZ h.pos (h.fits hn) h.co
theorem q_make (x y : Int) (n : Nat) (hy : y ≠ 0) (hx : x.natAbs < 2 ^ n) (hyn : y.natAbs < 2 ^ n) (hn : n ≤ 480) : ∃ a b, mkZ x y = .tuple #[.agg (rvZ a b), .int .i64 0] ∧ Qf n a b x y := by
  have hg : 0 < Nat.gcd x.natAbs y.natAbs := Nat.gcd_pos_of_pos_right _ (by omega)
  have h1 : ((Nat.gcd x.natAbs y.natAbs : Nat) : Int) ∣ x := Int.dvd_natAbs.1 (Int.natCast_dvd_natCast.2 (Nat.gcd_dvd_left _ _))
  have h2 : ((Nat.gcd x.natAbs y.natAbs : Nat) : Int) ∣ y := Int.dvd_natAbs.1 (Int.natCast_dvd_natCast.2 (Nat.gcd_dvd_right _ _))
  have hp := mkN_den hy hg h2
  have ha := mkN_abs (y := y) h1
  have hb := mkN_abs (y := y) h2
  have hco := Nat.coprime_div_gcd_div_gcd hg
  have hla : x.natAbs / Nat.gcd x.natAbs y.natAbs < 2 ^ n := Nat.lt_of_le_of_lt (Nat.div_le_self _ _) hx
  have hlb : y.natAbs / Nat.gcd x.natAbs y.natAbs < 2 ^ n := Nat.lt_of_le_of_lt (Nat.div_le_self _ _) hyn
  have heq : mkN x y (Nat.gcd x.natAbs y.natAbs) * y = x * mkN y y (Nat.gcd x.natAbs y.natAbs) := by
    have e1 := Int.mul_ediv_cancel' h1
    have e2 := Int.mul_ediv_cancel' h2
    unfold mkN
    generalize ((Nat.gcd x.natAbs y.natAbs : Nat) : Int) = g at e1 e2 ⊢
    generalize x / g = p at e1 ⊢
    generalize y / g = q at e2 ⊢
    split <;> grind
  have hmk : mkZ x y = if mkF (mkN x y (Nat.gcd x.natAbs y.natAbs)) (mkN y y (Nat.gcd x.natAbs y.natAbs)) = true then .tuple #[.agg (rvZ (mkN x y (Nat.gcd x.natAbs y.natAbs)) (mkN y y (Nat.gcd x.natAbs y.natAbs))), .int .i64 0] else .tuple #[.agg (rvZ 0 0), .int .i64 10] := by
    unfold mkZ mkv; rw [if_neg hy]
  generalize mkN x y (Nat.gcd x.natAbs y.natAbs) = a at *
  generalize mkN y y (Nat.gcd x.natAbs y.natAbs) = b at *
  have hQ : Qf n a b x y := ⟨hp, by rw [ha, hb]; exact hco, hy, heq, by rw [ha]; exact hla, by rw [hb]; exact hlb⟩
  exact ⟨a, b, by rw [hmk, if_pos (hQ.fits hn)], hQ⟩
theorem Qf.up (h : Qf n a b x y) (hn : n ≤ m) : Qf m a b x y :=
  ⟨h.pos, h.co, h.ne, h.eq, Nat.lt_of_lt_of_le h.la (Nat.pow_le_pow_right (by omega) hn), Nat.lt_of_lt_of_le h.lb (Nat.pow_le_pow_right (by omega) hn)⟩
theorem abs_dvd (hb : 0 < b) (hd : 0 < d) (h1 : Nat.gcd a.natAbs b.natAbs = 1) (h : a * d = c * b) : b.natAbs ∣ d.natAbs := by
  have e : a.natAbs * d.natAbs = c.natAbs * b.natAbs := by rw [← Int.natAbs_mul, h, Int.natAbs_mul]
  have h2 : Nat.Coprime b.natAbs a.natAbs := by rw [Nat.coprime_comm]; exact h1
  exact h2.dvd_of_dvd_mul_left (by rw [e]; exact Nat.dvd_mul_left _ _)
theorem low_eq (hb : 0 < b) (hd : 0 < d) (h1 : Nat.gcd a.natAbs b.natAbs = 1) (h2 : Nat.gcd c.natAbs d.natAbs = 1) (h : a * d = c * b) : a = c ∧ b = d := by
  have e1 := abs_dvd hb hd h1 h
  have e2 := abs_dvd hd hb h2 h.symm
  have e3 := Nat.dvd_antisymm e1 e2
  have e4 : b = d := by omega
  subst e4
  exact ⟨Int.eq_of_mul_eq_mul_right (by omega) h, rfl⟩
theorem Qf.same (h1 : Qf n a b x y) (h2 : Qf m c d z w) : (a = c ∧ b = d) ↔ x * w = z * y := by
  have e1 := h1.eq
  have e2 := h2.eq
  have p1 := h1.pos
  have p2 := h2.pos
  constructor
  · rintro ⟨rfl, rfl⟩
    refine Int.eq_of_mul_eq_mul_right (show b ≠ 0 by omega) ?_
    grind
  · intro h
    refine low_eq p1 p2 h1.co h2.co ?_
    refine Int.eq_of_mul_eq_mul_right h1.ne (Int.eq_of_mul_eq_mul_right h2.ne ?_)
    grind
theorem mul_bits {p q : Int} (hp : p.natAbs < 2 ^ n) (hq : q.natAbs < 2 ^ m) : (p * q).natAbs < 2 ^ (n + m) := by
  rw [Int.natAbs_mul, Nat.pow_add]; exact Nat.mul_lt_mul'' hp hq
theorem add_bits {p q : Int} (hp : p.natAbs < 2 ^ n) (hq : q.natAbs < 2 ^ n) : (p + q).natAbs < 2 ^ (n + 1) := by
  rw [Nat.pow_succ]; omega
theorem Qf.zero (h : Qf n a b x y) (hx : x = 0) : a = 0 ∧ b = 1 := by
  have e := h.eq
  rw [hx, Int.zero_mul] at e
  have ha : a = 0 := (Int.mul_eq_zero.1 e).resolve_right h.ne
  have hc := h.co
  rw [ha] at hc
  have hp := h.pos
  simp at hc
  exact ⟨ha, by omega⟩
end Go.Proofs.YtkiefjbfepjcbaaGreatDoor
end
section
namespace Go.Proofs.YtkiefjbfepjcbaaGreatDoor
open Go.RowKit Go.Proofs.YtkiefjbfepjcbaaGreatDoor.Sx
set_option linter.unusedSimpArgs false
set_option linter.unusedVariables false

def ten (p : Nat) : Int := ((10 ^ p : Nat) : Int)
theorem ten_zero : ten 0 = 1 := rfl
theorem ten_succ (p : Nat) : ten (p + 1) = ten p * 10 := by unfold ten; rw [Nat.pow_succ, Int.natCast_mul]; rfl
theorem ten_pos (p : Nat) : 0 < ten p := by
  unfold ten
  have := Nat.pow_pos (n := p) (show 0 < 10 by omega)
  omega
theorem ten_le {p : Nat} (h : p ≤ 9) : ten p ≤ 1000000000 := by
  have h1 : 10 ^ p ≤ 10 ^ 9 := Nat.pow_le_pow_right (by omega) h
  have h2 : 10 ^ 9 = 1000000000 := by decide
  unfold ten; omega
theorem ten_bits {p : Nat} (h : p ≤ 9) : (ten p).natAbs < 2 ^ 30 := by
  have h1 := ten_le h
  have h2 := ten_pos p
  have h3 : 2 ^ 30 = 1073741824 := by decide
  omega

def upR (mode : Int) (neg : Bool) (half : Int) (odd : Bool) : Bool :=
  if mode = 1 then neg else if mode = 2 then !neg else if mode = 3 then false else if mode = 4 then true
  else if half ≠ 0 then decide (0 < half) else if mode = 5 then !neg else odd
def rndZ (mode N D : Int) : Int :=
  if N % D = 0 then N / D else if upR mode (decide (N < 0)) (cmpZ (N % D + N % D) D) (decide (N / D % 2 = 1)) = true then N / D + 1 else N / D
theorem rnd_whole {mode N D : Int} (h : N % D = 0) : rndZ mode N D = N / D := if_pos h
theorem rnd_up {mode N D : Int} (h : N % D ≠ 0) (hu : upR mode (decide (N < 0)) (cmpZ (N % D + N % D) D) (decide (N / D % 2 = 1)) = true) : rndZ mode N D = N / D + 1 := by
  unfold rndZ; rw [if_neg h, if_pos hu]
theorem rnd_down {mode N D : Int} (h : N % D ≠ 0) (hu : upR mode (decide (N < 0)) (cmpZ (N % D + N % D) D) (decide (N / D % 2 = 1)) = false) : rndZ mode N D = N / D := by
  unfold rndZ; rw [if_neg h, if_neg (by rw [hu]; simp)]
theorem rnd_beside (mode N D : Int) : rndZ mode N D = N / D ∨ rndZ mode N D = N / D + 1 ∧ N % D ≠ 0 := by
  unfold rndZ
  split
  · exact .inl rfl
  · rename_i h
    split
    · exact .inr ⟨rfl, h⟩
    · exact .inl rfl
theorem div_rest {D : Int} (N : Int) (hD : 0 < D) : N = D * (N / D) + N % D ∧ 0 ≤ N % D ∧ N % D < D :=
  ⟨(Int.mul_ediv_add_emod N D).symm, Int.emod_nonneg _ (by omega), Int.emod_lt_of_pos _ hD⟩
theorem abs_div_le {D : Int} (N : Int) (hD : 0 < D) : (N / D).natAbs ≤ N.natAbs := by
  rcases Int.lt_or_le N 0 with h | h
  · have h1 : N ≤ N / D := Int.le_ediv_of_mul_le hD (by
      have := Int.mul_le_mul_of_nonpos_left (a := N) (b := D) (c := 1) (by omega) (by omega)
      omega)
    have h2 : N / D < 0 := Int.ediv_neg_of_neg_of_pos h hD
    omega
  · have h1 : N / D ≤ N := Int.ediv_le_self _ h
    have h2 : 0 ≤ N / D := Int.ediv_nonneg h (by omega)
    omega
theorem lt_pw32 {x : Nat} {k : Nat} (h : x < 2 ^ k) (hk : k ≤ 1000) : x < pw 32 := by
  obtain ⟨K, hK, e⟩ := pw32_bits
  rw [e]
  exact Nat.lt_of_lt_of_le h (Nat.pow_le_pow_right (by omega) (by omega))
structure Rnd (N D : Int) : Prop where
  pos : 0 < D
  lN : N.natAbs < 2 ^ 510
  lD : D.natAbs < 2 ^ 480
variable {N D : Int}
theorem Rnd.pN (h : Rnd N D) : N.natAbs < pw 32 := lt_pw32 h.lN (by omega)
theorem Rnd.pD (h : Rnd N D) : D.natAbs < pw 32 := lt_pw32 h.lD (by omega)
theorem Rnd.pq (h : Rnd N D) : (N / D).natAbs < pw 32 := Nat.lt_of_le_of_lt (abs_div_le N h.pos) h.pN
theorem two_more {k a : Nat} (h : a < 2 ^ k) : a + 1 < 2 ^ (k + 1) := by
  have h1 := Nat.pow_succ 2 k
  have h2 := Nat.one_le_two_pow (n := k)
  generalize (2:Nat) ^ (k + 1) = B at *
  generalize (2:Nat) ^ k = A at *
  omega
theorem two_twice {k a : Nat} (h : a < 2 ^ k) : a + a < 2 ^ (k + 1) := by
  have h1 := Nat.pow_succ 2 k
  generalize (2:Nat) ^ (k + 1) = B at *
  generalize (2:Nat) ^ k = A at *
  omega
theorem bits_lt {m k : Nat} (h : bl m ≤ k) : m < 2 ^ k := Nat.lt_of_lt_of_le (bl_lt m) (Nat.pow_le_pow_right Nat.zero_lt_two h)
theorem Rnd.pq1 (h : Rnd N D) : (N / D + 1).natAbs < pw 32 := by
  have h1 := abs_div_le N h.pos
  have h2 := two_more h.lN
  have h3 : (N / D + 1).natAbs ≤ N.natAbs + 1 := by omega
  exact lt_pw32 (k := 510 + 1) (Nat.lt_of_le_of_lt h3 h2) (by omega)
theorem Rnd.pr (h : Rnd N D) : (N % D).natAbs < pw 32 := by
  have h1 := div_rest N h.pos
  have h2 := h.pD
  omega
theorem Rnd.prr (h : Rnd N D) : (N % D + N % D).natAbs < pw 32 := by
  have h1 := div_rest N h.pos
  have h2 := two_twice h.lD
  have h3 : (N % D + N % D).natAbs ≤ D.natAbs + D.natAbs := by clear h2; omega
  exact lt_pw32 (k := 480 + 1) (Nat.lt_of_le_of_lt h3 h2) (by omega)
theorem Rnd.pz (h : Rnd N D) (mode : Int) : (rndZ mode N D).natAbs < pw 32 := by
  rcases rnd_beside mode N D with e | ⟨e, -⟩ <;> rw [e]
  · exact h.pq
  · exact h.pq1
theorem Rnd.neg (h : Rnd N D) : N / D < 0 ↔ N < 0 := by
  constructor
  · intro h1
    rcases Int.lt_or_le N 0 with h2 | h2
    · exact h2
    · have := Int.ediv_nonneg h2 (Int.le_of_lt h.pos); omega
  · exact fun h1 => Int.ediv_neg_of_neg_of_pos h1 h.pos
theorem rnd_bits {x y : Int} {a b c : Nat} (h : a + b = c) (hx : x.natAbs < 2 ^ a) (hy : y.natAbs < 2 ^ b) : (x * y).natAbs < 2 ^ c := by
  subst h; exact mul_bits hx hy
theorem rnd_of {s t : Bool} {n m p : Nat} (h : vld s n t m = true) (hp : p ≤ 9) : Rnd (vz s n * ten p) (vz t m) ∧ t = false ∧ 0 < m := by
  obtain ⟨-, ht, h0, hn, hm, -⟩ := vld_parts h
  subst ht
  refine ⟨⟨?_, ?_, ?_⟩, rfl, Nat.pos_of_ne_zero h0⟩
  · show 0 < ((m : Nat) : Int)
    omega
  · have h1 : (vz s n).natAbs < 2 ^ 480 := Nat.lt_of_le_of_lt (Nat.le_of_eq (vz_abs s n)) (bits_lt (k := 480) hn)
    exact rnd_bits (a := 480) (b := 30) (c := 510) rfl h1 (ten_bits hp)
  · exact Nat.lt_of_le_of_lt (Nat.le_of_eq (vz_abs false m)) (bits_lt (k := 480) hm)

def rndE (s : Bool) (n : Nat) (t : Bool) (m : Nat) (p mode : Int) : Int :=
  if vld s n t m = false then 20 else if ¬ (0 ≤ p ∧ p ≤ 9) then 30 else if ¬ (1 ≤ mode ∧ mode ≤ 6) then 31 else 0
def rndQ (s : Bool) (n : Nat) (t : Bool) (m : Nat) (p mode : Int) : Int :=
  if rndE s n t m p mode = 0 then rndZ mode (vz s n * ten p.toNat) (vz t m) else 0
def roundR (s : Bool) (n : Nat) (t : Bool) (m : Nat) (p mode : Int) : Value := .tuple #[.agg (ivZ (rndQ s n t m p mode)), .int .i64 (rndE s n t m p mode)]
def intE (s : Bool) (n : Nat) (t : Bool) (m : Nat) (p mode : Int) : Int :=
  if rndE s n t m p mode = 0 then (if -1000000000000000 ≤ rndQ s n t m p mode ∧ rndQ s n t m p mode ≤ 1000000000000000 then 0 else 33) else rndE s n t m p mode
def roundIntR (s : Bool) (n : Nat) (t : Bool) (m : Nat) (p mode : Int) : Value := .tuple #[.int .i64 (if intE s n t m p mode = 0 then rndQ s n t m p mode else 0), .int .i64 (intE s n t m p mode)]
theorem rndE_none {s t : Bool} {n m : Nat} {p mode : Int} (h : rndE s n t m p mode = 0) : vld s n t m = true ∧ (0 ≤ p ∧ p ≤ 9) ∧ 1 ≤ mode ∧ mode ≤ 6 := by
  unfold rndE at h
  split at h
  · omega
  · rename_i hv
    split at h
    · omega
    · rename_i hp
      split at h
      · omega
      · rename_i hm
        exact ⟨by simpa using hv, by omega, by omega⟩
theorem rndQ_fits (s t : Bool) (n m : Nat) (p mode : Int) : (rndQ s n t m p mode).natAbs < pw 32 := by
  unfold rndQ
  split
  · rename_i h
    obtain ⟨hv, hp, -⟩ := rndE_none h
    exact (rnd_of hv (show p.toNat ≤ 9 by omega)).1.pz mode
  · exact pw_pos 32
end Go.Proofs.YtkiefjbfepjcbaaGreatDoor
end
section
namespace Go.Proofs.YtkiefjbfepjcbaaGreatDoor
open Go.RowKit Go.Proofs.YtkiefjbfepjcbaaGreatDoor.Sx
set_option linter.unusedSimpArgs false
set_option linter.unusedVariables false

theorem ten_loop_p (p : Nat) (hp : p ≤ 9) :
    Ev.holds Tryz.prog (env [.int .i64 (p : Nat), .int .i64 (ten p), .int .i64 (p : Nat)]) (.loop 64 0 decS64_0 decH64_0 (.exit 0) .none 2) := by
  refine loop_holds plain (m := 2) (x := .exit 0) (alt := none) [.int .i64 (p : Nat)] [.int .i64 (ten p), .int .i64 (p : Nat)] tpTenTo0_ok tpTenTo0_fine
    (fun vs => ∃ i : Nat, i ≤ p ∧ vs = [.int .i64 (ten i), .int .i64 (i : Nat)])
    (fun vs => p - (vInt (vs.getD 1 undef)).toNat) tpTenTo0_diff ?_ ?_
  · refine ⟨[.int .i64 (ten 0), .int .i64 (0 : Nat)], rfl, ⟨0, by omega, rfl⟩, ?_⟩
    rw [ten_zero]
    simp [tpTenTo0_d, BTm.den, Tm.i, Tm.s, Tm.den, env, vInt, vBool, vStr, exI, SW.den, SV.den, Cell.den, densP, Piece.den, denV, denT]
  · rintro vs hl ⟨i, hi, rfl⟩
    clear hl
    refine tree_ite (ev_nil ⟨fun hlt => tree_leaf ?_, fun hlt => tree_leaf (ev_nil ?_)⟩)
    · have hlt : i < p := by
        have : (i : Int) < p := by simpa [BTm.den, Tm.i, Tm.s, Tm.den, env, vInt, vBool, vStr, exI] using hlt
        omega
      have h1 := ten_le (show i + 1 ≤ 9 by omega)
      have h2 := ten_pos i
      have h3 := ten_succ i
      obtain ⟨T, hT⟩ : ∃ T, T = ten i := ⟨_, rfl⟩
      obtain ⟨T', hT'⟩ : ∃ T, T = ten (i + 1) := ⟨_, rfl⟩
      rw [← hT] at h2 h3 ⊢
      rw [← hT'] at h1 h3
      refine ev_fits (T * 10) (by simp [BTm.den, Tm.i, Tm.s, Tm.den, env, vInt, vBool, vStr, exI]) (rng_i64 _ (by omega)) ?_
      refine ev_fits ((i : Int) + 1) (by simp [BTm.den, Tm.i, Tm.s, Tm.den, env, vInt, vBool, vStr, exI]) (rng_i64 _ (by omega)) ?_
      refine ev_nil ⟨[.int .i64 T', .int .i64 (i + 1 : Nat)], rfl, ⟨i + 1, by omega, by rw [hT']⟩, by simp [vInt]; omega, ?_⟩
      simp [BTm.den, Tm.i, Tm.s, Tm.den, env, vInt, vBool, vStr, exI, SW.den, SV.den, Cell.den, densP, Piece.den, denV, denT, h3]
    · have hlt : ¬ (i : Int) < p := by simpa [BTm.den, Tm.i, Tm.s, Tm.den, env, vInt, vBool, vStr, exI] using hlt
      obtain rfl : i = p := by omega
      refine ⟨rfl, ?_⟩
      simp [BTm.den, Tm.i, Tm.s, Tm.den, env, vInt, vBool, vStr, exI, SW.den, SV.den, Cell.den, densP, Piece.den, denV, denT]
theorem ten_loop_d (p : Nat) (hp : p ≤ 9) :
    Ev.holds Tryz.prog (env [.int .i64 (p : Nat), .int .i64 (ten p), .int .i64 (p : Nat)]) (.loop 66 0 decS66_0 decH66_0 (.exit 0) .none 2) := by
  refine loop_holds plain (m := 2) (x := .exit 0) (alt := none) [.int .i64 (p : Nat)] [.int .i64 (ten p), .int .i64 (p : Nat)] tdPower0_ok tdPower0_fine
    (fun vs => ∃ i : Nat, i ≤ p ∧ vs = [.int .i64 (ten i), .int .i64 (i : Nat)])
    (fun vs => p - (vInt (vs.getD 1 undef)).toNat) tdPower0_diff ?_ ?_
  · refine ⟨[.int .i64 (ten 0), .int .i64 (0 : Nat)], rfl, ⟨0, by omega, rfl⟩, ?_⟩
    rw [ten_zero]
    simp [tdPower0_d, BTm.den, Tm.i, Tm.s, Tm.den, env, vInt, vBool, vStr, exI, SW.den, SV.den, Cell.den, densP, Piece.den, denV, denT]
  · rintro vs hl ⟨i, hi, rfl⟩
    clear hl
    refine tree_ite (ev_nil ⟨fun hlt => tree_leaf ?_, fun hlt => tree_leaf (ev_nil ?_)⟩)
    · have hlt : i < p := by
        have : (i : Int) < p := by simpa [BTm.den, Tm.i, Tm.s, Tm.den, env, vInt, vBool, vStr, exI] using hlt
        omega
      have h1 := ten_le (show i + 1 ≤ 9 by omega)
      have h2 := ten_pos i
      have h3 := ten_succ i
      obtain ⟨T, hT⟩ : ∃ T, T = ten i := ⟨_, rfl⟩
      obtain ⟨T', hT'⟩ : ∃ T, T = ten (i + 1) := ⟨_, rfl⟩
      rw [← hT] at h2 h3 ⊢
      rw [← hT'] at h1 h3
      refine ev_fits (T * 10) (by simp [BTm.den, Tm.i, Tm.s, Tm.den, env, vInt, vBool, vStr, exI]) (rng_i64 _ (by omega)) ?_
      refine ev_fits ((i : Int) + 1) (by simp [BTm.den, Tm.i, Tm.s, Tm.den, env, vInt, vBool, vStr, exI]) (rng_i64 _ (by omega)) ?_
      refine ev_nil ⟨[.int .i64 T', .int .i64 (i + 1 : Nat)], rfl, ⟨i + 1, by omega, by rw [hT']⟩, by simp [vInt]; omega, ?_⟩
      simp [BTm.den, Tm.i, Tm.s, Tm.den, env, vInt, vBool, vStr, exI, SW.den, SV.den, Cell.den, densP, Piece.den, denV, denT, h3]
    · have hlt : ¬ (i : Int) < p := by simpa [BTm.den, Tm.i, Tm.s, Tm.den, env, vInt, vBool, vStr, exI] using hlt
      obtain rfl : i = p := by omega
      refine ⟨rfl, ?_⟩
      simp [BTm.den, Tm.i, Tm.s, Tm.den, env, vInt, vBool, vStr, exI, SW.den, SV.den, Cell.den, densP, Piece.den, denV, denT]
theorem ten_p (p : Nat) (hp : p ≤ 9) : Gives Tryz.prog 64 #[.int .i64 (p : Nat)] (.int .i64 (ten p)) := by
  have main : tpTenTo.den Tryz.prog (fun ρ' ret => ∀ β, ret.val.den (env ρ') β = .int .i64 (ten p)) [.int .i64 (p : Nat)] := by
    refine tree_leaf ?_
    refine ev_loop [.int .i64 (ten p), .int .i64 (p : Nat)] rfl rfl (ten_loop_p p hp) ?_
    refine ev_nil fun β => ?_
    simp [BTm.den, Tm.i, Tm.s, Tm.den, env, vInt, vBool, vStr, exI, SW.den, SV.den, Cell.den, densP, Piece.den, denV, denT]
  have h := pure_of plain [.int .i64 ((p : Nat) : Int)] tpTenTo_ok (by kernel_rfl) _ main
  refine gives_pure ?_
  simpa [intW, BTm.den, Tm.i, Tm.s, Tm.den, env, vInt, vBool, vStr, exI, SW.den, SV.den, Cell.den, densP, Piece.den, denV, denT] using h
theorem ten_d (p : Nat) (hp : p ≤ 9) : Gives Tryz.prog 66 #[.int .i64 (p : Nat)] (.agg (rvZ (ten p) 1)) := by
  have h1 := ten_le hp
  have h2 := ten_pos p
  have g := whole_d (ten p) (by omega)
  have hl := ten_loop_d p hp
  obtain ⟨T, hT⟩ : ∃ T, T = ten p := ⟨_, rfl⟩
  rw [← hT] at g hl ⊢
  have main : tdPower.den Tryz.prog (fun ρ' ret => ∀ β, ret.val.den (env ρ') β = .agg (rvZ T 1)) [.int .i64 (p : Nat)] := by
    refine tree_leaf ?_
    refine ev_loop [.int .i64 T, .int .i64 (p : Nat)] rfl rfl hl ?_
    refine ev_zc [.bool (decide (T < 0)), .agg (mgk 32 (T : Int).natAbs), .bool (decide (1 < 0)), .agg (mgk 32 (1 : Int).natAbs)] (pure_gives (g)) ?_
    refine ev_nil fun β => ?_
    simp [BTm.den, Tm.i, Tm.s, Tm.den, env, vInt, vBool, vStr, exI, SW.den, SV.den, Cell.den, densP, Piece.den, denV, rowCells_mgk, iv_list, rv_list, ivZ, rvZ, mgl_agg]
  have h := pure_of plain [.int .i64 ((p : Nat) : Int)] tdPower_ok (by kernel_rfl) _ main
  refine gives_pure ?_
  simpa [intW, BTm.den, Tm.i, Tm.s, Tm.den, env, vInt, vBool, vStr, exI, SW.den, SV.den, Cell.den, densP, Piece.den, denV, denT] using h
end Go.Proofs.YtkiefjbfepjcbaaGreatDoor
end
section
namespace Go.Proofs.YtkiefjbfepjcbaaGreatDoor
open Go.RowKit Go.Proofs.YtkiefjbfepjcbaaGreatDoor.Sx
set_option linter.unusedSimpArgs false
set_option linter.unusedVariables false

theorem upR_1 (n o : Bool) (h : Int) : upR 1 n h o = n := rfl
theorem upR_2 (n o : Bool) (h : Int) : upR 2 n h o = !n := rfl
theorem upR_3 (n o : Bool) (h : Int) : upR 3 n h o = false := rfl
theorem upR_4 (n o : Bool) (h : Int) : upR 4 n h o = true := rfl
theorem upR_5 (n o : Bool) (h : Int) : upR 5 n h o = if h ≠ 0 then decide (0 < h) else !n := rfl
theorem upR_6 (n o : Bool) (h : Int) : upR 6 n h o = if h ≠ 0 then decide (0 < h) else o := rfl
theorem limb_odd (z : Int) : ((limb z.natAbs 0 : Nat) : Int).tmod 2 = (if z % 2 = 1 then 1 else 0 : Int) := by
  have h1 : limb z.natAbs 0 = z.natAbs % 4294967296 := by unfold limb; rw [pw_zero, Nat.div_one]
  have h2 : ((limb z.natAbs 0 : Nat) : Int).tmod 2 = ((limb z.natAbs 0 : Nat) : Int) % 2 := Int.tmod_eq_emod_of_nonneg (by omega)
  rw [h2, h1]
  split <;> omega
theorem sgq_neg {z : Int} : sgn z < 0 ↔ z < 0 := by unfold sgn; split <;> (try split) <;> omega
theorem sgq_zero {z : Int} : sgn z = 0 ↔ z = 0 := by unfold sgn; split <;> (try split) <;> omega
structure Steps (mode N D : Int) (q R q1 sq sR hf o z : Int) : Prop where
  hR : sR = 0 ↔ R = 0
  neg : sq < 0 ↔ N < 0
  whole : R = 0 → z = q
  up1 : R ≠ 0 → mode = 1 → sq < 0 → z = q1
  dn1 : R ≠ 0 → mode = 1 → ¬ sq < 0 → z = q
  up2 : R ≠ 0 → mode = 2 → ¬ sq < 0 → z = q1
  dn2 : R ≠ 0 → mode = 2 → sq < 0 → z = q
  dn3 : R ≠ 0 → mode = 3 → z = q
  up4 : R ≠ 0 → mode = 4 → z = q1
  upm : R ≠ 0 → mode = 5 ∨ mode = 6 → 0 < hf → z = q1
  dnm : R ≠ 0 → mode = 5 ∨ mode = 6 → hf < 0 → z = q
  up5 : R ≠ 0 → mode = 5 → hf = 0 → ¬ sq < 0 → z = q1
  dn5 : R ≠ 0 → mode = 5 → hf = 0 → sq < 0 → z = q
  up6 : R ≠ 0 → mode = 6 → hf = 0 → o = 1 → z = q1
  dn6 : R ≠ 0 → mode = 6 → hf = 0 → o = 0 → z = q
theorem steps_of {mode N D : Int} (h : Rnd N D) : Steps mode N D (N / D) (N % D) (N / D + 1) (sgn (N / D)) (sgn (N % D)) (cmpZ (N % D + N % D) D) (if N / D % 2 = 1 then 1 else 0) (rndZ mode N D) := by
  have hn : sgn (N / D) < 0 ↔ N < 0 := sgq_neg.trans h.neg
  have dT : ∀ {p : Prop} [Decidable p], p → decide p = true := fun hp => decide_eq_true hp
  have dF : ∀ {p : Prop} [Decidable p], ¬ p → decide p = false := fun hp => decide_eq_false hp
  refine ⟨sgq_zero, hn, rnd_whole, ?_, ?_, ?_, ?_, ?_, ?_, ?_, ?_, ?_, ?_, ?_, ?_⟩
  · intro hR hm hs; subst hm; exact rnd_up hR (by rw [upR_1]; exact dT (hn.1 hs))
  · intro hR hm hs; subst hm; exact rnd_down hR (by rw [upR_1]; exact dF fun e => hs (hn.2 e))
  · intro hR hm hs; subst hm; exact rnd_up hR (by rw [upR_2, dF fun e => hs (hn.2 e)]; rfl)
  · intro hR hm hs; subst hm; exact rnd_down hR (by rw [upR_2, dT (hn.1 hs)]; rfl)
  · intro hR hm; subst hm; exact rnd_down hR (upR_3 _ _ _)
  · intro hR hm; subst hm; exact rnd_up hR (upR_4 _ _ _)
  · intro hR hm hf; rcases hm with hm | hm <;> subst hm
    · exact rnd_up hR (by rw [upR_5, if_pos (by omega)]; exact dT hf)
    · exact rnd_up hR (by rw [upR_6, if_pos (by omega)]; exact dT hf)
  · intro hR hm hf; rcases hm with hm | hm <;> subst hm
    · exact rnd_down hR (by rw [upR_5, if_pos (by omega)]; exact dF (by omega))
    · exact rnd_down hR (by rw [upR_6, if_pos (by omega)]; exact dF (by omega))
  · intro hR hm hf hs; subst hm; exact rnd_up hR (by rw [upR_5, if_neg (by omega), dF fun e => hs (hn.2 e)]; rfl)
  · intro hR hm hf hs; subst hm; exact rnd_down hR (by rw [upR_5, if_neg (by omega), dT (hn.1 hs)]; rfl)
  · intro hR hm hf ho; subst hm; exact rnd_up hR (by rw [upR_6, if_neg (by omega)]; exact dT (by revert ho; split <;> omega))
  · intro hR hm hf ho; subst hm; exact rnd_down hR (by rw [upR_6, if_neg (by omega)]; exact dF (by revert ho; split <;> omega))
set_option maxHeartbeats 8000000 in
theorem round_p (s t : Bool) (n m : Nat) (p mode : Int) (hn : n < pw 32) (hm : m < pw 32) :
    Gives Tryz.prog 11 #[.agg (rv s n t m), .int .i64 p, .int .i64 mode] (roundR s n t m p mode) := by
  have p1 := pValid s t n m hn hm
  obtain ⟨V, hV⟩ : ∃ V, V = roundR s n t m p mode := ⟨_, rfl⟩
  rw [← hV]
  have err : ∀ e : Int, e ≠ 0 → rndE s n t m p mode = e → V = .tuple #[.agg (ivZ 0), .int .i64 e] := fun e he h => by
    rw [hV]; unfold roundR rndQ; rw [h, if_neg he]
  have main : tpRound.den Tryz.prog (fun ρ' ret => ∀ β, ret.val.den (env ρ') β = V) [.bool s, .agg (mgk 32 n), .bool t, .agg (mgk 32 m), .int .i64 p, .int .i64 mode] := by
    refine tree_ite ?_
    obtain ⟨v1, hv1⟩ : ∃ b, b = vld s n t m := ⟨_, rfl⟩
    rw [← hv1] at p1
    refine ev_zc [.bool v1] (pure_gives (p1)) ?_
    by_cases hv : v1 = true
    · rw [hv1] at hv
      refine ev_nil (way_true (by simp [BTm.den, Tm.i, Tm.s, Tm.den, env, vInt, vBool, vStr, exI, hv1, hv]) (tree_ite ?_))
      by_cases h0 : p < 0
      · refine ev_nil (way_true (by simp [BTm.den, Tm.i, Tm.s, Tm.den, env, vInt, vBool, vStr, exI] <;> omega) (tree_leaf ?_))
        refine ev_nil fun β => ?_
        rw [err 30 (by omega) (by unfold rndE; rw [hv, if_neg (by simp), if_pos (by omega)]), ← zero_num]; simp [BTm.den, Tm.i, Tm.s, Tm.den, env, vInt, vBool, vStr, exI, SW.den, SV.den, Cell.den, densP, Piece.den, denV, denT]
      refine ev_nil (way_false (by simp [BTm.den, Tm.i, Tm.s, Tm.den, env, vInt, vBool, vStr, exI] <;> omega) (tree_ite ?_))
      by_cases h9 : 9 < p
      · refine ev_nil (way_true (by simp [BTm.den, Tm.i, Tm.s, Tm.den, env, vInt, vBool, vStr, exI] <;> omega) (tree_leaf ?_))
        refine ev_nil fun β => ?_
        rw [err 30 (by omega) (by unfold rndE; rw [hv, if_neg (by simp), if_pos (by omega)]), ← zero_num]; simp [BTm.den, Tm.i, Tm.s, Tm.den, env, vInt, vBool, vStr, exI, SW.den, SV.den, Cell.den, densP, Piece.den, denV, denT]
      refine ev_nil (way_false (by simp [BTm.den, Tm.i, Tm.s, Tm.den, env, vInt, vBool, vStr, exI] <;> omega) (tree_ite ?_))
      obtain ⟨P, rfl⟩ : ∃ P : Nat, p = (P : Nat) := ⟨p.toNat, by omega⟩
      have hP : P ≤ 9 := by omega
      have e31 : mode < 1 ∨ 6 < mode → V = .tuple #[.agg (ivZ 0), .int .i64 31] := fun h => err 31 (by omega) (by unfold rndE; rw [hv, if_neg (by simp), if_neg (by omega), if_pos (by omega)])
      have eV : 1 ≤ mode ∧ mode ≤ 6 → V = .tuple #[.agg (ivZ (rndZ mode (vz s n * ten P) (vz t m))), .int .i64 0] := fun h => by
        have e0 : rndE s n t m (P : Nat) mode = 0 := by unfold rndE; rw [hv, if_neg (by simp), if_neg (by omega), if_neg (by omega)]
        rw [hV]; unfold roundR rndQ; rw [e0, if_pos rfl]; rfl
      obtain ⟨hr, ht, h0m⟩ := rnd_of (p := P) hv hP
      have hS := steps_of (mode := mode) hr
      have hpz := hr.pz mode
      have gT := ten_p P hP
      have t1 := ten_le hP
      have t2 := ten_pos P
      have gF := fromInt_any (ten P) (by omega)
      have gM := mul_any s (decide (ten P < 0)) n (ten P).natAbs hn (lt_pw32 (ten_bits hP) (by omega))
      rw [vz_self, resZ_fits hr.pN] at gM
      have gD := divMod_of (decide (vz s n * ten P < 0)) t (vz s n * ten P).natAbs m hr.pN hm h0m (divide_any _ m hr.pN hm h0m)
      rw [vz_self] at gD
      unfold divR at gD
      have gA := add_Z _ _ _ rfl hr.pr hr.pr hr.prr
      have gC := cmp_any (decide (vz s n * ten P % vz t m + vz s n * ten P % vz t m < 0)) t (vz s n * ten P % vz t m + vz s n * ten P % vz t m).natAbs m hr.prr hm
      rw [vz_self] at gC
      have gS := sign_Z _ hr.pr
      have gQ := sign_Z _ hr.pq
      have gO := fromInt_any 1 (by omega)
      have gI := add_Z _ 1 _ rfl hr.pq (lt_pw32 (k := 1) (by decide) (by omega)) hr.pq1
      have hod := limb_odd (vz s n * ten P / vz t m)
      have hxl := limb_lt (vz s n * ten P / vz t m).natAbs 0
      have hel : ((mgl 32 (vz s n * ten P / vz t m).natAbs).drop 0).take 1 = [.int .u32 ((limb (vz s n * ten P / vz t m).natAbs 0 : Nat) : Int)] := mgl_elem (by omega)
      obtain ⟨x, hx⟩ : ∃ x, x = limb (vz s n * ten P / vz t m).natAbs 0 := ⟨_, rfl⟩
      rw [← hx] at hod hel hxl
      generalize (if vz s n * ten P / vz t m % 2 = 1 then 1 else 0 : Int) = o at hod hS
      generalize rndZ mode (vz s n * ten P) (vz t m) = z at hS eV hpz
      generalize sgn (vz s n * ten P / vz t m) = sq at hS gQ
      generalize sgn (vz s n * ten P % vz t m) = sR at hS gS
      generalize cmpZ (vz s n * ten P % vz t m + vz s n * ten P % vz t m) (vz t m) = hf at hS gC
      generalize vz s n * ten P % vz t m + vz s n * ten P % vz t m = RR at gA gC
      generalize vz s n * ten P / vz t m + 1 = q1 at hS gI
      generalize vz s n * ten P / vz t m = q at hS gD gI gQ hel hx
      generalize vz s n * ten P % vz t m = R at hS gD gA gS
      generalize vz s n * ten P = N at hS gM gD
      generalize ten P = T at gT gF gM
      clear hr hv1 p1 err
      obtain ⟨s1, s2, s3, s4, s5, s6, s7, s8, s9, s10, s11, s12, s13, s14, s15⟩ := hS
      refine ev_zc [.int .i64 T] (pure_gives (gT)) ?_
      refine ev_zc [.bool (decide (T < 0)), .agg (mgk 32 (T : Int).natAbs)] (pure_gives (gF)) ?_
      refine ev_zc [.bool (decide (N < 0)), .agg (mgk 32 (N : Int).natAbs), .int .i64 0] (pure_gives (gM)) ?_
      refine ev_zc [.bool (decide (q < 0)), .agg (mgk 32 (q : Int).natAbs), .bool (decide (R < 0)), .agg (mgk 32 (R : Int).natAbs), .int .i64 0] (pure_gives (gD)) ?_
      refine ev_zc [.bool (decide (RR < 0)), .agg (mgk 32 (RR : Int).natAbs), .int .i64 0] (pure_gives (gA)) ?_
      refine ev_zc [.int .i64 hf] (pure_gives (gC)) ?_
      refine ev_zc [.int .i64 sR] (pure_gives (gS)) ?_
      have hrem : x % 2 < 4294967296 := by omega
      by_cases hR : R = 0
      · have hzq := s3 hR
        have hsR := s1.2 hR
        have leaf : ∀ e31' : 1 ≤ mode ∧ mode ≤ 6, V = .tuple #[.agg (ivZ q), .int .i64 0] := fun h => by rw [eV h, hzq]
        refine ev_nil (way_true (by simp [BTm.den, Tm.i, Tm.s, Tm.den, env, vInt, vBool, vStr, exI] <;> omega) (tree_ite ?_))
        by_cases m1 : mode = 1
        · refine ev_nil (way_true (by simp [BTm.den, Tm.i, Tm.s, Tm.den, env, vInt, vBool, vStr, exI] <;> omega) (tree_ite ?_))
          refine ev_zc [.int .i64 sq] (pure_gives (gQ)) ?_
          by_cases hs : sq < 0
          · refine ev_nil (way_true (by simp [BTm.den, Tm.i, Tm.s, Tm.den, env, vInt, vBool, vStr, exI] <;> omega) (tree_leaf ?_))
            refine ev_nil fun β => ?_
            rw [leaf (by omega)]; simp [BTm.den, Tm.i, Tm.s, Tm.den, env, vInt, vBool, vStr, exI, SW.den, SV.den, Cell.den, densP, Piece.den, denV, rowCells_mgk, iv_list, rv_list, ivZ, rvZ, mgl_agg]
          · refine ev_nil (way_false (by simp [BTm.den, Tm.i, Tm.s, Tm.den, env, vInt, vBool, vStr, exI] <;> omega) (tree_leaf ?_))
            refine ev_nil fun β => ?_
            rw [leaf (by omega)]; simp [BTm.den, Tm.i, Tm.s, Tm.den, env, vInt, vBool, vStr, exI, SW.den, SV.den, Cell.den, densP, Piece.den, denV, rowCells_mgk, iv_list, rv_list, ivZ, rvZ, mgl_agg]
        refine ev_nil (way_false (by simp [BTm.den, Tm.i, Tm.s, Tm.den, env, vInt, vBool, vStr, exI] <;> omega) (tree_ite ?_))
        by_cases m2 : mode = 2
        · refine ev_nil (way_true (by simp [BTm.den, Tm.i, Tm.s, Tm.den, env, vInt, vBool, vStr, exI] <;> omega) (tree_ite ?_))
          refine ev_zc [.int .i64 sq] (pure_gives (gQ)) ?_
          by_cases hs : sq < 0
          · refine ev_nil (way_true (by simp [BTm.den, Tm.i, Tm.s, Tm.den, env, vInt, vBool, vStr, exI] <;> omega) (tree_leaf ?_))
            refine ev_nil fun β => ?_
            rw [leaf (by omega)]; simp [BTm.den, Tm.i, Tm.s, Tm.den, env, vInt, vBool, vStr, exI, SW.den, SV.den, Cell.den, densP, Piece.den, denV, rowCells_mgk, iv_list, rv_list, ivZ, rvZ, mgl_agg]
          · refine ev_nil (way_false (by simp [BTm.den, Tm.i, Tm.s, Tm.den, env, vInt, vBool, vStr, exI] <;> omega) (tree_leaf ?_))
            refine ev_nil fun β => ?_
            rw [leaf (by omega)]; simp [BTm.den, Tm.i, Tm.s, Tm.den, env, vInt, vBool, vStr, exI, SW.den, SV.den, Cell.den, densP, Piece.den, denV, rowCells_mgk, iv_list, rv_list, ivZ, rvZ, mgl_agg]
        refine ev_nil (way_false (by simp [BTm.den, Tm.i, Tm.s, Tm.den, env, vInt, vBool, vStr, exI] <;> omega) (tree_ite ?_))
        by_cases m3 : mode = 3
        · refine ev_nil (way_true (by simp [BTm.den, Tm.i, Tm.s, Tm.den, env, vInt, vBool, vStr, exI] <;> omega) (tree_leaf ?_))
          refine ev_nil fun β => ?_
          rw [leaf (by omega)]; simp [BTm.den, Tm.i, Tm.s, Tm.den, env, vInt, vBool, vStr, exI, SW.den, SV.den, Cell.den, densP, Piece.den, denV, rowCells_mgk, iv_list, rv_list, ivZ, rvZ, mgl_agg]
        refine ev_nil (way_false (by simp [BTm.den, Tm.i, Tm.s, Tm.den, env, vInt, vBool, vStr, exI] <;> omega) (tree_ite ?_))
        by_cases m4 : mode = 4
        · refine ev_nil (way_true (by simp [BTm.den, Tm.i, Tm.s, Tm.den, env, vInt, vBool, vStr, exI] <;> omega) (tree_leaf ?_))
          refine ev_nil fun β => ?_
          rw [leaf (by omega)]; simp [BTm.den, Tm.i, Tm.s, Tm.den, env, vInt, vBool, vStr, exI, SW.den, SV.den, Cell.den, densP, Piece.den, denV, rowCells_mgk, iv_list, rv_list, ivZ, rvZ, mgl_agg]
        refine ev_nil (way_false (by simp [BTm.den, Tm.i, Tm.s, Tm.den, env, vInt, vBool, vStr, exI] <;> omega) (tree_ite ?_))
        by_cases m5 : mode = 5
        · refine ev_nil (way_true (by simp [BTm.den, Tm.i, Tm.s, Tm.den, env, vInt, vBool, vStr, exI] <;> omega) (tree_ite ?_))
          by_cases h1 : hf < 0
          · refine ev_nil (way_true (by simp [BTm.den, Tm.i, Tm.s, Tm.den, env, vInt, vBool, vStr, exI] <;> omega) (tree_leaf ?_))
            refine ev_nil fun β => ?_
            rw [leaf (by omega)]; simp [BTm.den, Tm.i, Tm.s, Tm.den, env, vInt, vBool, vStr, exI, SW.den, SV.den, Cell.den, densP, Piece.den, denV, rowCells_mgk, iv_list, rv_list, ivZ, rvZ, mgl_agg]
          refine ev_nil (way_false (by simp [BTm.den, Tm.i, Tm.s, Tm.den, env, vInt, vBool, vStr, exI] <;> omega) (tree_ite ?_))
          by_cases h2 : 0 < hf
          · refine ev_nil (way_true (by simp [BTm.den, Tm.i, Tm.s, Tm.den, env, vInt, vBool, vStr, exI] <;> omega) (tree_leaf ?_))
            refine ev_nil fun β => ?_
            rw [leaf (by omega)]; simp [BTm.den, Tm.i, Tm.s, Tm.den, env, vInt, vBool, vStr, exI, SW.den, SV.den, Cell.den, densP, Piece.den, denV, rowCells_mgk, iv_list, rv_list, ivZ, rvZ, mgl_agg]
          refine ev_nil (way_false (by simp [BTm.den, Tm.i, Tm.s, Tm.den, env, vInt, vBool, vStr, exI] <;> omega) (tree_ite ?_))
          refine ev_zc [.int .i64 sq] (pure_gives (gQ)) ?_
          by_cases hs : sq < 0
          · refine ev_nil (way_true (by simp [BTm.den, Tm.i, Tm.s, Tm.den, env, vInt, vBool, vStr, exI] <;> omega) (tree_leaf ?_))
            refine ev_nil fun β => ?_
            rw [leaf (by omega)]; simp [BTm.den, Tm.i, Tm.s, Tm.den, env, vInt, vBool, vStr, exI, SW.den, SV.den, Cell.den, densP, Piece.den, denV, rowCells_mgk, iv_list, rv_list, ivZ, rvZ, mgl_agg]
          · refine ev_nil (way_false (by simp [BTm.den, Tm.i, Tm.s, Tm.den, env, vInt, vBool, vStr, exI] <;> omega) (tree_leaf ?_))
            refine ev_nil fun β => ?_
            rw [leaf (by omega)]; simp [BTm.den, Tm.i, Tm.s, Tm.den, env, vInt, vBool, vStr, exI, SW.den, SV.den, Cell.den, densP, Piece.den, denV, rowCells_mgk, iv_list, rv_list, ivZ, rvZ, mgl_agg]
        refine ev_nil (way_false (by simp [BTm.den, Tm.i, Tm.s, Tm.den, env, vInt, vBool, vStr, exI] <;> omega) (tree_ite ?_))
        by_cases m6 : mode = 6
        · refine ev_nil (way_true (by simp [BTm.den, Tm.i, Tm.s, Tm.den, env, vInt, vBool, vStr, exI] <;> omega) (tree_ite ?_))
          by_cases h1 : hf < 0
          · refine ev_nil (way_true (by simp [BTm.den, Tm.i, Tm.s, Tm.den, env, vInt, vBool, vStr, exI] <;> omega) (tree_leaf ?_))
            refine ev_nil fun β => ?_
            rw [leaf (by omega)]; simp [BTm.den, Tm.i, Tm.s, Tm.den, env, vInt, vBool, vStr, exI, SW.den, SV.den, Cell.den, densP, Piece.den, denV, rowCells_mgk, iv_list, rv_list, ivZ, rvZ, mgl_agg]
          refine ev_nil (way_false (by simp [BTm.den, Tm.i, Tm.s, Tm.den, env, vInt, vBool, vStr, exI] <;> omega) (tree_ite ?_))
          by_cases h2 : 0 < hf
          · refine ev_nil (way_true (by simp [BTm.den, Tm.i, Tm.s, Tm.den, env, vInt, vBool, vStr, exI] <;> omega) (tree_leaf ?_))
            refine ev_nil fun β => ?_
            rw [leaf (by omega)]; simp [BTm.den, Tm.i, Tm.s, Tm.den, env, vInt, vBool, vStr, exI, SW.den, SV.den, Cell.den, densP, Piece.den, denV, rowCells_mgk, iv_list, rv_list, ivZ, rvZ, mgl_agg]
          refine ev_nil (way_false (by simp [BTm.den, Tm.i, Tm.s, Tm.den, env, vInt, vBool, vStr, exI] <;> omega) (tree_ite ?_))
          refine ev_elem [.int .u32 (x : Nat)] rfl rfl (l := mgl 32 q.natAbs) (m := [.int .u32 (x : Nat)]) (k := 0) (by simp [BTm.den, Tm.i, Tm.s, Tm.den, env, vInt, vBool, vStr, exI]) (fun β => rowCells_mgk 32 _) (fun β => rfl) hel ?_
          refine ev_fits o (by simp [BTm.den, Tm.i, Tm.s, Tm.den, env, vInt, vBool, vStr, exI, hod]) (rng_u32 _ (by rw [← hod, Int.tmod_eq_emod_of_nonneg (by omega)]; omega)) ?_
          by_cases ho : o = 0
          · refine ev_nil (way_true (by simp [BTm.den, Tm.i, Tm.s, Tm.den, env, vInt, vBool, vStr, exI, hod, ho]) (tree_leaf ?_))
            refine ev_nil fun β => ?_
            rw [leaf (by omega)]; simp [BTm.den, Tm.i, Tm.s, Tm.den, env, vInt, vBool, vStr, exI, SW.den, SV.den, Cell.den, densP, Piece.den, denV, rowCells_mgk, iv_list, rv_list, ivZ, rvZ, mgl_agg]
          · refine ev_nil (way_false (by simp [BTm.den, Tm.i, Tm.s, Tm.den, env, vInt, vBool, vStr, exI, hod, ho]) (tree_leaf ?_))
            refine ev_nil fun β => ?_
            rw [leaf (by omega)]; simp [BTm.den, Tm.i, Tm.s, Tm.den, env, vInt, vBool, vStr, exI, SW.den, SV.den, Cell.den, densP, Piece.den, denV, rowCells_mgk, iv_list, rv_list, ivZ, rvZ, mgl_agg]
        refine ev_nil (way_false (by simp [BTm.den, Tm.i, Tm.s, Tm.den, env, vInt, vBool, vStr, exI] <;> omega) (tree_leaf ?_))
        refine ev_nil fun β => ?_
        rw [e31 (by omega), ← zero_num]; simp [BTm.den, Tm.i, Tm.s, Tm.den, env, vInt, vBool, vStr, exI, SW.den, SV.den, Cell.den, densP, Piece.den, denV, denT]
      · have hsR : sR ≠ 0 := fun e => hR (s1.1 e)
        have up : 1 ≤ mode ∧ mode ≤ 6 → z = q1 → V = .tuple #[.agg (ivZ q1), .int .i64 0] := fun h e => by rw [eV h, e]
        have dn : 1 ≤ mode ∧ mode ≤ 6 → z = q → V = .tuple #[.agg (ivZ q), .int .i64 0] := fun h e => by rw [eV h, e]
        refine ev_nil (way_false (by simp [BTm.den, Tm.i, Tm.s, Tm.den, env, vInt, vBool, vStr, exI] <;> omega) (tree_ite ?_))
        refine ev_zc [.bool (decide (1 < 0)), .agg (mgk 32 (1 : Int).natAbs)] (pure_gives (gO)) ?_
        refine ev_zc [.bool (decide (q1 < 0)), .agg (mgk 32 (q1 : Int).natAbs), .int .i64 0] (pure_gives (gI)) ?_
        by_cases m1 : mode = 1
        · refine ev_nil (way_true (by simp [BTm.den, Tm.i, Tm.s, Tm.den, env, vInt, vBool, vStr, exI] <;> omega) (tree_ite ?_))
          refine ev_zc [.int .i64 sq] (pure_gives (gQ)) ?_
          by_cases hs : sq < 0
          · refine ev_nil (way_true (by simp [BTm.den, Tm.i, Tm.s, Tm.den, env, vInt, vBool, vStr, exI] <;> omega) (tree_leaf ?_))
            refine ev_nil fun β => ?_
            rw [up (by omega) (s4 hR m1 hs)]; simp [BTm.den, Tm.i, Tm.s, Tm.den, env, vInt, vBool, vStr, exI, SW.den, SV.den, Cell.den, densP, Piece.den, denV, rowCells_mgk, iv_list, rv_list, ivZ, rvZ, mgl_agg]
          · refine ev_nil (way_false (by simp [BTm.den, Tm.i, Tm.s, Tm.den, env, vInt, vBool, vStr, exI] <;> omega) (tree_leaf ?_))
            refine ev_nil fun β => ?_
            rw [dn (by omega) (s5 hR m1 hs)]; simp [BTm.den, Tm.i, Tm.s, Tm.den, env, vInt, vBool, vStr, exI, SW.den, SV.den, Cell.den, densP, Piece.den, denV, rowCells_mgk, iv_list, rv_list, ivZ, rvZ, mgl_agg]
        refine ev_nil (way_false (by simp [BTm.den, Tm.i, Tm.s, Tm.den, env, vInt, vBool, vStr, exI] <;> omega) (tree_ite ?_))
        by_cases m2 : mode = 2
        · refine ev_nil (way_true (by simp [BTm.den, Tm.i, Tm.s, Tm.den, env, vInt, vBool, vStr, exI] <;> omega) (tree_ite ?_))
          refine ev_zc [.int .i64 sq] (pure_gives (gQ)) ?_
          by_cases hs : sq < 0
          · refine ev_nil (way_true (by simp [BTm.den, Tm.i, Tm.s, Tm.den, env, vInt, vBool, vStr, exI] <;> omega) (tree_leaf ?_))
            refine ev_nil fun β => ?_
            rw [dn (by omega) (s7 hR m2 hs)]; simp [BTm.den, Tm.i, Tm.s, Tm.den, env, vInt, vBool, vStr, exI, SW.den, SV.den, Cell.den, densP, Piece.den, denV, rowCells_mgk, iv_list, rv_list, ivZ, rvZ, mgl_agg]
          · refine ev_nil (way_false (by simp [BTm.den, Tm.i, Tm.s, Tm.den, env, vInt, vBool, vStr, exI] <;> omega) (tree_leaf ?_))
            refine ev_nil fun β => ?_
            rw [up (by omega) (s6 hR m2 hs)]; simp [BTm.den, Tm.i, Tm.s, Tm.den, env, vInt, vBool, vStr, exI, SW.den, SV.den, Cell.den, densP, Piece.den, denV, rowCells_mgk, iv_list, rv_list, ivZ, rvZ, mgl_agg]
        refine ev_nil (way_false (by simp [BTm.den, Tm.i, Tm.s, Tm.den, env, vInt, vBool, vStr, exI] <;> omega) (tree_ite ?_))
        by_cases m3 : mode = 3
        · refine ev_nil (way_true (by simp [BTm.den, Tm.i, Tm.s, Tm.den, env, vInt, vBool, vStr, exI] <;> omega) (tree_leaf ?_))
          refine ev_nil fun β => ?_
          rw [dn (by omega) (s8 hR m3)]; simp [BTm.den, Tm.i, Tm.s, Tm.den, env, vInt, vBool, vStr, exI, SW.den, SV.den, Cell.den, densP, Piece.den, denV, rowCells_mgk, iv_list, rv_list, ivZ, rvZ, mgl_agg]
        refine ev_nil (way_false (by simp [BTm.den, Tm.i, Tm.s, Tm.den, env, vInt, vBool, vStr, exI] <;> omega) (tree_ite ?_))
        by_cases m4 : mode = 4
        · refine ev_nil (way_true (by simp [BTm.den, Tm.i, Tm.s, Tm.den, env, vInt, vBool, vStr, exI] <;> omega) (tree_leaf ?_))
          refine ev_nil fun β => ?_
          rw [up (by omega) (s9 hR m4)]; simp [BTm.den, Tm.i, Tm.s, Tm.den, env, vInt, vBool, vStr, exI, SW.den, SV.den, Cell.den, densP, Piece.den, denV, rowCells_mgk, iv_list, rv_list, ivZ, rvZ, mgl_agg]
        refine ev_nil (way_false (by simp [BTm.den, Tm.i, Tm.s, Tm.den, env, vInt, vBool, vStr, exI] <;> omega) (tree_ite ?_))
        by_cases m5 : mode = 5
        · refine ev_nil (way_true (by simp [BTm.den, Tm.i, Tm.s, Tm.den, env, vInt, vBool, vStr, exI] <;> omega) (tree_ite ?_))
          by_cases h1 : hf < 0
          · refine ev_nil (way_true (by simp [BTm.den, Tm.i, Tm.s, Tm.den, env, vInt, vBool, vStr, exI] <;> omega) (tree_leaf ?_))
            refine ev_nil fun β => ?_
            rw [dn (by omega) (s11 hR (.inl m5) h1)]; simp [BTm.den, Tm.i, Tm.s, Tm.den, env, vInt, vBool, vStr, exI, SW.den, SV.den, Cell.den, densP, Piece.den, denV, rowCells_mgk, iv_list, rv_list, ivZ, rvZ, mgl_agg]
          refine ev_nil (way_false (by simp [BTm.den, Tm.i, Tm.s, Tm.den, env, vInt, vBool, vStr, exI] <;> omega) (tree_ite ?_))
          by_cases h2 : 0 < hf
          · refine ev_nil (way_true (by simp [BTm.den, Tm.i, Tm.s, Tm.den, env, vInt, vBool, vStr, exI] <;> omega) (tree_leaf ?_))
            refine ev_nil fun β => ?_
            rw [up (by omega) (s10 hR (.inl m5) h2)]; simp [BTm.den, Tm.i, Tm.s, Tm.den, env, vInt, vBool, vStr, exI, SW.den, SV.den, Cell.den, densP, Piece.den, denV, rowCells_mgk, iv_list, rv_list, ivZ, rvZ, mgl_agg]
          refine ev_nil (way_false (by simp [BTm.den, Tm.i, Tm.s, Tm.den, env, vInt, vBool, vStr, exI] <;> omega) (tree_ite ?_))
          refine ev_zc [.int .i64 sq] (pure_gives (gQ)) ?_
          by_cases hs : sq < 0
          · refine ev_nil (way_true (by simp [BTm.den, Tm.i, Tm.s, Tm.den, env, vInt, vBool, vStr, exI] <;> omega) (tree_leaf ?_))
            refine ev_nil fun β => ?_
            rw [dn (by omega) (s13 hR m5 (by omega) hs)]; simp [BTm.den, Tm.i, Tm.s, Tm.den, env, vInt, vBool, vStr, exI, SW.den, SV.den, Cell.den, densP, Piece.den, denV, rowCells_mgk, iv_list, rv_list, ivZ, rvZ, mgl_agg]
          · refine ev_nil (way_false (by simp [BTm.den, Tm.i, Tm.s, Tm.den, env, vInt, vBool, vStr, exI] <;> omega) (tree_leaf ?_))
            refine ev_nil fun β => ?_
            rw [up (by omega) (s12 hR m5 (by omega) hs)]; simp [BTm.den, Tm.i, Tm.s, Tm.den, env, vInt, vBool, vStr, exI, SW.den, SV.den, Cell.den, densP, Piece.den, denV, rowCells_mgk, iv_list, rv_list, ivZ, rvZ, mgl_agg]
        refine ev_nil (way_false (by simp [BTm.den, Tm.i, Tm.s, Tm.den, env, vInt, vBool, vStr, exI] <;> omega) (tree_ite ?_))
        by_cases m6 : mode = 6
        · refine ev_nil (way_true (by simp [BTm.den, Tm.i, Tm.s, Tm.den, env, vInt, vBool, vStr, exI] <;> omega) (tree_ite ?_))
          by_cases h1 : hf < 0
          · refine ev_nil (way_true (by simp [BTm.den, Tm.i, Tm.s, Tm.den, env, vInt, vBool, vStr, exI] <;> omega) (tree_leaf ?_))
            refine ev_nil fun β => ?_
            rw [dn (by omega) (s11 hR (.inr m6) h1)]; simp [BTm.den, Tm.i, Tm.s, Tm.den, env, vInt, vBool, vStr, exI, SW.den, SV.den, Cell.den, densP, Piece.den, denV, rowCells_mgk, iv_list, rv_list, ivZ, rvZ, mgl_agg]
          refine ev_nil (way_false (by simp [BTm.den, Tm.i, Tm.s, Tm.den, env, vInt, vBool, vStr, exI] <;> omega) (tree_ite ?_))
          by_cases h2 : 0 < hf
          · refine ev_nil (way_true (by simp [BTm.den, Tm.i, Tm.s, Tm.den, env, vInt, vBool, vStr, exI] <;> omega) (tree_leaf ?_))
            refine ev_nil fun β => ?_
            rw [up (by omega) (s10 hR (.inr m6) h2)]; simp [BTm.den, Tm.i, Tm.s, Tm.den, env, vInt, vBool, vStr, exI, SW.den, SV.den, Cell.den, densP, Piece.den, denV, rowCells_mgk, iv_list, rv_list, ivZ, rvZ, mgl_agg]
          refine ev_nil (way_false (by simp [BTm.den, Tm.i, Tm.s, Tm.den, env, vInt, vBool, vStr, exI] <;> omega) (tree_ite ?_))
          refine ev_elem [.int .u32 (x : Nat)] rfl rfl (l := mgl 32 q.natAbs) (m := [.int .u32 (x : Nat)]) (k := 0) (by simp [BTm.den, Tm.i, Tm.s, Tm.den, env, vInt, vBool, vStr, exI]) (fun β => rowCells_mgk 32 _) (fun β => rfl) hel ?_
          refine ev_fits o (by simp [BTm.den, Tm.i, Tm.s, Tm.den, env, vInt, vBool, vStr, exI, hod]) (rng_u32 _ (by rw [← hod, Int.tmod_eq_emod_of_nonneg (by omega)]; omega)) ?_
          by_cases ho : o = 0
          · refine ev_nil (way_true (by simp [BTm.den, Tm.i, Tm.s, Tm.den, env, vInt, vBool, vStr, exI, hod, ho]) (tree_leaf ?_))
            refine ev_nil fun β => ?_
            rw [dn (by omega) (s15 hR m6 (by omega) ho)]; simp [BTm.den, Tm.i, Tm.s, Tm.den, env, vInt, vBool, vStr, exI, SW.den, SV.den, Cell.den, densP, Piece.den, denV, rowCells_mgk, iv_list, rv_list, ivZ, rvZ, mgl_agg]
          · refine ev_nil (way_false (by simp [BTm.den, Tm.i, Tm.s, Tm.den, env, vInt, vBool, vStr, exI, hod, ho]) (tree_leaf ?_))
            refine ev_nil fun β => ?_
            rw [up (by omega) (s14 hR m6 (by omega) (by rw [← hod, Int.tmod_eq_emod_of_nonneg (by omega)] at ho ⊢; omega))]; simp [BTm.den, Tm.i, Tm.s, Tm.den, env, vInt, vBool, vStr, exI, SW.den, SV.den, Cell.den, densP, Piece.den, denV, rowCells_mgk, iv_list, rv_list, ivZ, rvZ, mgl_agg]
        refine ev_nil (way_false (by simp [BTm.den, Tm.i, Tm.s, Tm.den, env, vInt, vBool, vStr, exI] <;> omega) (tree_leaf ?_))
        refine ev_nil fun β => ?_
        rw [e31 (by omega), ← zero_num]; simp [BTm.den, Tm.i, Tm.s, Tm.den, env, vInt, vBool, vStr, exI, SW.den, SV.den, Cell.den, densP, Piece.den, denV, denT]
    · refine ev_nil (way_false (by simp [BTm.den, Tm.i, Tm.s, Tm.den, env, vInt, vBool, vStr, exI, hv]) (tree_leaf ?_))
      refine ev_nil fun β => ?_
      rw [err 20 (by omega) (by unfold rndE; rw [← hv1, if_pos (by simpa using hv)]), ← zero_num]; simp [BTm.den, Tm.i, Tm.s, Tm.den, env, vInt, vBool, vStr, exI, SW.den, SV.den, Cell.den, densP, Piece.den, denV, denT]
  have h := pure_of plain [.bool s, .agg (mgk 32 n), .bool t, .agg (mgk 32 m), .int .i64 p, .int .i64 mode] tpRound_ok (by kernel_rfl) _ main
  refine gives_pure ?_
  simpa [ratR, intW, BTm.den, Tm.i, Tm.s, Tm.den, env, vInt, vBool, vStr, exI, SW.den, SV.den, Cell.den, densP, Piece.den, denV, denT, rowCells_mgk, rv_list] using h
end Go.Proofs.YtkiefjbfepjcbaaGreatDoor
end
section
namespace Go.Proofs.YtkiefjbfepjcbaaGreatDoor
open Go.RowKit Go.Proofs.YtkiefjbfepjcbaaGreatDoor.Sx
set_option linter.unusedSimpArgs false
set_option linter.unusedVariables false

theorem toI_in {z : Int} (h : -9223372036854775808 ≤ z ∧ z ≤ 9223372036854775807) : toI (decide (z < 0)) z.natAbs = .tuple #[.int .i64 z, .bool true] := by
  unfold toI; rw [vz_self, if_pos h]
theorem toI_out {z : Int} (h : ¬ (-9223372036854775808 ≤ z ∧ z ≤ 9223372036854775807)) : toI (decide (z < 0)) z.natAbs = .tuple #[.int .i64 0, .bool false] := by
  unfold toI; rw [vz_self, if_neg h]
set_option maxHeartbeats 2000000 in
theorem roundInt_p (s t : Bool) (n m : Nat) (p mode : Int) (hn : n < pw 32) (hm : m < pw 32) :
    Gives Tryz.prog 13 #[.agg (rv s n t m), .int .i64 p, .int .i64 mode] (roundIntR s n t m p mode) := by
  have g1 := round_p s t n m p mode hn hm
  have hf := rndQ_fits s t n m p mode
  have g2 := toInt_any (decide (rndQ s n t m p mode < 0)) (rndQ s n t m p mode).natAbs hf
  obtain ⟨V, hV⟩ : ∃ V, V = roundIntR s n t m p mode := ⟨_, rfl⟩
  rw [← hV]
  unfold roundR at g1
  unfold roundIntR intE at hV
  generalize rndQ s n t m p mode = z at g1 g2 hV hf
  generalize rndE s n t m p mode = e at g1 hV
  have main : tpRoundInt.den Tryz.prog (fun ρ' ret => ∀ β, ret.val.den (env ρ') β = V) [.bool s, .agg (mgk 32 n), .bool t, .agg (mgk 32 m), .int .i64 p, .int .i64 mode] := by
    refine tree_ite ?_
    refine ev_zc [.bool (decide (z < 0)), .agg (mgk 32 (z : Int).natAbs), .int .i64 e] (pure_gives (g1)) ?_
    by_cases he : e = 0
    · subst he
      refine ev_nil (way_true (by simp [BTm.den, Tm.i, Tm.s, Tm.den, env, vInt, vBool, vStr, exI] <;> omega) (tree_ite ?_))
      rw [if_pos rfl] at hV
      by_cases hi : -9223372036854775808 ≤ z ∧ z ≤ 9223372036854775807
      · rw [toI_in hi] at g2
        refine ev_zc [.int .i64 z, .bool true] (pure_gives (g2)) ?_
        refine ev_nil (way_true (by simp [BTm.den, Tm.i, Tm.s, Tm.den, env, vInt, vBool, vStr, exI] <;> omega) (tree_ite ?_))
        by_cases h1 : z < -1000000000000000
        · refine ev_nil (way_true (by simp [BTm.den, Tm.i, Tm.s, Tm.den, env, vInt, vBool, vStr, exI] <;> omega) (tree_leaf ?_))
          refine ev_nil fun β => ?_
          rw [hV, if_neg (show ¬ (-1000000000000000 ≤ z ∧ z ≤ 1000000000000000) by omega), if_neg (by omega)]; simp [BTm.den, Tm.i, Tm.s, Tm.den, env, vInt, vBool, vStr, exI, SW.den, SV.den, Cell.den, densP, Piece.den, denV, rowCells_mgk, iv_list, rv_list, ivZ, rvZ, mgl_agg]
        refine ev_nil (way_false (by simp [BTm.den, Tm.i, Tm.s, Tm.den, env, vInt, vBool, vStr, exI] <;> omega) (tree_ite ?_))
        by_cases h2 : 1000000000000000 < z
        · refine ev_nil (way_true (by simp [BTm.den, Tm.i, Tm.s, Tm.den, env, vInt, vBool, vStr, exI] <;> omega) (tree_leaf ?_))
          refine ev_nil fun β => ?_
          rw [hV, if_neg (show ¬ (-1000000000000000 ≤ z ∧ z ≤ 1000000000000000) by omega), if_neg (by omega)]; simp [BTm.den, Tm.i, Tm.s, Tm.den, env, vInt, vBool, vStr, exI, SW.den, SV.den, Cell.den, densP, Piece.den, denV, rowCells_mgk, iv_list, rv_list, ivZ, rvZ, mgl_agg]
        · refine ev_nil (way_false (by simp [BTm.den, Tm.i, Tm.s, Tm.den, env, vInt, vBool, vStr, exI] <;> omega) (tree_leaf ?_))
          refine ev_nil fun β => ?_
          rw [hV, if_pos (show (-1000000000000000 ≤ z ∧ z ≤ 1000000000000000) by omega), if_pos rfl]; simp [BTm.den, Tm.i, Tm.s, Tm.den, env, vInt, vBool, vStr, exI, SW.den, SV.den, Cell.den, densP, Piece.den, denV, rowCells_mgk, iv_list, rv_list, ivZ, rvZ, mgl_agg]
      · rw [toI_out hi] at g2
        refine ev_zc [.int .i64 0, .bool false] (pure_gives (g2)) ?_
        refine ev_nil (way_false (by simp [BTm.den, Tm.i, Tm.s, Tm.den, env, vInt, vBool, vStr, exI] <;> omega) (tree_leaf ?_))
        refine ev_nil fun β => ?_
        rw [hV, if_neg (show ¬ (-1000000000000000 ≤ z ∧ z ≤ 1000000000000000) by omega), if_neg (by omega)]; simp [BTm.den, Tm.i, Tm.s, Tm.den, env, vInt, vBool, vStr, exI, SW.den, SV.den, Cell.den, densP, Piece.den, denV, rowCells_mgk, iv_list, rv_list, ivZ, rvZ, mgl_agg]
    · refine ev_nil (way_false (by simp [BTm.den, Tm.i, Tm.s, Tm.den, env, vInt, vBool, vStr, exI] <;> omega) (tree_leaf ?_))
      refine ev_nil fun β => ?_
      rw [hV, if_neg he, if_neg he]; simp [BTm.den, Tm.i, Tm.s, Tm.den, env, vInt, vBool, vStr, exI, SW.den, SV.den, Cell.den, densP, Piece.den, denV, rowCells_mgk, iv_list, rv_list, ivZ, rvZ, mgl_agg]
  have h := pure_of plain [.bool s, .agg (mgk 32 n), .bool t, .agg (mgk 32 m), .int .i64 p, .int .i64 mode] tpRoundInt_ok (by kernel_rfl) _ main
  refine gives_pure ?_
  simpa [ratR, intW, BTm.den, Tm.i, Tm.s, Tm.den, env, vInt, vBool, vStr, exI, SW.den, SV.den, Cell.den, densP, Piece.den, denV, denT, rowCells_mgk, rv_list] using h
end Go.Proofs.YtkiefjbfepjcbaaGreatDoor
end
section
namespace Go.Proofs.YtkiefjbfepjcbaaGreatDoor
open Go.RowKit Go.Proofs.YtkiefjbfepjcbaaGreatDoor.Sx
set_option linter.unusedSimpArgs false
set_option linter.unusedVariables false

def byteN (s : ByteArray) (i : Nat) : Nat := (s.data.toList.getD i 0).toNat
def digB (s : ByteArray) (i : Nat) : Prop := 48 ≤ byteN s i ∧ byteN s i ≤ 57
theorem byteI_N (s : ByteArray) (i : Nat) : byteI s ((i : Nat) : Int) = ((byteN s i : Nat) : Int) := by
  unfold byteI byteN; rw [Int.toNat_natCast]
theorem dig_end (s : ByteArray) : ∃ (j : Nat) (bad : Bool), j ≤ s.size ∧ (∀ i, i < j → digB s i) ∧ (bad = true → j < s.size ∧ ¬ digB s j) ∧ (bad = false → j = s.size) := by
  classical
  by_cases h : ∃ i, i < s.size ∧ ¬ digB s i
  · obtain ⟨j, ⟨h1, h2⟩, h3⟩ := least h
    refine ⟨j, true, Nat.le_of_lt h1, fun i hi => ?_, fun _ => ⟨h1, h2⟩, fun h => by cases h⟩
    by_cases hd : digB s i
    · exact hd
    · exact absurd (h3 i ⟨by omega, hd⟩) (by omega)
  · refine ⟨s.size, false, Nat.le_refl _, fun i hi => ?_, (fun h => by cases h), fun _ => rfl⟩
    by_cases hd : digB s i
    · exact hd
    · exact absurd ⟨i, hi, hd⟩ h
set_option maxHeartbeats 4000000 in
theorem dig_loop (s : ByteArray) (most : Int) (hl : s.size ≤ 9223372036854775807) (j : Nat) (bad : Bool) (h1 : j ≤ s.size) (h2 : ∀ i, i < j → digB s i) (h3 : bad = true → j < s.size ∧ ¬ digB s j) (h4 : bad = false → j = s.size) :
    Ev.holds Tryz.prog (env [.string s, .int .i64 most, .int .i64 (j : Nat), .bool false, .bool bad]) (.loop 80 0 strS80_0 strH80_0 (.exit 0) (.some (4, .ret)) 3) := by
  refine loop_holds plain (m := 3) (x := .exit 0) (alt := .some (4, .ret)) [.string s, .int .i64 most] [.int .i64 (j : Nat), .bool false, .bool bad] tpIsDig0_ok tpIsDig0_fine
    (fun vs => ∃ i : Nat, i ≤ j ∧ vs = [.int .i64 (i : Nat), .bool false, .bool bad])
    (fun vs => s.size + 1 - (vInt (vs.getD 0 undef)).toNat) tpIsDig0_diff ?_ ?_
  · refine ⟨[.int .i64 (0 : Nat), .bool false, .bool bad], rfl, ⟨0, by omega, rfl⟩, ?_⟩
    simp [tpIsDig0_d, BTm.den, Tm.i, Tm.s, Tm.den, env, vInt, vBool, vStr, exI, SW.den, SV.den, Cell.den, densP, Piece.den, denV, denT]
  · rintro vs hlv ⟨i, hi, rfl⟩
    clear hlv
    have hb := byteI_N s i
    have hend : i < s.size → ¬ digB s i → bad = true ∧ i = j := fun h5 h6 => by
      have h7 : i = j := by
        rcases Nat.lt_or_ge i j with h | h
        · exact absurd (h2 i h) h6
        · omega
      subst h7
      cases hbad : bad with
      | true => exact ⟨rfl, rfl⟩
      | false => exact absurd (h4 hbad) (by omega)
    refine tree_ite (ev_nil ⟨fun hlt => tree_ite ?_, fun hlt => tree_leaf (ev_nil ?_)⟩)
    · have hlt : i < s.size := by simpa [BTm.den, Tm.i, Tm.s, Tm.den, env, vInt, vBool, vStr, exI] using hlt
      refine ev_need (by simp [BTm.den, Tm.i, Tm.s, Tm.den, env, vInt, vBool, vStr, exI]) ?_
      refine ev_need (by simp [BTm.den, Tm.i, Tm.s, Tm.den, env, vInt, vBool, vStr, exI, hlt]) ?_
      refine ev_nil ⟨fun h => tree_leaf (ev_nil ?_), fun h => tree_ite ?_⟩
      · have h : ((byteN s i : Nat) : Int) < 48 := by simpa [BTm.den, Tm.i, Tm.s, Tm.den, env, vInt, vBool, vStr, exI, hb] using h
        obtain ⟨hbad, rfl⟩ := hend hlt (fun hd => by have := hd.1; omega)
        subst hbad
        refine ⟨rfl, ?_⟩
        simp [BTm.den, Tm.i, Tm.s, Tm.den, env, vInt, vBool, vStr, exI, SW.den, SV.den, Cell.den, densP, Piece.den, denV, denT]
      · have h : ¬ ((byteN s i : Nat) : Int) < 48 := by simpa [BTm.den, Tm.i, Tm.s, Tm.den, env, vInt, vBool, vStr, exI, hb] using h
        refine ev_need (by simp [BTm.den, Tm.i, Tm.s, Tm.den, env, vInt, vBool, vStr, exI]) ?_
        refine ev_need (by simp [BTm.den, Tm.i, Tm.s, Tm.den, env, vInt, vBool, vStr, exI, hlt]) ?_
        refine ev_nil ⟨fun h' => tree_leaf (ev_nil ?_), fun h' => tree_leaf ?_⟩
        · have h' : 57 < ((byteN s i : Nat) : Int) := by simpa [BTm.den, Tm.i, Tm.s, Tm.den, env, vInt, vBool, vStr, exI, hb] using h'
          obtain ⟨hbad, rfl⟩ := hend hlt (fun hd => by have := hd.2; omega)
          subst hbad
          refine ⟨rfl, ?_⟩
          simp [BTm.den, Tm.i, Tm.s, Tm.den, env, vInt, vBool, vStr, exI, SW.den, SV.den, Cell.den, densP, Piece.den, denV, denT]
        · have h' : ¬ 57 < ((byteN s i : Nat) : Int) := by simpa [BTm.den, Tm.i, Tm.s, Tm.den, env, vInt, vBool, vStr, exI, hb] using h'
          have hij : i + 1 ≤ j := by
            rcases Nat.lt_or_ge i j with h8 | h8
            · omega
            · have h9 : i = j := by omega
              subst h9
              cases hbad : bad with
              | true => exact absurd ⟨by omega, by omega⟩ (h3 hbad).2
              | false => have := h4 hbad; omega
          refine ev_fits ((i + 1 : Nat) : Int) (by simp [BTm.den, Tm.i, Tm.s, Tm.den, env, vInt, vBool, vStr, exI]) (rng_i64 _ (by omega)) ?_
          refine ev_nil ⟨[.int .i64 (i + 1 : Nat), .bool false, .bool bad], rfl, ⟨i + 1, hij, rfl⟩, by simp [vInt]; omega, ?_⟩
          simp [BTm.den, Tm.i, Tm.s, Tm.den, env, vInt, vBool, vStr, exI, SW.den, SV.den, Cell.den, densP, Piece.den, denV, denT]
    · have hlt : ¬ i < s.size := by simpa [BTm.den, Tm.i, Tm.s, Tm.den, env, vInt, vBool, vStr, exI] using hlt
      obtain rfl : i = j := by omega
      have hbad : bad = false := by
        cases hb : bad with
        | true => have := (h3 hb).1; omega
        | false => rfl
      subst hbad
      refine ⟨rfl, ?_⟩
      simp [BTm.den, Tm.i, Tm.s, Tm.den, env, vInt, vBool, vStr, exI, SW.den, SV.den, Cell.den, densP, Piece.den, denV, denT]

def DigOk (s : ByteArray) (most : Int) : Prop := s.size ≠ 0 ∧ (s.size : Int) ≤ most ∧ ∀ i, i < s.size → digB s i
theorem dig_any (s : ByteArray) (most : Int) (hl : s.size ≤ 9223372036854775807) : ∃ b : Bool, (b = true ↔ DigOk s most) ∧ Gives Tryz.prog 80 #[.string s, .int .i64 most] (.bool b) := by
  obtain ⟨j, bad, h1, h2, h3, h4⟩ := dig_end s
  have hall : bad = false ↔ ∀ i, i < s.size → digB s i := by
    constructor
    · intro h i hi; exact h2 i (by have := h4 h; omega)
    · intro h
      cases hb : bad with
      | true => exact absurd (h j (h3 hb).1) (h3 hb).2
      | false => rfl
  have fin : ∀ b : Bool, (tpIsDig.den Tryz.prog (fun ρ' ret => ∀ β, ret.val.den (env ρ') β = .bool b) [.string s, .int .i64 most]) → Gives Tryz.prog 80 #[.string s, .int .i64 most] (.bool b) := fun b main => by
    have h := pure_of plain [.string s, .int .i64 most] tpIsDig_ok (by kernel_rfl) _ main
    refine gives_pure ?_
    simpa [strW, intW, BTm.den, Tm.i, Tm.s, Tm.den, env, vInt, vBool, vStr, exI, SW.den, SV.den, Cell.den, densP, Piece.den, denV, denT] using h
  by_cases e1 : s.size = 0
  · refine ⟨false, ⟨fun h => (by cases h), fun h => absurd e1 h.1⟩, fin _ ?_⟩
    refine tree_ite (ev_nil (way_true (by simp [BTm.den, Tm.i, Tm.s, Tm.den, env, vInt, vBool, vStr, exI, e1]) (tree_leaf (ev_nil fun β => ?_))))
    simp [BTm.den, Tm.i, Tm.s, Tm.den, env, vInt, vBool, vStr, exI, SW.den, SV.den, Cell.den, densP, Piece.den, denV, denT]
  by_cases e2 : most < s.size
  · refine ⟨false, ⟨fun h => (by cases h), fun h => absurd h.2.1 (by omega)⟩, fin _ ?_⟩
    refine tree_ite (ev_nil (way_false (by simp [BTm.den, Tm.i, Tm.s, Tm.den, env, vInt, vBool, vStr, exI, e1]) (tree_ite (ev_nil (way_true (by simp [BTm.den, Tm.i, Tm.s, Tm.den, env, vInt, vBool, vStr, exI]; omega) (tree_leaf (ev_nil fun β => ?_)))))))
    simp [BTm.den, Tm.i, Tm.s, Tm.den, env, vInt, vBool, vStr, exI, SW.den, SV.den, Cell.den, densP, Piece.den, denV, denT]
  have hlo := dig_loop s most hl j bad h1 h2 h3 h4
  refine ⟨!bad, ⟨fun h => ⟨e1, by omega, hall.1 (by simpa using h)⟩, fun h => by simpa using hall.2 h.2.2⟩, fin _ ?_⟩
  refine tree_ite (ev_nil (way_false (by simp [BTm.den, Tm.i, Tm.s, Tm.den, env, vInt, vBool, vStr, exI, e1]) (tree_ite (ev_nil (way_false (by simp [BTm.den, Tm.i, Tm.s, Tm.den, env, vInt, vBool, vStr, exI]; omega) (tree_ite ?_))))))
  refine ev_loop [.int .i64 (j : Nat), .bool false, .bool bad] rfl rfl hlo ?_
  refine ev_nil ⟨fun h => tree_leaf (ev_nil fun β => ?_), fun h => tree_leaf (ev_nil fun β => ?_)⟩
  · have h : bad = true := by simpa [BTm.den, Tm.i, Tm.s, Tm.den, env, vInt, vBool, vStr, exI] using h
    rw [h]; simp [BTm.den, Tm.i, Tm.s, Tm.den, env, vInt, vBool, vStr, exI, SW.den, SV.den, Cell.den, densP, Piece.den, denV, denT]
  · have h : bad = false := by simpa [BTm.den, Tm.i, Tm.s, Tm.den, env, vInt, vBool, vStr, exI] using h
    rw [h]; simp [BTm.den, Tm.i, Tm.s, Tm.den, env, vInt, vBool, vStr, exI, SW.den, SV.den, Cell.den, densP, Piece.den, denV, denT]
def numN (s : ByteArray) : Nat → Nat
  | 0 => 0
  | i + 1 => 10 * numN s i + (byteN s i - 48)
theorem numN_lt (s : ByteArray) : ∀ i, (∀ k, k < i → digB s k) → numN s i < 10 ^ i
  | 0, _ => by simp [numN]
  | i + 1, h => by
    have h1 := numN_lt s i fun k hk => h k (by omega)
    have h2 := (h i (by omega)).2
    rw [numN, Nat.pow_succ]; omega
theorem ten17 {i : Nat} (h : i ≤ 17) : 10 ^ i ≤ 100000000000000000 := by
  have h1 : 10 ^ i ≤ 10 ^ 17 := Nat.pow_le_pow_right (by omega) h
  have h2 : 10 ^ 17 = 100000000000000000 := by decide
  omega
set_option maxHeartbeats 4000000 in
theorem count_loop (s : ByteArray) (hs : s.size ≤ 17) (hd : ∀ k, k < s.size → digB s k) :
    Ev.holds Tryz.prog (env [.string s, .int .i64 (s.size : Nat), .int .i64 (numN s s.size : Nat)]) (.loop 126 0 strS126_0 strH126_0 (.exit 0) .none 2) := by
  refine loop_holds plain (m := 2) (x := .exit 0) (alt := none) [.string s] [.int .i64 (s.size : Nat), .int .i64 (numN s s.size : Nat)] tpCount0_ok tpCount0_fine
    (fun vs => ∃ i : Nat, i ≤ s.size ∧ vs = [.int .i64 (i : Nat), .int .i64 (numN s i : Nat)])
    (fun vs => s.size - (vInt (vs.getD 0 undef)).toNat) tpCount0_diff ?_ ?_
  · refine ⟨[.int .i64 (0 : Nat), .int .i64 (numN s 0 : Nat)], rfl, ⟨0, by omega, rfl⟩, ?_⟩
    simp [tpCount0_d, numN, BTm.den, Tm.i, Tm.s, Tm.den, env, vInt, vBool, vStr, exI, SW.den, SV.den, Cell.den, densP, Piece.den, denV, denT]
  · rintro vs hl ⟨i, hi, rfl⟩
    clear hl
    have hb := byteI_N s i
    refine tree_ite (ev_nil ⟨fun hlt => tree_leaf ?_, fun hlt => tree_leaf (ev_nil ?_)⟩)
    · have hlt : i < s.size := by simpa [BTm.den, Tm.i, Tm.s, Tm.den, env, vInt, vBool, vStr, exI] using hlt
      have h1 := numN_lt s (i + 1) fun k hk => hd k (by omega)
      have h2 := ten17 (show i + 1 ≤ 17 by omega)
      have h3 := hd i hlt
      have h4 : numN s (i + 1) = 10 * numN s i + (byteN s i - 48) := rfl
      unfold digB at h3
      obtain ⟨b, hbb⟩ : ∃ b, b = byteN s i := ⟨_, rfl⟩
      obtain ⟨x, hx⟩ : ∃ b, b = numN s i := ⟨_, rfl⟩
      obtain ⟨y, hy⟩ : ∃ b, b = numN s (i + 1) := ⟨_, rfl⟩
      rw [← hbb] at hb h3 h4
      rw [← hx] at h4 ⊢
      rw [← hy] at h4 h1
      have hw : ariI .sub .u8 (byteI s ((i : Nat) : Int)) 48 = ((b - 48 : Nat) : Int) := by
        rw [hb]; simp only [ariI, IntKind.wrap_u8]; omega
      refine ev_fits ((10 * x : Nat) : Int) (by simp [BTm.den, Tm.i, Tm.s, Tm.den, env, vInt, vBool, vStr, exI]) (rng_i64 _ (by omega)) ?_
      refine ev_need (by simp [BTm.den, Tm.i, Tm.s, Tm.den, env, vInt, vBool, vStr, exI]) ?_
      refine ev_need (by simp [BTm.den, Tm.i, Tm.s, Tm.den, env, vInt, vBool, vStr, exI, hlt]) ?_
      refine ev_fits ((b - 48 : Nat) : Int) (by simp [BTm.den, Tm.i, Tm.s, Tm.den, env, vInt, vBool, vStr, exI, hw]) (rng_i64 _ (by omega)) ?_
      refine ev_fits ((y : Nat) : Int) (by simp [BTm.den, Tm.i, Tm.s, Tm.den, env, vInt, vBool, vStr, exI, hw]; omega) (rng_i64 _ (by omega)) ?_
      refine ev_fits ((i + 1 : Nat) : Int) (by simp [BTm.den, Tm.i, Tm.s, Tm.den, env, vInt, vBool, vStr, exI]) (rng_i64 _ (by omega)) ?_
      refine ev_nil ⟨[.int .i64 (i + 1 : Nat), .int .i64 (y : Nat)], rfl, ⟨i + 1, by omega, by rw [hy]⟩, by simp [vInt]; omega, ?_⟩
      have e : (10 * (x : Int) + ((b - 48 : Nat) : Int)) = ((y : Nat) : Int) := by omega
      simp [BTm.den, Tm.i, Tm.s, Tm.den, env, vInt, vBool, vStr, exI, SW.den, SV.den, Cell.den, densP, Piece.den, denV, denT, hw, e]
    · have hlt : ¬ i < s.size := by simpa [BTm.den, Tm.i, Tm.s, Tm.den, env, vInt, vBool, vStr, exI] using hlt
      obtain rfl : i = s.size := by omega
      refine ⟨rfl, ?_⟩
      simp [BTm.den, Tm.i, Tm.s, Tm.den, env, vInt, vBool, vStr, exI, SW.den, SV.den, Cell.den, densP, Piece.den, denV, denT]
theorem count_any (s : ByteArray) (hs : s.size ≤ 17) (hd : ∀ k, k < s.size → digB s k) : Gives Tryz.prog 126 #[.string s] (.agg (ivZ (numN s s.size : Nat))) := by
  have hl := count_loop s hs hd
  have h1 := numN_lt s s.size hd
  have h2 := ten17 hs
  obtain ⟨x, hx⟩ : ∃ b : Int, b = ((numN s s.size : Nat) : Int) := ⟨_, rfl⟩
  have g := fromInt_any x (by omega)
  rw [← hx] at hl ⊢
  have main : tpCount.den Tryz.prog (fun ρ' ret => ∀ β, ret.val.den (env ρ') β = .agg (ivZ x)) [.string s] := by
    refine tree_leaf ?_
    refine ev_loop [.int .i64 (s.size : Nat), .int .i64 x] rfl rfl hl ?_
    refine ev_zc [.bool (decide (x < 0)), .agg (mgk 32 (x : Int).natAbs)] (pure_gives (g)) ?_
    refine ev_nil fun β => ?_
    simp [BTm.den, Tm.i, Tm.s, Tm.den, env, vInt, vBool, vStr, exI, SW.den, SV.den, Cell.den, densP, Piece.den, denV, rowCells_mgk, iv_list, rv_list, ivZ, rvZ, mgl_agg]
  have h := pure_of plain [.string s] tpCount_ok (by kernel_rfl) _ main
  refine gives_pure ?_
  simpa [strW, BTm.den, Tm.i, Tm.s, Tm.den, env, vInt, vBool, vStr, exI, SW.den, SV.den, Cell.den, densP, Piece.den, denV, denT] using h
end Go.Proofs.YtkiefjbfepjcbaaGreatDoor
end
section
namespace Go.Proofs
open Go.Shelf
def Tryz.laysM171_ren : Go.Shelf.Ren := ⟨fun | 171 => 90 | 243 => 135 | 246 => 168 | 283 => 188 | 284 => 189 | 285 => 190 | 286 => 191 | 129 => 208 | 317 => 207 | 318 => 209 | 319 => 210 | 320 => 211 | 337 => 215 | 338 => 216 | n => n, fun | 3 => 3 | 9 => 9 | 2 => 2 | 4 => 4 | 171 => 178 | 0 => 0 | 53 => 115 | 37 => 100 | 5 => 5 | 173 => 181 | 212 => 197 | 51 => 22 | 20 => 20 | 213 => 198 | 46 => 116 | 232 => 205 | 233 => 206 | n => n, fun | 17 => 2 | 18 => 5 | 19 => 6 | n => n⟩
theorem Tryz.laysM171 : Go.Proofs.LaysM.n171 Tryz.prog Tryz.laysM171_ren := {
  mixed := by kernel_rfl
  f129 := Tryz.func208.trans (congrArg some (by kernel_rfl))
  f171 := Tryz.func90.trans (congrArg some (by kernel_rfl))
  f243 := Tryz.func135.trans (congrArg some (by kernel_rfl))
  f246 := Tryz.func168.trans (congrArg some (by kernel_rfl))
  f283 := Tryz.func188.trans (congrArg some (by kernel_rfl))
  f284 := Tryz.func189.trans (congrArg some (by kernel_rfl))
  f285 := Tryz.func190.trans (congrArg some (by kernel_rfl))
  f286 := Tryz.func191.trans (congrArg some (by kernel_rfl))
  f317 := Tryz.func207.trans (congrArg some (by kernel_rfl))
  f318 := Tryz.func209.trans (congrArg some (by kernel_rfl))
  f319 := Tryz.func210.trans (congrArg some (by kernel_rfl))
  f320 := Tryz.func211.trans (congrArg some (by kernel_rfl))
  f337 := Tryz.func215.trans (congrArg some (by kernel_rfl))
  f338 := Tryz.func216.trans (congrArg some (by kernel_rfl))
  t0 := Tryz.underlying0
  a0 := Tryz.isAgg0
  z0 := Tryz.sizeOf0
  v0 := Tryz.zeroValue0
  t2 := Tryz.underlying2
  a2 := Tryz.isAgg2
  z2 := Tryz.sizeOf2
  v2 := Tryz.zeroValue2
  t3 := Tryz.underlying3
  a3 := Tryz.isAgg3
  z3 := Tryz.sizeOf3
  v3 := Tryz.zeroValue3
  t4 := Tryz.underlying4
  a4 := Tryz.isAgg4
  z4 := Tryz.sizeOf4
  v4 := Tryz.zeroValue4
  t5 := Tryz.underlying5
  a5 := Tryz.isAgg5
  z5 := Tryz.sizeOf5
  v5 := Tryz.zeroValue5
  t9 := Tryz.underlying9
  a9 := Tryz.isAgg9
  z9 := Tryz.sizeOf9
  v9 := Tryz.zeroValue9
  t20 := Tryz.underlying20
  a20 := Tryz.isAgg20
  z20 := Tryz.sizeOf20
  v20 := Tryz.zeroValue20
  t37 := Tryz.underlying100
  a37 := Tryz.isAgg100
  z37 := Tryz.sizeOf100
  v37 := Tryz.zeroValue100
  t46 := Tryz.underlying116
  a46 := Tryz.isAgg116
  z46 := Tryz.sizeOf116
  v46 := Tryz.zeroValue116
  t51 := Tryz.underlying22
  a51 := Tryz.isAgg22
  z51 := Tryz.sizeOf22
  v51 := Tryz.zeroValue22
  t53 := Tryz.underlying115
  a53 := Tryz.isAgg115
  z53 := Tryz.sizeOf115
  v53 := Tryz.zeroValue115
  t171 := Tryz.underlying178
  a171 := Tryz.isAgg178
  z171 := Tryz.sizeOf178
  v171 := Tryz.zeroValue178
  t173 := Tryz.underlying181
  a173 := Tryz.isAgg181
  z173 := Tryz.sizeOf181
  v173 := Tryz.zeroValue181
  t212 := Tryz.underlying197
  a212 := Tryz.isAgg197
  z212 := Tryz.sizeOf197
  v212 := Tryz.zeroValue197
  t213 := Tryz.underlying198
  a213 := Tryz.isAgg198
  z213 := Tryz.sizeOf198
  t232 := Tryz.underlying205
  a232 := Tryz.isAgg205
  z232 := Tryz.sizeOf205
  v232 := Tryz.zeroValue205
  t233 := Tryz.underlying206
  a233 := Tryz.isAgg206
  z233 := Tryz.sizeOf206
  v233 := Tryz.zeroValue206
  g17 := by kernel_rfl
  g18 := by kernel_rfl
  g19 := by kernel_rfl
  i0 := by kernel_rfl
  i2 := by kernel_rfl
  i3 := by kernel_rfl
  i4 := by kernel_rfl
  i5 := by kernel_rfl
  i9 := by kernel_rfl
  i20 := by kernel_rfl
  i37 := by kernel_rfl
  i46 := by kernel_rfl
  i51 := by kernel_rfl
  i53 := by kernel_rfl
  i171 := by kernel_rfl
  i173 := by kernel_rfl
  i212 := by kernel_rfl
  i232 := by kernel_rfl
  i233 := by kernel_rfl
  m17 := by kernel_rfl
  m18 := by kernel_rfl
  m19 := by kernel_rfl }
open Go.RowKit Go.Sort Go.Lib in
theorem Tryz.strconv_Itoa (n : Int) (h0 : -9223372036854775808 ≤ n) (h1 : n ≤ 9223372036854775807) (w : World) (htab : Lib.TabIs Tryz.prog w "internal/strconv.uint64pow10" .u64 Lib.pow10Tab) :
    Calls Tryz.prog 90 #[.int .i64 n] w fun e w' => e = .returned (.string ⟨(Lib.itoa n).toArray⟩) ∧ ∃ k os, w' = grow (w.drewN k) os := Any.strconv_Itoa Tryz.laysM171 n h0 h1 w htab
def Tryz.lays219_ren : Go.Shelf.Ren := ⟨fun | 219 => 161 | 217 => 180 | 225 => 181 | 224 => 182 | 267 => 183 | 266 => 203 | 314 => 204 | n => n, fun | 9 => 9 | 3 => 3 | 4 => 4 | 5 => 5 | 46 => 116 | 146 => 164 | 51 => 22 | n => n, fun | 1 => 0 | n => n⟩
theorem Tryz.lays219 : Go.Proofs.Lays.n219 Tryz.prog Tryz.lays219_ren := {
  mixed := by kernel_rfl
  f217 := Tryz.func180.trans (congrArg some (by kernel_rfl))
  f219 := Tryz.func161.trans (congrArg some (by kernel_rfl))
  f224 := Tryz.func182.trans (congrArg some (by kernel_rfl))
  f225 := Tryz.func181.trans (congrArg some (by kernel_rfl))
  f266 := Tryz.func203.trans (congrArg some (by kernel_rfl))
  f267 := Tryz.func183.trans (congrArg some (by kernel_rfl))
  f314 := Tryz.func204.trans (congrArg some (by kernel_rfl))
  t3 := Tryz.underlying3
  a3 := Tryz.isAgg3
  z3 := Tryz.sizeOf3
  v3 := Tryz.zeroValue3
  t4 := Tryz.underlying4
  a4 := Tryz.isAgg4
  z4 := Tryz.sizeOf4
  v4 := Tryz.zeroValue4
  t5 := Tryz.underlying5
  a5 := Tryz.isAgg5
  z5 := Tryz.sizeOf5
  v5 := Tryz.zeroValue5
  t9 := Tryz.underlying9
  a9 := Tryz.isAgg9
  z9 := Tryz.sizeOf9
  v9 := Tryz.zeroValue9
  t46 := Tryz.underlying116
  a46 := Tryz.isAgg116
  z46 := Tryz.sizeOf116
  v46 := Tryz.zeroValue116
  t51 := Tryz.underlying22
  a51 := Tryz.isAgg22
  z51 := Tryz.sizeOf22
  v51 := Tryz.zeroValue22
  t146 := Tryz.underlying164
  a146 := Tryz.isAgg164
  z146 := Tryz.sizeOf164
  v146 := Tryz.zeroValue164
  g1 := by kernel_rfl }
open Go.RowKit Go.Lib in
theorem Tryz.stringslite_Index_one (s : ByteArray) (c : UInt8) (w : World) :
    Calls Tryz.prog 161 #[.string s, .string ⟨#[c]⟩] w fun e w' => e = .returned (.int .i64 (Lib.indexByte s.data.toList c)) ∧ w' = w := Any.stringslite_Index_one Tryz.lays219 s c w
def Tryz.lays105_ren : Go.Shelf.Ren := ⟨fun | 105 => 134 | 212 => 163 | 99 => 86 | 165 => 164 | 166 => 165 | 170 => 166 | 169 => 167 | 263 => 184 | 264 => 185 | 206 => 130 | 240 => 186 | 241 => 187 | 276 => 205 | 277 => 206 | n => n, fun | 9 => 9 | 3 => 3 | 4 => 4 | 20 => 20 | 0 => 0 | 46 => 116 | 109 => 150 | 5 => 5 | 72 => 154 | 76 => 158 | 51 => 22 | 146 => 164 | 53 => 115 | 148 => 175 | 70 => 152 | 37 => 100 | 75 => 157 | 127 => 177 | 164 => 193 | 80 => 161 | n => n, fun | n => n⟩
theorem Tryz.lays105 : Go.Proofs.Lays.n105 Tryz.prog Tryz.lays105_ren := {
  mixed := by kernel_rfl
  f99 := Tryz.func86.trans (congrArg some (by kernel_rfl))
  f105 := Tryz.func134.trans (congrArg some (by kernel_rfl))
  f165 := Tryz.func164.trans (congrArg some (by kernel_rfl))
  f166 := Tryz.func165.trans (congrArg some (by kernel_rfl))
  f169 := Tryz.func167.trans (congrArg some (by kernel_rfl))
  f170 := Tryz.func166.trans (congrArg some (by kernel_rfl))
  f206 := Tryz.func130.trans (congrArg some (by kernel_rfl))
  f212 := Tryz.func163.trans (congrArg some (by kernel_rfl))
  f240 := Tryz.func186.trans (congrArg some (by kernel_rfl))
  f241 := Tryz.func187.trans (congrArg some (by kernel_rfl))
  f263 := Tryz.func184.trans (congrArg some (by kernel_rfl))
  f264 := Tryz.func185.trans (congrArg some (by kernel_rfl))
  f276 := Tryz.func205.trans (congrArg some (by kernel_rfl))
  f277 := Tryz.func206.trans (congrArg some (by kernel_rfl))
  t0 := Tryz.underlying0
  a0 := Tryz.isAgg0
  z0 := Tryz.sizeOf0
  v0 := Tryz.zeroValue0
  t3 := Tryz.underlying3
  a3 := Tryz.isAgg3
  z3 := Tryz.sizeOf3
  v3 := Tryz.zeroValue3
  t4 := Tryz.underlying4
  a4 := Tryz.isAgg4
  z4 := Tryz.sizeOf4
  v4 := Tryz.zeroValue4
  t5 := Tryz.underlying5
  a5 := Tryz.isAgg5
  z5 := Tryz.sizeOf5
  v5 := Tryz.zeroValue5
  t9 := Tryz.underlying9
  a9 := Tryz.isAgg9
  z9 := Tryz.sizeOf9
  v9 := Tryz.zeroValue9
  t20 := Tryz.underlying20
  a20 := Tryz.isAgg20
  z20 := Tryz.sizeOf20
  v20 := Tryz.zeroValue20
  t37 := Tryz.underlying100
  a37 := Tryz.isAgg100
  z37 := Tryz.sizeOf100
  v37 := Tryz.zeroValue100
  t46 := Tryz.underlying116
  a46 := Tryz.isAgg116
  z46 := Tryz.sizeOf116
  v46 := Tryz.zeroValue116
  t51 := Tryz.underlying22
  a51 := Tryz.isAgg22
  z51 := Tryz.sizeOf22
  v51 := Tryz.zeroValue22
  t53 := Tryz.underlying115
  a53 := Tryz.isAgg115
  z53 := Tryz.sizeOf115
  v53 := Tryz.zeroValue115
  t70 := Tryz.underlying152
  a70 := Tryz.isAgg152
  z70 := Tryz.sizeOf152
  v70 := Tryz.zeroValue152
  t72 := Tryz.underlying154
  a72 := Tryz.isAgg154
  z72 := Tryz.sizeOf154
  v72 := Tryz.zeroValue154
  t75 := Tryz.underlying157
  a75 := Tryz.isAgg157
  z75 := Tryz.sizeOf157
  v75 := Tryz.zeroValue157
  t76 := Tryz.underlying158
  a76 := Tryz.isAgg158
  z76 := Tryz.sizeOf158
  v76 := Tryz.zeroValue158
  t109 := Tryz.underlying150
  a109 := Tryz.isAgg150
  z109 := Tryz.sizeOf150
  v109 := Tryz.zeroValue150
  t127 := Tryz.underlying177
  a127 := Tryz.isAgg177
  z127 := Tryz.sizeOf177
  v127 := Tryz.zeroValue177
  t146 := Tryz.underlying164
  a146 := Tryz.isAgg164
  z146 := Tryz.sizeOf164
  v146 := Tryz.zeroValue164
  t148 := Tryz.underlying175
  a148 := Tryz.isAgg175
  z148 := Tryz.sizeOf175
  v148 := Tryz.zeroValue175
  t164 := Tryz.underlying193
  a164 := Tryz.isAgg193
  z164 := Tryz.sizeOf193
  v164 := Tryz.zeroValue193 }
theorem Tryz.Builder_Extra_105 : Builder.Extra Tryz.prog Tryz.lays105_ren := {
  sizeBuilder := by kernel_rfl
  liesBuilder := by kernel_rfl
  t5 := Tryz.underlying5
  a5 := Tryz.isAgg5
  z5 := Tryz.sizeOf5
  v5 := Tryz.zeroValue5
  infoByte := by kernel_rfl
  cellsByte := by kernel_rfl
  sizeByte := by kernel_rfl
  neB5 := by decide }
open Go.RowKit Go.Lib in
theorem Tryz.strings_Repeat (s : ByteArray) (c : Nat) (w : World) (hc : c ≤ 9223372036854775807) (hlen : s.size * c ≤ 140737488355328) :
    Calls Tryz.prog 134 #[.string s, .int .i64 c] w fun e w' => e = .returned (.string ⟨(Lib.repeatL s.data.toList c).toArray⟩) ∧ Below w.heap.size w w' := Any.strings_Repeat Tryz.lays105 Tryz.Builder_Extra_105 s c w hc hlen
end Go.Proofs
end
section
namespace Go.Proofs.YtkiefjbfepjcbaaGreatDoor
open Go.RowKit Go.Proofs.YtkiefjbfepjcbaaGreatDoor.Sx
set_option linter.unusedSimpArgs false
set_option linter.unusedVariables false

def Reads [Outer] (P : Program) (f : FuncId) (args : Array Value) (v : Value) : Prop :=
  ∀ w : World, (∀ x ∈ Outer.r, w.heap[x.1]? = some x.2) → Calls P f args w fun e w' => e = .returned v ∧ Below w.heap.size w w'
theorem Reads.turns [Outer] {P : Program} {f : FuncId} {args : Array Value} {v : Value} (h : Reads P f args v) {ρ : Nat → Value} {β : Nat → Nat} {nx : Nat} {res : SW} (hr : res.den ρ β = v) : Turns P ρ β nx f args [] [] [] res := fun w hro _ =>
  (h w fun x hx => (hro x hx).1).mono fun e w' ⟨he, hb⟩ => ⟨β, fun _ _ => rfl, by rw [hr]; exact he, ⟨hb.os, hb.tape, hb.output, hb.size, fun k hk _ => hb.block k hk⟩, fun x hx => absurd hx (by simp), fun x hx => absurd hx (by simp), fun x hx => absurd hx (by simp)⟩
def HasTab [Outer] : Prop := ∃ g o, (g, o) ∈ Outer.r ∧ ∀ w : World, w.heap[g]? = some o → Lib.TabIs Tryz.prog w "internal/strconv.uint64pow10" .u64 Lib.pow10Tab
theorem itoa_reads [Outer] (hT : HasTab) (n : Int) (h : -9223372036854775808 ≤ n ∧ n ≤ 9223372036854775807) : Reads Tryz.prog 90 #[.int .i64 n] (.string ⟨(Lib.itoa n).toArray⟩) := fun w hr => by
  obtain ⟨g, o, hm, hg⟩ := hT
  refine (Tryz.strconv_Itoa n h.1 h.2 w (hg w (hr _ hm))).mono fun e w' ⟨he, k, os, hw⟩ => ⟨he, ?_⟩
  subst hw
  exact ⟨rfl, rfl, rfl, by simp [Go.Sort.grow, World.drewN], fun k hk => by simp only [Go.Sort.grow, World.drewN]; rw [Array.getElem?_append_left hk]⟩
theorem repeat_any (s : ByteArray) (c : Nat) (hc : c ≤ 9223372036854775807) (hl : s.size * c ≤ 140737488355328) : Gives Tryz.prog 134 #[.string s, .int .i64 (c : Nat)] (.string ⟨(Lib.repeatL s.data.toList c).toArray⟩) := fun w => Tryz.strings_Repeat s c w hc hl
theorem index_any (s : ByteArray) (c : UInt8) : Gives Tryz.prog 161 #[.string s, .string ⟨#[c]⟩] (.int .i64 (Lib.indexByte s.data.toList c)) := fun w =>
  (Tryz.stringslite_Index_one s c w).mono fun e w' ⟨he, hw⟩ => ⟨he, hw ▸ Below.refl _ _⟩
def digC (s : ByteArray) (most : Int) : Bool := (s.size != 0) && decide ((s.size : Int) ≤ most) && (List.range s.size).all fun i => decide (48 ≤ byteN s i) && decide (byteN s i ≤ 57)
theorem digC_ok {s : ByteArray} {most : Int} (h : digC s most = true) : DigOk s most := by
  unfold digC at h
  simp only [Bool.and_eq_true, bne_iff_ne, decide_eq_true_eq, List.all_eq_true, List.mem_range] at h
  exact ⟨h.1.1, h.1.2, fun i hi => h.2 i hi⟩
theorem dig_yes (s : ByteArray) (most : Int) (h : (digC s most && decide (s.size ≤ 9223372036854775807)) = true) : Gives Tryz.prog 80 #[.string s, .int .i64 most] (.bool true) := by
  rw [Bool.and_eq_true, decide_eq_true_eq] at h
  obtain ⟨b, hb, hg⟩ := dig_any s most h.2
  rwa [hb.2 (digC_ok h.1)] at hg
theorem count_yes (s : ByteArray) (z most : Int) (h : digC s most = true) (hs : decide (s.size ≤ 17) = true) (hz : ((numN s s.size : Nat) : Int) = z) : Gives Tryz.prog 126 #[.string s] (.agg (ivZ z)) := by
  have := count_any s (of_decide_eq_true hs) (digC_ok h).2.2
  rwa [hz] at this
set_option maxHeartbeats 4000000 in
theorem parse_050 : Gives Tryz.prog 35 #[.string ⟨#[48, 46, 53, 48]⟩, .int .i64 2] (.tuple #[.agg (rvZ 1 2), .int .i64 0]) := by
  have g1 := index_any ⟨#[48, 46, 53, 48]⟩ 46
  rw [show Lib.indexByte (ByteArray.mk #[48, 46, 53, 48]).data.toList 46 = 1 by decide +kernel] at g1
  have g2 := dig_yes ⟨#[48]⟩ 15 (by decide +kernel)
  have g3 := dig_yes ⟨#[53, 48]⟩ 2 (by decide +kernel)
  have g4 := ten_p 2 (by omega)
  rw [show ten 2 = 100 by decide] at g4
  have g5 := fromInt_any 100 (by omega)
  have g6 := count_yes ⟨#[48]⟩ 0 15 (by decide +kernel) (by decide +kernel) (by decide +kernel)
  have g7 := mul_Z 0 100 (0 * 100) rfl (by decide +kernel) (by decide +kernel) (by decide +kernel)
  have g8 := count_yes ⟨#[53, 48]⟩ 50 2 (by decide +kernel) (by decide +kernel) (by decide +kernel)
  have g9 := add_Z (0 * 100) 50 50 (by decide) (by decide +kernel) (by decide +kernel) (by decide +kernel)
  have g10 := (make_Z 50 100 (by decide +kernel) (by decide +kernel)).1
  rw [show mkZ 50 100 = .tuple #[.agg (rvZ 1 2), .int .i64 0] by kernel_rfl] at g10
  have main : tpParse.den Tryz.prog (fun ρ' ret => ∀ β, ret.val.den (env ρ') β = .tuple #[.agg (rvZ 1 2), .int .i64 0]) [.string ⟨#[48, 46, 53, 48]⟩, .int .i64 2] := by
    unfold tpParse
    repeat (first | with_reducible refine tree_ite ?_ | with_reducible refine tree_leaf ?_ | with_reducible refine ev_need (by decide +kernel) ?_ | with_reducible refine ev_fits _ rfl (by decide +kernel) ?_ | with_reducible refine ev_nil (way_true (by decide +kernel) ?_) | with_reducible refine ev_nil (way_false (by decide +kernel) ?_))
    refine ev_call [.int .i64 1] rfl rfl (pure_gives (g1)) (fun β => by kernel_rfl) (fun β => by kernel_rfl) ?_
    repeat (first | with_reducible refine tree_ite ?_ | with_reducible refine tree_leaf ?_ | with_reducible refine ev_need (by decide +kernel) ?_ | with_reducible refine ev_fits _ rfl (by decide +kernel) ?_ | with_reducible refine ev_nil (way_true (by decide +kernel) ?_) | with_reducible refine ev_nil (way_false (by decide +kernel) ?_))
    refine ev_call [.bool true] rfl rfl (pure_gives (g2)) (fun β => by kernel_rfl) (fun β => by kernel_rfl) ?_
    repeat (first | with_reducible refine tree_ite ?_ | with_reducible refine tree_leaf ?_ | with_reducible refine ev_need (by decide +kernel) ?_ | with_reducible refine ev_fits _ rfl (by decide +kernel) ?_ | with_reducible refine ev_nil (way_true (by decide +kernel) ?_) | with_reducible refine ev_nil (way_false (by decide +kernel) ?_))
    refine ev_call [.bool true] rfl rfl (pure_gives (g3)) (fun β => by kernel_rfl) (fun β => by kernel_rfl) ?_
    repeat (first | with_reducible refine tree_ite ?_ | with_reducible refine tree_leaf ?_ | with_reducible refine ev_need (by decide +kernel) ?_ | with_reducible refine ev_fits _ rfl (by decide +kernel) ?_ | with_reducible refine ev_nil (way_true (by decide +kernel) ?_) | with_reducible refine ev_nil (way_false (by decide +kernel) ?_))
    refine ev_call [.int .i64 100] rfl rfl (pure_gives (g4)) (fun β => by kernel_rfl) (fun β => by kernel_rfl) ?_
    repeat (first | with_reducible refine tree_ite ?_ | with_reducible refine tree_leaf ?_ | with_reducible refine ev_need (by decide +kernel) ?_ | with_reducible refine ev_fits _ rfl (by decide +kernel) ?_ | with_reducible refine ev_nil (way_true (by decide +kernel) ?_) | with_reducible refine ev_nil (way_false (by decide +kernel) ?_))
    refine ev_call [.bool (decide ((100 : Int) < 0)), .agg (mgk 32 (100 : Int).natAbs)] rfl rfl (pure_gives (g5)) (fun β => by kernel_rfl) (fun β => by kernel_rfl) ?_
    repeat (first | with_reducible refine tree_ite ?_ | with_reducible refine tree_leaf ?_ | with_reducible refine ev_need (by decide +kernel) ?_ | with_reducible refine ev_fits _ rfl (by decide +kernel) ?_ | with_reducible refine ev_nil (way_true (by decide +kernel) ?_) | with_reducible refine ev_nil (way_false (by decide +kernel) ?_))
    refine ev_call [.bool (decide ((0 : Int) < 0)), .agg (mgk 32 (0 : Int).natAbs)] rfl rfl (pure_gives (g6)) (fun β => by kernel_rfl) (fun β => by kernel_rfl) ?_
    repeat (first | with_reducible refine tree_ite ?_ | with_reducible refine tree_leaf ?_ | with_reducible refine ev_need (by decide +kernel) ?_ | with_reducible refine ev_fits _ rfl (by decide +kernel) ?_ | with_reducible refine ev_nil (way_true (by decide +kernel) ?_) | with_reducible refine ev_nil (way_false (by decide +kernel) ?_))
    refine ev_call [.bool (decide ((0 * 100 : Int) < 0)), .agg (mgk 32 (0 * 100 : Int).natAbs), .int .i64 0] rfl rfl (pure_gives (g7)) (fun β => by kernel_rfl) (fun β => by kernel_rfl) ?_
    repeat (first | with_reducible refine tree_ite ?_ | with_reducible refine tree_leaf ?_ | with_reducible refine ev_need (by decide +kernel) ?_ | with_reducible refine ev_fits _ rfl (by decide +kernel) ?_ | with_reducible refine ev_nil (way_true (by decide +kernel) ?_) | with_reducible refine ev_nil (way_false (by decide +kernel) ?_))
    refine ev_call [.bool (decide ((50 : Int) < 0)), .agg (mgk 32 (50 : Int).natAbs)] rfl rfl (pure_gives (g8)) (fun β => by kernel_rfl) (fun β => by kernel_rfl) ?_
    repeat (first | with_reducible refine tree_ite ?_ | with_reducible refine tree_leaf ?_ | with_reducible refine ev_need (by decide +kernel) ?_ | with_reducible refine ev_fits _ rfl (by decide +kernel) ?_ | with_reducible refine ev_nil (way_true (by decide +kernel) ?_) | with_reducible refine ev_nil (way_false (by decide +kernel) ?_))
    refine ev_call [.bool (decide ((50 : Int) < 0)), .agg (mgk 32 (50 : Int).natAbs), .int .i64 0] rfl rfl (pure_gives (g9)) (fun β => by kernel_rfl) (fun β => by kernel_rfl) ?_
    repeat (first | with_reducible refine tree_ite ?_ | with_reducible refine tree_leaf ?_ | with_reducible refine ev_need (by decide +kernel) ?_ | with_reducible refine ev_fits _ rfl (by decide +kernel) ?_ | with_reducible refine ev_nil (way_true (by decide +kernel) ?_) | with_reducible refine ev_nil (way_false (by decide +kernel) ?_))
    refine ev_call [.bool (decide ((1 : Int) < 0)), .agg (mgk 32 (1 : Int).natAbs), .bool (decide ((2 : Int) < 0)), .agg (mgk 32 (2 : Int).natAbs), .int .i64 0] rfl rfl (pure_gives (g10)) (fun β => by kernel_rfl) (fun β => by kernel_rfl) ?_
    repeat (first | with_reducible refine tree_ite ?_ | with_reducible refine tree_leaf ?_ | with_reducible refine ev_need (by decide +kernel) ?_ | with_reducible refine ev_fits _ rfl (by decide +kernel) ?_ | with_reducible refine ev_nil (way_true (by decide +kernel) ?_) | with_reducible refine ev_nil (way_false (by decide +kernel) ?_))
    exact ev_nil fun β => by kernel_rfl
  have h := pure_of plain [.string ⟨#[48, 46, 53, 48]⟩, .int .i64 2] tpParse_ok (by kernel_rfl) _ main
  refine gives_pure ?_
  simpa [strW, intW, BTm.den, Tm.i, Tm.s, Tm.den, env, vInt, vBool, vStr, exI, SW.den, SV.den, Cell.den, densP, Piece.den, denV, denT] using h
set_option maxHeartbeats 4000000 in
theorem parse_15 : Gives Tryz.prog 35 #[.string ⟨#[49, 46, 53]⟩, .int .i64 6] (.tuple #[.agg (rvZ 3 2), .int .i64 0]) := by
  have g1 := index_any ⟨#[49, 46, 53]⟩ 46
  rw [show Lib.indexByte (ByteArray.mk #[49, 46, 53]).data.toList 46 = 1 by decide +kernel] at g1
  have g2 := dig_yes ⟨#[49]⟩ 15 (by decide +kernel)
  have g3 := dig_yes ⟨#[53]⟩ 6 (by decide +kernel)
  have g4 := ten_p 1 (by omega)
  rw [show ten 1 = 10 by decide] at g4
  have g5 := fromInt_any 10 (by omega)
  have g6 := count_yes ⟨#[49]⟩ 1 15 (by decide +kernel) (by decide +kernel) (by decide +kernel)
  have g7 := mul_Z 1 10 (1 * 10) rfl (by decide +kernel) (by decide +kernel) (by decide +kernel)
  have g8 := count_yes ⟨#[53]⟩ 5 6 (by decide +kernel) (by decide +kernel) (by decide +kernel)
  have g9 := add_Z (1 * 10) 5 15 (by decide) (by decide +kernel) (by decide +kernel) (by decide +kernel)
  have g10 := (make_Z 15 10 (by decide +kernel) (by decide +kernel)).1
  rw [show mkZ 15 10 = .tuple #[.agg (rvZ 3 2), .int .i64 0] by kernel_rfl] at g10
  have main : tpParse.den Tryz.prog (fun ρ' ret => ∀ β, ret.val.den (env ρ') β = .tuple #[.agg (rvZ 3 2), .int .i64 0]) [.string ⟨#[49, 46, 53]⟩, .int .i64 6] := by
    unfold tpParse
    repeat (first | with_reducible refine tree_ite ?_ | with_reducible refine tree_leaf ?_ | with_reducible refine ev_need (by decide +kernel) ?_ | with_reducible refine ev_fits _ rfl (by decide +kernel) ?_ | with_reducible refine ev_nil (way_true (by decide +kernel) ?_) | with_reducible refine ev_nil (way_false (by decide +kernel) ?_))
    refine ev_call [.int .i64 1] rfl rfl (pure_gives (g1)) (fun β => by kernel_rfl) (fun β => by kernel_rfl) ?_
    repeat (first | with_reducible refine tree_ite ?_ | with_reducible refine tree_leaf ?_ | with_reducible refine ev_need (by decide +kernel) ?_ | with_reducible refine ev_fits _ rfl (by decide +kernel) ?_ | with_reducible refine ev_nil (way_true (by decide +kernel) ?_) | with_reducible refine ev_nil (way_false (by decide +kernel) ?_))
    refine ev_call [.bool true] rfl rfl (pure_gives (g2)) (fun β => by kernel_rfl) (fun β => by kernel_rfl) ?_
    repeat (first | with_reducible refine tree_ite ?_ | with_reducible refine tree_leaf ?_ | with_reducible refine ev_need (by decide +kernel) ?_ | with_reducible refine ev_fits _ rfl (by decide +kernel) ?_ | with_reducible refine ev_nil (way_true (by decide +kernel) ?_) | with_reducible refine ev_nil (way_false (by decide +kernel) ?_))
    refine ev_call [.bool true] rfl rfl (pure_gives (g3)) (fun β => by kernel_rfl) (fun β => by kernel_rfl) ?_
    repeat (first | with_reducible refine tree_ite ?_ | with_reducible refine tree_leaf ?_ | with_reducible refine ev_need (by decide +kernel) ?_ | with_reducible refine ev_fits _ rfl (by decide +kernel) ?_ | with_reducible refine ev_nil (way_true (by decide +kernel) ?_) | with_reducible refine ev_nil (way_false (by decide +kernel) ?_))
    refine ev_call [.int .i64 10] rfl rfl (pure_gives (g4)) (fun β => by kernel_rfl) (fun β => by kernel_rfl) ?_
    repeat (first | with_reducible refine tree_ite ?_ | with_reducible refine tree_leaf ?_ | with_reducible refine ev_need (by decide +kernel) ?_ | with_reducible refine ev_fits _ rfl (by decide +kernel) ?_ | with_reducible refine ev_nil (way_true (by decide +kernel) ?_) | with_reducible refine ev_nil (way_false (by decide +kernel) ?_))
    refine ev_call [.bool (decide ((10 : Int) < 0)), .agg (mgk 32 (10 : Int).natAbs)] rfl rfl (pure_gives (g5)) (fun β => by kernel_rfl) (fun β => by kernel_rfl) ?_
    repeat (first | with_reducible refine tree_ite ?_ | with_reducible refine tree_leaf ?_ | with_reducible refine ev_need (by decide +kernel) ?_ | with_reducible refine ev_fits _ rfl (by decide +kernel) ?_ | with_reducible refine ev_nil (way_true (by decide +kernel) ?_) | with_reducible refine ev_nil (way_false (by decide +kernel) ?_))
    refine ev_call [.bool (decide ((1 : Int) < 0)), .agg (mgk 32 (1 : Int).natAbs)] rfl rfl (pure_gives (g6)) (fun β => by kernel_rfl) (fun β => by kernel_rfl) ?_
    repeat (first | with_reducible refine tree_ite ?_ | with_reducible refine tree_leaf ?_ | with_reducible refine ev_need (by decide +kernel) ?_ | with_reducible refine ev_fits _ rfl (by decide +kernel) ?_ | with_reducible refine ev_nil (way_true (by decide +kernel) ?_) | with_reducible refine ev_nil (way_false (by decide +kernel) ?_))
    refine ev_call [.bool (decide ((1 * 10 : Int) < 0)), .agg (mgk 32 (1 * 10 : Int).natAbs), .int .i64 0] rfl rfl (pure_gives (g7)) (fun β => by kernel_rfl) (fun β => by kernel_rfl) ?_
    repeat (first | with_reducible refine tree_ite ?_ | with_reducible refine tree_leaf ?_ | with_reducible refine ev_need (by decide +kernel) ?_ | with_reducible refine ev_fits _ rfl (by decide +kernel) ?_ | with_reducible refine ev_nil (way_true (by decide +kernel) ?_) | with_reducible refine ev_nil (way_false (by decide +kernel) ?_))
    refine ev_call [.bool (decide ((5 : Int) < 0)), .agg (mgk 32 (5 : Int).natAbs)] rfl rfl (pure_gives (g8)) (fun β => by kernel_rfl) (fun β => by kernel_rfl) ?_
    repeat (first | with_reducible refine tree_ite ?_ | with_reducible refine tree_leaf ?_ | with_reducible refine ev_need (by decide +kernel) ?_ | with_reducible refine ev_fits _ rfl (by decide +kernel) ?_ | with_reducible refine ev_nil (way_true (by decide +kernel) ?_) | with_reducible refine ev_nil (way_false (by decide +kernel) ?_))
    refine ev_call [.bool (decide ((15 : Int) < 0)), .agg (mgk 32 (15 : Int).natAbs), .int .i64 0] rfl rfl (pure_gives (g9)) (fun β => by kernel_rfl) (fun β => by kernel_rfl) ?_
    repeat (first | with_reducible refine tree_ite ?_ | with_reducible refine tree_leaf ?_ | with_reducible refine ev_need (by decide +kernel) ?_ | with_reducible refine ev_fits _ rfl (by decide +kernel) ?_ | with_reducible refine ev_nil (way_true (by decide +kernel) ?_) | with_reducible refine ev_nil (way_false (by decide +kernel) ?_))
    refine ev_call [.bool (decide ((3 : Int) < 0)), .agg (mgk 32 (3 : Int).natAbs), .bool (decide ((2 : Int) < 0)), .agg (mgk 32 (2 : Int).natAbs), .int .i64 0] rfl rfl (pure_gives (g10)) (fun β => by kernel_rfl) (fun β => by kernel_rfl) ?_
    repeat (first | with_reducible refine tree_ite ?_ | with_reducible refine tree_leaf ?_ | with_reducible refine ev_need (by decide +kernel) ?_ | with_reducible refine ev_fits _ rfl (by decide +kernel) ?_ | with_reducible refine ev_nil (way_true (by decide +kernel) ?_) | with_reducible refine ev_nil (way_false (by decide +kernel) ?_))
    exact ev_nil fun β => by kernel_rfl
  have h := pure_of plain [.string ⟨#[49, 46, 53]⟩, .int .i64 6] tpParse_ok (by kernel_rfl) _ main
  refine gives_pure ?_
  simpa [strW, intW, BTm.den, Tm.i, Tm.s, Tm.den, env, vInt, vBool, vStr, exI, SW.den, SV.den, Cell.den, densP, Piece.den, denV, denT] using h
theorem Reads.ev [Outer] {P : Program} {f : FuncId} {args A : Array Value} {v : Value} (h : Reads P f args v) {ρ : Nat → Value} {β : Nat → Nat} {nx : Nat} {res : SW} (hA : A = args) (hr : res.den ρ β = v) : Turns P ρ β nx f A [] [] [] res := by
  subst hA; exact h.turns hr
theorem reads_gives [Outer] {f : FuncId} {args : Array Value} {v : Value} (h : Gives Tryz.prog f args v) : Reads Tryz.prog f args v := fun w _ => pure_gives h w
theorem of_closed (x y a b : Int) (hx : -9223372036854775808 ≤ x ∧ x ≤ 9223372036854775807) (hy : -9223372036854775808 ≤ y ∧ y ≤ 9223372036854775807) (he : mkZ x y = .tuple #[.agg (rvZ a b), .int .i64 0]) : Gives Tryz.prog 23 #[.int .i64 x, .int .i64 y] (.agg (rvZ a b)) := by
  have g := (of_rat x y hx hy).2
  rw [he] at g
  have main : tmOf.den Tryz.prog (fun ρ' ret => ∀ β, ret.val.den (env ρ') β = .agg (rvZ a b)) [.int .i64 x, .int .i64 y] := by
    refine tree_leaf ?_
    refine ev_zc [.bool (decide (a < 0)), .agg (mgk 32 (a : Int).natAbs), .bool (decide (b < 0)), .agg (mgk 32 (b : Int).natAbs), .int .i64 0] (pure_gives (g)) ?_
    refine ev_nil fun β => ?_
    simp [BTm.den, Tm.i, Tm.s, Tm.den, env, vInt, vBool, vStr, exI, SW.den, SV.den, Cell.den, densP, Piece.den, denV, rowCells_mgk, iv_list, rv_list, ivZ, rvZ, mgl_agg]
  have h := pure_of plain [.int .i64 x, .int .i64 y] tmOf_ok (by kernel_rfl) _ main
  refine gives_pure ?_
  simpa [intW, BTm.den, Tm.i, Tm.s, Tm.den, env, vInt, vBool, vStr, exI, SW.den, SV.den, Cell.den, densP, Piece.den, denV, denT] using h
set_option maxHeartbeats 4000000 in
theorem percent_15 : Gives Tryz.prog 37 #[.string ⟨#[49, 46, 53, 37]⟩] (.tuple #[.agg (rvZ 3 200), .int .i64 0]) := by
  have g1 := parse_15
  have g2 := whole_p 100 (by omega)
  have g3 := (quo_rat false false false false 3 2 100 1 (by decide +kernel) (by decide +kernel) (by decide +kernel) (by decide +kernel)).1
  rw [show quoR false 3 false 2 false 100 false 1 = .tuple #[.agg (rvZ 3 200), .int .i64 0] by kernel_rfl] at g3
  have main : tpPercent.den Tryz.prog (fun ρ' ret => ∀ β, ret.val.den (env ρ') β = .tuple #[.agg (rvZ 3 200), .int .i64 0]) [.string ⟨#[49, 46, 53, 37]⟩] := by
    unfold tpPercent
    repeat (first | with_reducible refine tree_ite ?_ | with_reducible refine tree_leaf ?_ | with_reducible refine ev_need (by decide +kernel) ?_ | with_reducible refine ev_fits _ rfl (by decide +kernel) ?_ | with_reducible refine ev_nil (way_true (by decide +kernel) ?_) | with_reducible refine ev_nil (way_false (by decide +kernel) ?_))
    refine ev_call [.bool (decide ((3 : Int) < 0)), .agg (mgk 32 (3 : Int).natAbs), .bool (decide ((2 : Int) < 0)), .agg (mgk 32 (2 : Int).natAbs), .int .i64 0] rfl rfl (pure_gives (g1)) (fun β => by kernel_rfl) (fun β => by kernel_rfl) ?_
    repeat (first | with_reducible refine tree_ite ?_ | with_reducible refine tree_leaf ?_ | with_reducible refine ev_need (by decide +kernel) ?_ | with_reducible refine ev_fits _ rfl (by decide +kernel) ?_ | with_reducible refine ev_nil (way_true (by decide +kernel) ?_) | with_reducible refine ev_nil (way_false (by decide +kernel) ?_))
    refine ev_call [.bool (decide ((100 : Int) < 0)), .agg (mgk 32 (100 : Int).natAbs), .bool (decide ((1 : Int) < 0)), .agg (mgk 32 (1 : Int).natAbs)] rfl rfl (pure_gives (g2)) (fun β => by kernel_rfl) (fun β => by kernel_rfl) ?_
    repeat (first | with_reducible refine tree_ite ?_ | with_reducible refine tree_leaf ?_ | with_reducible refine ev_need (by decide +kernel) ?_ | with_reducible refine ev_fits _ rfl (by decide +kernel) ?_ | with_reducible refine ev_nil (way_true (by decide +kernel) ?_) | with_reducible refine ev_nil (way_false (by decide +kernel) ?_))
    refine ev_call [.bool (decide ((3 : Int) < 0)), .agg (mgk 32 (3 : Int).natAbs), .bool (decide ((200 : Int) < 0)), .agg (mgk 32 (200 : Int).natAbs), .int .i64 0] rfl rfl (pure_gives (g3)) (fun β => by kernel_rfl) (fun β => by kernel_rfl) ?_
    repeat (first | with_reducible refine tree_ite ?_ | with_reducible refine tree_leaf ?_ | with_reducible refine ev_need (by decide +kernel) ?_ | with_reducible refine ev_fits _ rfl (by decide +kernel) ?_ | with_reducible refine ev_nil (way_true (by decide +kernel) ?_) | with_reducible refine ev_nil (way_false (by decide +kernel) ?_))
    exact ev_nil fun β => by kernel_rfl
  have h := pure_of plain [.string ⟨#[49, 46, 53, 37]⟩] tpPercent_ok (by kernel_rfl) _ main
  refine gives_pure ?_
  simpa [strW, BTm.den, Tm.i, Tm.s, Tm.den, env, vInt, vBool, vStr, exI, SW.den, SV.den, Cell.den, densP, Piece.den, denV, denT] using h
theorem itoa_5 : Lib.itoa (-5) = [45, 53] := by
  unfold Lib.itoa
  rw [if_pos (by omega), Lib.decDigits, dif_pos (by decide)]
  rfl
set_option maxHeartbeats 4000000 in
theorem format_5 [Outer] (hT : HasTab) : Reads Tryz.prog 41 #[.int .i64 (-5), .int .i64 2] (.tuple #[.string ⟨#[45, 48, 46, 48, 53]⟩, .int .i64 0]) := fun w hr => by
  have g1 := itoa_reads hT (-5) (by omega)
  rw [itoa_5] at g1
  have g2 := reads_gives (repeat_any ⟨#[48]⟩ 2 (by decide) (by decide))
  rw [show (Lib.repeatL (ByteArray.mk #[48]).data.toList 2).toArray = #[48, 48] by decide +kernel] at g2
  have main : tpFormat.den Tryz.prog (fun ρ' ret => ∀ β, ret.val.den (env ρ') β = .tuple #[.string ⟨#[45, 48, 46, 48, 53]⟩, .int .i64 0]) [.int .i64 (-5), .int .i64 2] := by
    unfold tpFormat
    repeat (first | with_reducible refine tree_ite ?_ | with_reducible refine tree_leaf ?_ | with_reducible refine ev_need (by decide +kernel) ?_ | with_reducible refine ev_fits _ rfl (by decide +kernel) ?_ | with_reducible refine ev_nil (way_true (by decide +kernel) ?_) | with_reducible refine ev_nil (way_false (by decide +kernel) ?_))
    refine ev_turn [.string ⟨#[45, 53]⟩] rfl rfl (fun β _ => Reads.ev (g1) (by kernel_rfl) (by kernel_rfl)) ?_
    repeat (first | with_reducible refine tree_ite ?_ | with_reducible refine tree_leaf ?_ | with_reducible refine ev_need (by decide +kernel) ?_ | with_reducible refine ev_fits _ rfl (by decide +kernel) ?_ | with_reducible refine ev_nil (way_true (by decide +kernel) ?_) | with_reducible refine ev_nil (way_false (by decide +kernel) ?_))
    refine ev_turn [.string ⟨#[48, 48]⟩] rfl rfl (fun β _ => Reads.ev (g2) (by kernel_rfl) (by kernel_rfl)) ?_
    repeat (first | with_reducible refine tree_ite ?_ | with_reducible refine tree_leaf ?_ | with_reducible refine ev_need (by decide +kernel) ?_ | with_reducible refine ev_fits _ rfl (by decide +kernel) ?_ | with_reducible refine ev_nil (way_true (by decide +kernel) ?_) | with_reducible refine ev_nil (way_false (by decide +kernel) ?_))
    exact ev_nil fun β => by kernel_rfl
  have h := reads_of plain [.int .i64 (-5), .int .i64 2] tpFormat_ok (by kernel_rfl) _ main w hr
  simpa [intW, BTm.den, Tm.i, Tm.s, Tm.den, env, vInt, vBool, vStr, exI, SW.den, SV.den, Cell.den, densP, Piece.den, denV, denT] using h
set_option maxHeartbeats 4000000 in
theorem dknown_reads [Outer] (hT : HasTab) : Reads Tryz.prog 19 #[] (.bool true) := fun w hr => by
  have g1 := (of_rat (-5) 2 (by omega) (by omega)).1
  rw [show mkZ (-5) 2 = .tuple #[.agg (rvZ (-5) 2), .int .i64 0] by kernel_rfl] at g1
  have g2 := roundInt_p true false 5 2 0 5 (by decide +kernel) (by decide +kernel)
  rw [show roundIntR true 5 false 2 0 5 = .tuple #[.int .i64 (-3), .int .i64 0] by kernel_rfl] at g2
  have g3 := roundInt_p true false 5 2 0 6 (by decide +kernel) (by decide +kernel)
  rw [show roundIntR true 5 false 2 0 6 = .tuple #[.int .i64 (-2), .int .i64 0] by kernel_rfl] at g3
  have g4 := parse_050
  have g5 := format_5 hT
  have g6 := percent_15
  have g7 := of_closed 1 2 1 2 (by omega) (by omega) (by kernel_rfl)
  have g8 := of_closed 3 200 3 200 (by omega) (by omega) (by kernel_rfl)
  have s1 := same_rZ 1 2 1 2 (by decide +kernel) (by decide +kernel) (by decide +kernel) (by decide +kernel)
  have s2 := same_rZ 3 200 3 200 (by decide +kernel) (by decide +kernel) (by decide +kernel) (by decide +kernel)
  rw [decide_eq_true ⟨rfl, rfl⟩] at s1 s2
  have main : tDKnown.den Tryz.prog (fun ρ' ret => ∀ β, ret.val.den (env ρ') β = .bool true) [] := by
    unfold tDKnown
    repeat (first | with_reducible refine tree_ite ?_ | with_reducible refine tree_leaf ?_ | with_reducible refine ev_need (by decide +kernel) ?_ | with_reducible refine ev_fits _ rfl (by decide +kernel) ?_ | with_reducible refine ev_nil (way_true (by decide +kernel) ?_) | with_reducible refine ev_nil (way_false (by decide +kernel) ?_))
    refine ev_call [.bool (decide ((-5 : Int) < 0)), .agg (mgk 32 (-5 : Int).natAbs), .bool (decide ((2 : Int) < 0)), .agg (mgk 32 (2 : Int).natAbs), .int .i64 0] rfl rfl (pure_gives (g1)) (fun β => by kernel_rfl) (fun β => by kernel_rfl) ?_
    refine ev_call [.int .i64 (-3), .int .i64 0] rfl rfl (pure_gives (g2)) (fun β => by kernel_rfl) (fun β => by kernel_rfl) ?_
    refine ev_call [.int .i64 (-2), .int .i64 0] rfl rfl (pure_gives (g3)) (fun β => by kernel_rfl) (fun β => by kernel_rfl) ?_
    refine ev_call [.bool (decide ((1 : Int) < 0)), .agg (mgk 32 (1 : Int).natAbs), .bool (decide ((2 : Int) < 0)), .agg (mgk 32 (2 : Int).natAbs), .int .i64 0] rfl rfl (pure_gives (g4)) (fun β => by kernel_rfl) (fun β => by kernel_rfl) ?_
    refine ev_turn [.string ⟨#[45, 48, 46, 48, 53]⟩, .int .i64 0] rfl rfl (fun β _ => Reads.ev (g5) (by kernel_rfl) (by kernel_rfl)) ?_
    refine ev_call [.bool (decide ((3 : Int) < 0)), .agg (mgk 32 (3 : Int).natAbs), .bool (decide ((200 : Int) < 0)), .agg (mgk 32 (200 : Int).natAbs), .int .i64 0] rfl rfl (pure_gives (g6)) (fun β => by kernel_rfl) (fun β => by kernel_rfl) ?_
    repeat (first | with_reducible refine tree_ite ?_ | with_reducible refine tree_leaf ?_ | with_reducible refine ev_need (by decide +kernel) ?_ | with_reducible refine ev_fits _ rfl (by decide +kernel) ?_ | with_reducible refine ev_nil (way_true (by decide +kernel) ?_) | with_reducible refine ev_nil (way_false (by decide +kernel) ?_))
    refine ev_call [.bool (decide ((1 : Int) < 0)), .agg (mgk 32 (1 : Int).natAbs), .bool (decide ((2 : Int) < 0)), .agg (mgk 32 (2 : Int).natAbs)] rfl rfl (pure_gives (g7)) (fun β => by kernel_rfl) (fun β => by kernel_rfl) ?_
    refine ev_same true rfl (fun β => by kernel_rfl) (fun β => by kernel_rfl) s1 ?_
    repeat (first | with_reducible refine tree_ite ?_ | with_reducible refine tree_leaf ?_ | with_reducible refine ev_need (by decide +kernel) ?_ | with_reducible refine ev_fits _ rfl (by decide +kernel) ?_ | with_reducible refine ev_nil (way_true (by decide +kernel) ?_) | with_reducible refine ev_nil (way_false (by decide +kernel) ?_))
    refine ev_call [.bool (decide ((3 : Int) < 0)), .agg (mgk 32 (3 : Int).natAbs), .bool (decide ((200 : Int) < 0)), .agg (mgk 32 (200 : Int).natAbs)] rfl rfl (pure_gives (g8)) (fun β => by kernel_rfl) (fun β => by kernel_rfl) ?_
    refine ev_same true rfl (fun β => by kernel_rfl) (fun β => by kernel_rfl) s2 ?_
    exact ev_nil fun β => by kernel_rfl
  have h := reads_of plain [] tDKnown_ok (by kernel_rfl) _ main w hr
  simpa [BTm.den, Tm.i, Tm.s, Tm.den, env, vInt, vBool, vStr, exI, SW.den, SV.den, Cell.den, densP, Piece.den, denV, denT] using h
end Go.Proofs.YtkiefjbfepjcbaaGreatDoor
end
section
namespace Go.Proofs.YtkiefjbfepjcbaaGreatDoor
open Go.RowKit Go.Proofs.YtkiefjbfepjcbaaGreatDoor.Sx
set_option linter.unusedSimpArgs false
set_option linter.unusedVariables false

theorem gPow : Tryz.prog.globalNamed "internal/strconv.uint64pow10" = some 2 := by kernel_rfl
theorem tPow : (Tryz.prog.globals[2]?).map (·.type) = some 197 := by kernel_rfl
theorem tab_obj {W : World} (h : Lib.TabIs Tryz.prog W "internal/strconv.uint64pow10" .u64 Lib.pow10Tab) :
    ∃ o, W.heap[2]? = some o ∧ ∀ w : World, w.heap[2]? = some o → Lib.TabIs Tryz.prog w "internal/strconv.uint64pow10" .u64 Lib.pow10Tab := by
  unfold Lib.TabIs World.var? at h
  rw [gPow, Option.bind_some] at h
  cases hh : W.heap[2]? with
  | none => rw [hh] at h; simp at h
  | some o =>
    refine ⟨o, rfl, fun w hw => ?_⟩
    unfold Lib.TabIs World.var?
    rw [gPow, Option.bind_some, hw]
    rw [hh] at h
    exact h
theorem hasTab_mk {o : Obj} {r : List (Nat × Obj)} (h : ∀ w : World, w.heap[2]? = some o → Lib.TabIs Tryz.prog w "internal/strconv.uint64pow10" .u64 Lib.pow10Tab) : @HasTab ⟨(2, o) :: r⟩ :=
  ⟨2, o, .head _, h⟩
end Go.Proofs.YtkiefjbfepjcbaaGreatDoor
end
section
namespace Go.Proofs.YtkiefjbfepjcbaaGreatDoor
open Go.RowKit Go.Proofs.YtkiefjbfepjcbaaGreatDoor.Sx
set_option linter.unusedSimpArgs false
set_option linter.unusedVariables false

def bs (l : List UInt8) : ByteArray := ⟨l.toArray⟩
theorem bs_size (l : List UInt8) : (bs l).size = l.length := by simp [bs, ByteArray.size]
theorem L_bs (l : List UInt8) : (bs l).data.toList = l := by simp [bs]
theorem bs_L (s : ByteArray) : bs s.data.toList = s := byteArray_ext (L_bs _)
theorem bs_sub (l : List UInt8) (a b : Nat) : (bs l).extract a b = bs ((l.drop a).take (b - a)) := by
  refine byteArray_ext ?_
  rw [L_bs, ByteArray.data_extract, Array.toList_extract, L_bs]
theorem bs_cat (a b : List UInt8) : bs a ++ bs b = bs (a ++ b) := by
  refine byteArray_ext ?_
  rw [L_bs, ByteArray.data_append, Array.toList_append, L_bs, L_bs]
theorem toList_loop (s : ByteArray) : ∀ (n i : Nat) (r : List UInt8), s.size - i = n → ByteArray.toList.loop s i r = r.reverse ++ s.data.toList.drop i
  | 0, i, r, h => by
    unfold ByteArray.toList.loop
    rw [if_neg (by omega), List.drop_of_length_le (by have : s.data.toList.length = s.size := rfl; omega), List.append_nil]
  | n + 1, i, r, h => by
    have hl : s.data.toList.length = s.size := rfl
    unfold ByteArray.toList.loop
    rw [if_pos (by omega), toList_loop s n (i + 1) _ (by omega), List.drop_eq_getElem_cons (i := i) (by omega), List.reverse_cons, List.append_assoc]
    have hi : i < s.data.size := by have : s.data.size = s.size := rfl; omega
    have e : s.get! i = s.data.toList[i]'(by omega) := by
      show s.data[i]! = _
      rw [getElem!_pos s.data i hi, Array.getElem_toList]
    rw [e]; rfl
theorem bs_toList (l : List UInt8) : (bs l).toList = l := by
  unfold ByteArray.toList
  rw [toList_loop _ _ 0 [] rfl, L_bs]; rfl
theorem bs_byte (l : List UInt8) (i : Nat) : byteI (bs l) ((i : Nat) : Int) = ((l.getD i 0).toNat : Int) := by
  unfold byteI; rw [L_bs, Int.toNat_natCast]
theorem str0 : (⟨#[]⟩ : ByteArray) = bs [] := rfl

def minusOf : List UInt8 → List UInt8 × Bool
  | [] => ([], false)
  | c :: l => if c = 45 then (l, true) else (c :: l, false)
theorem cutP_any (l : List UInt8) (hl : l.length ≤ 9223372036854775807) : Gives Tryz.prog 77 #[.string (bs l), .string ⟨#[45]⟩] (.tuple #[.string (bs (minusOf l).1), .bool (minusOf l).2]) := by
  have hs := bs_size l
  have main : tvCutP.den Tryz.prog (fun ρ' ret => ∀ β, ret.val.den (env ρ') β = .tuple #[.string (bs (minusOf l).1), .bool (minusOf l).2]) [.string (bs l)] := by
    cases l with
    | nil =>
      refine tree_ite (ev_nil (way_true (by simp [BTm.den, Tm.i, Tm.s, Tm.den, env, vInt, vBool, vStr, exI, hs]) (tree_leaf (ev_nil fun β => ?_))))
      simp [BTm.den, Tm.i, Tm.s, Tm.den, env, vInt, vBool, vStr, exI, SW.den, SV.den, Cell.den, densP, Piece.den, denV, denT, minusOf]
    | cons c t =>
      have e1 : (bs (c :: t)).extract 0 1 = bs [c] := by rw [bs_sub]; rfl
      have e2 : (bs (c :: t)).extract 1 (bs (c :: t)).size = bs t := by rw [bs_sub, hs]; simp
      refine tree_ite (ev_nil (way_false (by simp [BTm.den, Tm.i, Tm.s, Tm.den, env, vInt, vBool, vStr, exI, hs]; omega) (tree_ite ?_)))
      refine ev_need (by simp [BTm.den, Tm.i, Tm.s, Tm.den, env, vInt, vBool, vStr, exI]) ?_
      refine ev_need (by simp [BTm.den, Tm.i, Tm.s, Tm.den, env, vInt, vBool, vStr, exI, hs]; omega) ?_
      by_cases hc : c = 45
      · subst hc
        refine ev_nil (way_true (by simp [BTm.den, Tm.i, Tm.s, Tm.den, env, vInt, vBool, vStr, exI, e1, bs_toList]) (tree_leaf ?_))
        refine ev_need (by simp [BTm.den, Tm.i, Tm.s, Tm.den, env, vInt, vBool, vStr, exI]) ?_
        refine ev_need (by simp [BTm.den, Tm.i, Tm.s, Tm.den, env, vInt, vBool, vStr, exI, hs]; omega) ?_
        refine ev_nil fun β => ?_
        simp [BTm.den, Tm.i, Tm.s, Tm.den, env, vInt, vBool, vStr, exI, SW.den, SV.den, Cell.den, densP, Piece.den, denV, denT, minusOf, e2]
      · refine ev_nil (way_false (by simp [BTm.den, Tm.i, Tm.s, Tm.den, env, vInt, vBool, vStr, exI, e1, bs_toList, hc]) (tree_leaf ?_))
        refine ev_nil fun β => ?_
        simp [BTm.den, Tm.i, Tm.s, Tm.den, env, vInt, vBool, vStr, exI, SW.den, SV.den, Cell.den, densP, Piece.den, denV, denT, minusOf, hc]
  have h := pure_of plain [.string (bs l)] tvCutP_ok (by kernel_rfl) _ main
  refine gives_pure ?_
  simpa [strW, BTm.den, Tm.i, Tm.s, Tm.den, env, vInt, vBool, vStr, exI, SW.den, SV.den, Cell.den, densP, Piece.den, denV, denT] using h
theorem hasP_any (l : List UInt8) : Gives Tryz.prog 86 #[.string (bs l), .string ⟨#[45]⟩] (.bool (minusOf l).2) := by
  have hs := bs_size l
  have main : tvHasP.den Tryz.prog (fun ρ' ret => ∀ β, ret.val.den (env ρ') β = .bool (minusOf l).2) [.string (bs l)] := by
    cases l with
    | nil =>
      refine tree_ite (ev_nil (way_true (by simp [BTm.den, Tm.i, Tm.s, Tm.den, env, vInt, vBool, vStr, exI, hs]) (tree_leaf (ev_nil fun β => ?_))))
      simp [BTm.den, Tm.i, Tm.s, Tm.den, env, vInt, vBool, vStr, exI, SW.den, SV.den, Cell.den, densP, Piece.den, denV, denT, minusOf]
    | cons c t =>
      have e1 : (bs (c :: t)).extract 0 1 = bs [c] := by rw [bs_sub]; rfl
      refine tree_ite (ev_nil (way_false (by simp [BTm.den, Tm.i, Tm.s, Tm.den, env, vInt, vBool, vStr, exI, hs]; omega) (tree_leaf ?_)))
      refine ev_need (by simp [BTm.den, Tm.i, Tm.s, Tm.den, env, vInt, vBool, vStr, exI]) ?_
      refine ev_need (by simp [BTm.den, Tm.i, Tm.s, Tm.den, env, vInt, vBool, vStr, exI, hs]; omega) ?_
      refine ev_nil fun β => ?_
      by_cases hc : c = 45
      · subst hc; simp [BTm.den, Tm.i, Tm.s, Tm.den, env, vInt, vBool, vStr, exI, SW.den, SV.den, Cell.den, densP, Piece.den, denV, denT, minusOf, e1, bs_toList]
      · simp [BTm.den, Tm.i, Tm.s, Tm.den, env, vInt, vBool, vStr, exI, SW.den, SV.den, Cell.den, densP, Piece.den, denV, denT, minusOf, hc, e1, bs_toList]
  have h := pure_of plain [.string (bs l)] tvHasP_ok (by kernel_rfl) _ main
  refine gives_pure ?_
  simpa [strW, BTm.den, Tm.i, Tm.s, Tm.den, env, vInt, vBool, vStr, exI, SW.den, SV.den, Cell.den, densP, Piece.den, denV, denT] using h

def pctOf (l : List UInt8) : List UInt8 × Bool := if l.getLast? = some 37 then (l.dropLast, true) else (l, false)
theorem cutS_any (l : List UInt8) (hl : l.length ≤ 9223372036854775807) : Gives Tryz.prog 85 #[.string (bs l), .string ⟨#[37]⟩] (.tuple #[.string (bs (pctOf l).1), .bool (pctOf l).2]) := by
  have hs := bs_size l
  have main : tvCutS.den Tryz.prog (fun ρ' ret => ∀ β, ret.val.den (env ρ') β = .tuple #[.string (bs (pctOf l).1), .bool (pctOf l).2]) [.string (bs l)] := by
    rcases List.eq_nil_or_concat l with rfl | ⟨t, c, rfl⟩
    · refine tree_ite (ev_nil (way_true (by simp [BTm.den, Tm.i, Tm.s, Tm.den, env, vInt, vBool, vStr, exI, hs]) (tree_leaf (ev_nil fun β => ?_))))
      simp [BTm.den, Tm.i, Tm.s, Tm.den, env, vInt, vBool, vStr, exI, SW.den, SV.den, Cell.den, densP, Piece.den, denV, denT, pctOf]
    · rw [List.concat_eq_append] at hs hl ⊢
      have hn : (t ++ [c]).length = t.length + 1 := by simp
      rw [hn] at hs hl
      have e1 : (bs (t ++ [c])).extract t.length (t.length + 1) = bs [c] := by rw [bs_sub]; simp
      have e2 : (bs (t ++ [c])).extract 0 t.length = bs t := by rw [bs_sub]; simp
      have e3 : ((t.length + 1 : Nat) : Int) - 1 = ((t.length : Nat) : Int) := by omega
      have e4 : (((bs (t ++ [c])).size : Nat) : Int) = ((t.length + 1 : Nat) : Int) := by rw [hs]
      refine tree_ite (ev_nil (way_false (by simp [BTm.den, Tm.i, Tm.s, Tm.den, env, vInt, vBool, vStr, exI, hs]; omega) (tree_ite ?_)))
      refine ev_fits ((t.length : Nat) : Int) (by simp [BTm.den, Tm.i, Tm.s, Tm.den, env, vInt, vBool, vStr, exI, hs]) (rng_i64 _ (by omega)) ?_
      refine ev_need (by simp [BTm.den, Tm.i, Tm.s, Tm.den, env, vInt, vBool, vStr, exI, hs]) ?_
      refine ev_need (by simp [BTm.den, Tm.i, Tm.s, Tm.den, env, vInt, vBool, vStr, exI, hs]; omega) ?_
      by_cases hc : c = 37
      · subst hc
        refine ev_nil (way_true (by simp [BTm.den, Tm.i, Tm.s, Tm.den, env, vInt, vBool, vStr, exI, hs, e1, bs_toList]) (tree_leaf ?_))
        refine ev_fits ((t.length : Nat) : Int) (by simp [BTm.den, Tm.i, Tm.s, Tm.den, env, vInt, vBool, vStr, exI, hs]) (rng_i64 _ (by omega)) ?_
        refine ev_need (by simp [BTm.den, Tm.i, Tm.s, Tm.den, env, vInt, vBool, vStr, exI, hs]) ?_
        refine ev_need (by simp [BTm.den, Tm.i, Tm.s, Tm.den, env, vInt, vBool, vStr, exI, hs]; omega) ?_
        refine ev_nil fun β => ?_
        have e5 : pctOf (t ++ [37]) = (t, true) := by unfold pctOf; rw [if_pos (by simp)]; simp
        rw [e5]
        simp [BTm.den, Tm.i, Tm.s, Tm.den, env, vInt, vBool, vStr, exI, SW.den, SV.den, Cell.den, densP, Piece.den, denV, denT, hs, e2]
      · refine ev_nil (way_false (by simp [BTm.den, Tm.i, Tm.s, Tm.den, env, vInt, vBool, vStr, exI, hs, e1, bs_toList, hc]) (tree_leaf ?_))
        refine ev_nil fun β => ?_
        have e5 : pctOf (t ++ [c]) = (t ++ [c], false) := by unfold pctOf; rw [if_neg (by simp [hc])]
        rw [e5]
        simp [BTm.den, Tm.i, Tm.s, Tm.den, env, vInt, vBool, vStr, exI, SW.den, SV.den, Cell.den, densP, Piece.den, denV, denT]
  have h := pure_of plain [.string (bs l)] tvCutS_ok (by kernel_rfl) _ main
  refine gives_pure ?_
  simpa [strW, BTm.den, Tm.i, Tm.s, Tm.den, env, vInt, vBool, vStr, exI, SW.den, SV.den, Cell.den, densP, Piece.den, denV, denT] using h
def cutOf (l : List UInt8) : List UInt8 × List UInt8 × Bool := if Lib.indexByte l 46 < 0 then (l, [], false) else (l.take (Lib.indexByte l 46).toNat, l.drop ((Lib.indexByte l 46).toNat + 1), true)
theorem cut_any (l : List UInt8) (hl : l.length ≤ 9223372036854775807) : Gives Tryz.prog 78 #[.string (bs l), .string ⟨#[46]⟩] (.tuple #[.string (bs (cutOf l).1), .string (bs (cutOf l).2.1), .bool (cutOf l).2.2]) := by
  have hs := bs_size l
  have g := index_any (bs l) 46
  rw [L_bs] at g
  have main : tvCut.den Tryz.prog (fun ρ' ret => ∀ β, ret.val.den (env ρ') β = .tuple #[.string (bs (cutOf l).1), .string (bs (cutOf l).2.1), .bool (cutOf l).2.2]) [.string (bs l)] := by
    refine tree_ite ?_
    refine ev_zc [.int .i64 (Lib.indexByte l 46)] (pure_gives (g)) ?_
    by_cases h0 : Lib.indexByte l 46 < 0
    · refine ev_nil (way_true (by simp [BTm.den, Tm.i, Tm.s, Tm.den, env, vInt, vBool, vStr, exI, h0]) (tree_leaf ?_))
      refine ev_nil fun β => ?_
      have e : cutOf l = (l, [], false) := if_pos h0
      rw [e]
      simp [BTm.den, Tm.i, Tm.s, Tm.den, env, vInt, vBool, vStr, exI, SW.den, SV.den, Cell.den, densP, Piece.den, denV, denT, str0]
    · obtain ⟨i, hi⟩ : ∃ i : Nat, Lib.indexByte l 46 = (i : Nat) := ⟨(Lib.indexByte l 46).toNat, by omega⟩
      have hlt : i < l.length := by
        have := (Lib.indexByte_some hi).1
        exact (List.getElem?_eq_some_iff.1 this).1
      have e : cutOf l = (l.take i, l.drop (i + 1), true) := by unfold cutOf; rw [if_neg h0, hi]; rfl
      rw [e, hi]
      have e1 : (bs l).extract 0 i = bs (l.take i) := by rw [bs_sub]; simp
      have e2 : (bs l).extract (i + 1) l.length = bs (l.drop (i + 1)) := by rw [bs_sub, List.take_of_length_le (by rw [List.length_drop]; omega)]
      refine ev_nil (way_false (by simp [BTm.den, Tm.i, Tm.s, Tm.den, env, vInt, vBool, vStr, exI]) (tree_leaf ?_))
      refine ev_need (by simp [BTm.den, Tm.i, Tm.s, Tm.den, env, vInt, vBool, vStr, exI]) ?_
      refine ev_need (by simp [BTm.den, Tm.i, Tm.s, Tm.den, env, vInt, vBool, vStr, exI, hs]; omega) ?_
      refine ev_fits ((i + 1 : Nat) : Int) (by simp [BTm.den, Tm.i, Tm.s, Tm.den, env, vInt, vBool, vStr, exI]) (rng_i64 _ (by omega)) ?_
      refine ev_need (by simp [BTm.den, Tm.i, Tm.s, Tm.den, env, vInt, vBool, vStr, exI]; omega) ?_
      refine ev_need (by simp [BTm.den, Tm.i, Tm.s, Tm.den, env, vInt, vBool, vStr, exI, hs]; omega) ?_
      refine ev_nil fun β => ?_
      have e3 : (((i : Nat) : Int) + 1).toNat = i + 1 := by omega
      simp [BTm.den, Tm.i, Tm.s, Tm.den, env, vInt, vBool, vStr, exI, SW.den, SV.den, Cell.den, densP, Piece.den, denV, denT, hs, e1, e2, e3]
  have h := pure_of plain [.string (bs l)] tvCut_ok (by kernel_rfl) _ main
  refine gives_pure ?_
  simpa [strW, BTm.den, Tm.i, Tm.s, Tm.den, env, vInt, vBool, vStr, exI, SW.den, SV.den, Cell.den, densP, Piece.den, denV, denT] using h
theorem digC_iff {s : ByteArray} {most : Int} : digC s most = true ↔ DigOk s most := by
  refine ⟨digC_ok, fun h => ?_⟩
  unfold digC
  simp only [Bool.and_eq_true, bne_iff_ne, decide_eq_true_eq, List.all_eq_true, List.mem_range]
  exact ⟨⟨h.1, h.2.1⟩, fun i hi => h.2.2 i hi⟩
theorem dig_b (s : ByteArray) (most : Int) (hl : s.size ≤ 9223372036854775807) : Gives Tryz.prog 80 #[.string s, .int .i64 most] (.bool (digC s most)) := by
  obtain ⟨b, hb, hg⟩ := dig_any s most hl
  have e : b = digC s most := by rw [Bool.eq_iff_iff, hb, digC_iff]
  rwa [e] at hg
def wholeC (l : List UInt8) : Bool := digC (bs l) 15 && (decide (byteN (bs l) 0 ≠ 48) || decide (l.length = 1))
theorem whole_any (l : List UInt8) (hl : l.length ≤ 9223372036854775807) : Gives Tryz.prog 79 #[.string (bs l)] (.bool (wholeC l)) := by
  have hs := bs_size l
  have g := dig_b (bs l) 15 (by rw [hs]; exact hl)
  have hb := byteI_N (bs l) 0
  have main : tvWhole.den Tryz.prog (fun ρ' ret => ∀ β, ret.val.den (env ρ') β = .bool (wholeC l)) [.string (bs l)] := by
    refine tree_ite ?_
    unfold wholeC
    cases hd : digC (bs l) 15 with
    | false =>
      rw [hd] at g
      refine ev_zc [.bool false] (pure_gives (g)) ?_
      refine ev_nil (way_false (by simp [BTm.den, Tm.i, Tm.s, Tm.den, env, vInt, vBool, vStr, exI] <;> omega) (tree_leaf ?_))
      refine ev_nil fun β => ?_
      simp [BTm.den, Tm.i, Tm.s, Tm.den, env, vInt, vBool, vStr, exI, SW.den, SV.den, Cell.den, densP, Piece.den, denV, denT]
    | true =>
      have h0 := (digC_ok hd).1
      rw [hd] at g
      refine ev_zc [.bool true] (pure_gives (g)) ?_
      refine ev_nil (way_true (by simp [BTm.den, Tm.i, Tm.s, Tm.den, env, vInt, vBool, vStr, exI] <;> omega) (tree_ite ?_))
      refine ev_need (by simp [BTm.den, Tm.i, Tm.s, Tm.den, env, vInt, vBool, vStr, exI]) ?_
      refine ev_need (by simp [BTm.den, Tm.i, Tm.s, Tm.den, env, vInt, vBool, vStr, exI]; omega) ?_
      by_cases h48 : byteN (bs l) 0 = 48
      · have e : byteI (bs l) 0 = 48 := by rw [show (0 : Int) = ((0 : Nat) : Int) from rfl, hb, h48]; rfl
        refine ev_nil (way_true (by simp [BTm.den, Tm.i, Tm.s, Tm.den, env, vInt, vBool, vStr, exI, e]) (tree_leaf ?_))
        refine ev_nil fun β => ?_
        have e2 : ((((bs l).size : Nat) : Int) == 1) = decide (l.length = 1) := by
          rw [hs, Bool.eq_iff_iff, beq_iff_eq, decide_eq_true_eq]; omega
        simp [BTm.den, Tm.i, Tm.s, Tm.den, env, vInt, vBool, vStr, exI, SW.den, SV.den, Cell.den, densP, Piece.den, denV, denT, h48]
        omega
      · have e : byteI (bs l) 0 ≠ 48 := by rw [show (0 : Int) = ((0 : Nat) : Int) from rfl, hb]; omega
        refine ev_nil (way_false (by simp [BTm.den, Tm.i, Tm.s, Tm.den, env, vInt, vBool, vStr, exI, e]) (tree_leaf ?_))
        refine ev_nil fun β => ?_
        simp [BTm.den, Tm.i, Tm.s, Tm.den, env, vInt, vBool, vStr, exI, SW.den, SV.den, Cell.den, densP, Piece.den, denV, denT, h48]
  have h := pure_of plain [.string (bs l)] tvWhole_ok (by kernel_rfl) _ main
  refine gives_pure ?_
  simpa [strW, BTm.den, Tm.i, Tm.s, Tm.den, env, vInt, vBool, vStr, exI, SW.den, SV.den, Cell.den, densP, Piece.den, denV, denT] using h
def decN (w f : List UInt8) : Nat := numN (bs w) w.length * 10 ^ f.length + numN (bs f) f.length
theorem frac_any (w f : List UInt8) (hw : w.length ≤ 15) (hf : f.length ≤ 9) (dw : ∀ k, k < w.length → digB (bs w) k) (df : ∀ k, k < f.length → digB (bs f) k) :
    Gives Tryz.prog 81 #[.string (bs w), .string (bs f)] (.tuple #[.agg (ivZ (decN w f : Nat)), .agg (ivZ (ten f.length))]) := by
  have sw := bs_size w
  have sf := bs_size f
  have g1 := ten_p f.length hf
  have t1 := ten_le hf
  have t2 := ten_pos f.length
  have g2 := fromInt_any (ten f.length) (by omega)
  have g3 := count_any (bs w) (by omega) (by rw [sw]; exact dw)
  have g5 := count_any (bs f) (by omega) (by rw [sf]; exact df)
  rw [sw] at g3
  rw [sf] at g5
  have b1 := numN_lt (bs w) w.length dw
  have b2 := numN_lt (bs f) f.length df
  have b3 := ten17 (show w.length ≤ 17 by omega)
  have b4 := ten17 (show f.length ≤ 17 by omega)
  have hT : ten f.length = ((10 ^ f.length : Nat) : Int) := rfl
  have hN : ((decN w f : Nat) : Int) = ((numN (bs w) w.length : Nat) : Int) * ten f.length + ((numN (bs f) f.length : Nat) : Int) := by
    unfold decN; rw [hT, Int.natCast_add, Int.natCast_mul]
  rw [hN]
  have c1 : ((numN (bs w) w.length : Nat) : Int).natAbs < 2 ^ 60 := by
    have : (2:Nat) ^ 60 = 1152921504606846976 := by decide
    omega
  have c2 := mul_bits c1 (ten_bits hf)
  have c3 : ((numN (bs f) f.length : Nat) : Int).natAbs < 2 ^ (60 + 30) := by
    have : (2:Nat) ^ (60 + 30) = 1237940039285380274899124224 := by decide
    omega
  have c4 := add_bits c2 c3
  have g4 := mul_Z _ _ _ rfl (lt_pw32 c1 (by omega)) (lt_pw32 (ten_bits hf) (by omega)) (lt_pw32 c2 (by omega))
  have g6 := add_Z _ _ _ rfl (lt_pw32 c2 (by omega)) (lt_pw32 c3 (by omega)) (lt_pw32 c4 (by omega))
  generalize ((numN (bs w) w.length : Nat) : Int) * ten f.length + ((numN (bs f) f.length : Nat) : Int) = S at g6 ⊢
  generalize ((numN (bs w) w.length : Nat) : Int) * ten f.length = M at g4 g6
  generalize ((numN (bs w) w.length : Nat) : Int) = A at g3 g4
  generalize ((numN (bs f) f.length : Nat) : Int) = B at g5 g6
  generalize ten f.length = T at g1 g2 g4 ⊢
  have main : tvFrac.den Tryz.prog (fun ρ' ret => ∀ β, ret.val.den (env ρ') β = .tuple #[.agg (ivZ S), .agg (ivZ T)]) [.string (bs w), .string (bs f)] := by
    refine tree_leaf ?_
    refine ev_call [.int .i64 T] rfl rfl (pure_gives g1) (fun β => by simp [BTm.den, Tm.i, Tm.s, Tm.den, env, vInt, vBool, vStr, exI, SW.den, SV.den, Cell.den, densP, Piece.den, denV, denT, sf]) (fun β => by simp [BTm.den, Tm.i, Tm.s, Tm.den, env, vInt, vBool, vStr, exI, SW.den, SV.den, Cell.den, densP, Piece.den, denV, denT]) ?_
    refine ev_zc [.bool (decide (T < 0)), .agg (mgk 32 (T : Int).natAbs)] (pure_gives (g2)) ?_
    refine ev_zc [.bool (decide (A < 0)), .agg (mgk 32 (A : Int).natAbs)] (pure_gives (g3)) ?_
    refine ev_zc [.bool (decide (M < 0)), .agg (mgk 32 (M : Int).natAbs), .int .i64 0] (pure_gives (g4)) ?_
    refine ev_zc [.bool (decide (B < 0)), .agg (mgk 32 (B : Int).natAbs)] (pure_gives (g5)) ?_
    refine ev_zc [.bool (decide (S < 0)), .agg (mgk 32 (S : Int).natAbs), .int .i64 0] (pure_gives (g6)) ?_
    refine ev_nil fun β => ?_
    simp [BTm.den, Tm.i, Tm.s, Tm.den, env, vInt, vBool, vStr, exI, SW.den, SV.den, Cell.den, densP, Piece.den, denV, rowCells_mgk, iv_list, rv_list, ivZ, rvZ, mgl_agg]
  have h := pure_of plain [.string (bs w), .string (bs f)] tvFrac_ok (by kernel_rfl) _ main
  refine gives_pure ?_
  simpa [strW, BTm.den, Tm.i, Tm.s, Tm.den, env, vInt, vBool, vStr, exI, SW.den, SV.den, Cell.den, densP, Piece.den, denV, denT] using h
end Go.Proofs.YtkiefjbfepjcbaaGreatDoor
end
section
namespace Go.Proofs.YtkiefjbfepjcbaaGreatDoor
open Go.RowKit Go.Proofs.YtkiefjbfepjcbaaGreatDoor.Sx
set_option linter.unusedSimpArgs false
set_option linter.unusedVariables false

def parseOk (w f : List UInt8) (pt : Bool) (P : Int) : Bool := wholeC w && (!pt || digC (bs f) P)
def decV (m : Bool) (w f : List UInt8) : Value :=
  if m = true then (if decN w f = 0 then errV 32 else mkZ (-((decN w f : Nat) : Int)) (ten f.length)) else mkZ ((decN w f : Nat) : Int) (ten f.length)
def parseV (l : List UInt8) (P : Int) : Value :=
  if parseOk (cutOf (minusOf l).1).1 (cutOf (minusOf l).1).2.1 (cutOf (minusOf l).1).2.2 P = true then decV (minusOf l).2 (cutOf (minusOf l).1).1 (cutOf (minusOf l).1).2.1 else errV 32
theorem minus_len (l : List UInt8) : (minusOf l).1.length ≤ l.length := by
  cases l with
  | nil => exact Nat.le_refl _
  | cons c t => simp only [minusOf]; split <;> simp
theorem cut_len (l : List UInt8) : (cutOf l).1.length ≤ l.length ∧ (cutOf l).2.1.length ≤ l.length := by
  unfold cutOf; split
  · exact ⟨Nat.le_refl _, by simp⟩
  · exact ⟨by simp; omega, by simp⟩
theorem cut_none {l : List UInt8} (h : (cutOf l).2.2 = false) : (cutOf l).2.1 = [] := by
  unfold cutOf at h ⊢
  split at h
  · rename_i h0; rw [if_pos h0]
  · cases h
theorem dec_bits {w f : List UInt8} (hw : w.length ≤ 15) (hf : f.length ≤ 9) (dw : ∀ k, k < w.length → digB (bs w) k) (df : ∀ k, k < f.length → digB (bs f) k) : decN w f < 2 ^ 91 := by
  have b1 := numN_lt (bs w) w.length dw
  have b2 := numN_lt (bs f) f.length df
  have b3 := ten17 (show w.length ≤ 17 by omega)
  have b4 := ten17 (show f.length ≤ 17 by omega)
  have b5 : 10 ^ f.length ≤ 10 ^ 9 := Nat.pow_le_pow_right (by omega) hf
  have b6 : (10:Nat) ^ 9 = 1000000000 := by decide
  have b7 : (2:Nat) ^ 91 = 2475880078570760549798248448 := by decide
  have b8 : numN (bs w) w.length * 10 ^ f.length ≤ 100000000000000000 * 1000000000 := Nat.mul_le_mul (by omega) (by omega)
  unfold decN; omega
theorem parts_ok {w f : List UInt8} {pt : Bool} {P : Nat} (hP : P ≤ 9) (h : parseOk w f pt P = true) (hn : pt = false → f = []) : w.length ≤ 15 ∧ f.length ≤ 9 ∧ (∀ k, k < w.length → digB (bs w) k) ∧ (∀ k, k < f.length → digB (bs f) k) := by
  unfold parseOk wholeC at h
  rw [Bool.and_eq_true, Bool.and_eq_true] at h
  obtain ⟨⟨h1, -⟩, h2⟩ := h
  obtain ⟨-, h3, h4⟩ := digC_ok h1
  rw [bs_size] at h3 h4
  refine ⟨by omega, ?_, h4, ?_⟩
  · cases pt with
    | false => rw [hn rfl]; simp
    | true =>
      have h2 : digC (bs f) P = true := by simpa using h2
      have := (digC_ok h2).2.1
      rw [bs_size] at this; omega
  · cases pt with
    | false => rw [hn rfl]; intro k hk; simp at hk
    | true =>
      have h2 : digC (bs f) P = true := by simpa using h2
      have := (digC_ok h2).2.2
      rwa [bs_size] at this
theorem neg_Z' (x : Int) (hx : x.natAbs < pw 32) : Gives Tryz.prog 83 #[.agg (ivZ x)] (.agg (ivZ (-x))) := by
  have := neg_any (decide (x < 0)) x.natAbs hx
  rwa [vz_self] at this
set_option maxHeartbeats 4000000 in
theorem parse_p (l : List UInt8) (hl : l.length ≤ 9223372036854775807) (P : Nat) (hP : P ≤ 9) : Gives Tryz.prog 35 #[.string (bs l), .int .i64 (P : Nat)] (parseV l P) := by
  have g1 := cutP_any l hl
  have hl1 := minus_len l
  have g2 := cut_any (minusOf l).1 (by omega)
  have hl2 := cut_len (minusOf l).1
  have hn := cut_none (l := (minusOf l).1)
  obtain ⟨V, hV⟩ : ∃ V, V = parseV l P := ⟨_, rfl⟩
  rw [← hV]
  unfold parseV at hV
  generalize (cutOf (minusOf l).1).1 = w at *
  generalize (cutOf (minusOf l).1).2.1 = f at *
  generalize (cutOf (minusOf l).1).2.2 = pt at *
  generalize (minusOf l).1 = d at *
  generalize (minusOf l).2 = m at *
  have g3 := whole_any w (by omega)
  have g4 := dig_b (bs f) P (by rw [bs_size]; omega)
  have main : tvParse.den Tryz.prog (fun ρ' ret => ∀ β, ret.val.den (env ρ') β = V) [.string (bs l), .int .i64 (P : Nat)] := by
    refine tree_ite (ev_nil (way_false (by simp [BTm.den, Tm.i, Tm.s, Tm.den, env, vInt, vBool, vStr, exI]) (tree_ite (ev_nil (way_false (by simp [BTm.den, Tm.i, Tm.s, Tm.den, env, vInt, vBool, vStr, exI]; omega) (tree_ite ?_))))))
    refine ev_zc [.string (bs d), .bool m] (pure_gives (g1)) ?_
    refine ev_zc [.string (bs w), .string (bs f), .bool pt] (pure_gives (g2)) ?_
    have bad : parseOk w f pt P = false → V = .tuple #[.agg (rvZ 0 0), .int .i64 32] := fun h => by rw [hV, h]; rfl
    cases hw : wholeC w with
    | false =>
      rw [hw] at g3
      refine ev_zc [.bool false] (pure_gives (g3)) ?_
      refine ev_nil (way_false (by simp [BTm.den, Tm.i, Tm.s, Tm.den, env, vInt, vBool, vStr, exI] <;> omega) (tree_leaf ?_))
      refine ev_nil fun β => ?_
      rw [bad (by unfold parseOk; rw [hw]; rfl), ← zero_rat]; simp [BTm.den, Tm.i, Tm.s, Tm.den, env, vInt, vBool, vStr, exI, SW.den, SV.den, Cell.den, densP, Piece.den, denV, denT]
    | true =>
      rw [hw] at g3
      refine ev_zc [.bool true] (pure_gives (g3)) ?_
      refine ev_nil (way_true (by simp [BTm.den, Tm.i, Tm.s, Tm.den, env, vInt, vBool, vStr, exI] <;> omega) (tree_ite ?_))
      have go : parseOk w f pt P = true → V = decV m w f ∧ (Gives Tryz.prog 81 #[.string (bs w), .string (bs f)] (.tuple #[.agg (ivZ (decN w f : Nat)), .agg (ivZ (ten f.length))])) ∧ ((decN w f : Nat) : Int).natAbs < pw 32 ∧ (ten f.length).natAbs < pw 32 := fun h => by
        obtain ⟨o1, o2, o3, o4⟩ := parts_ok hP h hn
        exact ⟨by rw [hV, h, if_pos rfl], frac_any w f o1 o2 o3 o4, lt_pw32 (k := 91) (by rw [Int.natAbs_natCast]; exact dec_bits o1 o2 o3 o4) (by omega), lt_pw32 (ten_bits o2) (by omega)⟩
      cases pt with
      | true =>
        cases hd : digC (bs f) P with
        | false =>
          rw [hd] at g4
          refine ev_nil (way_true (by simp [BTm.den, Tm.i, Tm.s, Tm.den, env, vInt, vBool, vStr, exI] <;> omega) (tree_ite ?_))
          refine ev_zc [.bool false] (pure_gives (g4)) ?_
          refine ev_nil (way_false (by simp [BTm.den, Tm.i, Tm.s, Tm.den, env, vInt, vBool, vStr, exI] <;> omega) (tree_leaf ?_))
          refine ev_nil fun β => ?_
          rw [bad (by unfold parseOk; rw [hw, hd]; rfl), ← zero_rat]; simp [BTm.den, Tm.i, Tm.s, Tm.den, env, vInt, vBool, vStr, exI, SW.den, SV.den, Cell.den, densP, Piece.den, denV, denT]
        | true =>
          rw [hd] at g4
          refine ev_nil (way_true (by simp [BTm.den, Tm.i, Tm.s, Tm.den, env, vInt, vBool, vStr, exI] <;> omega) (tree_ite ?_))
          refine ev_zc [.bool true] (pure_gives (g4)) ?_
          refine ev_nil (way_true (by simp [BTm.den, Tm.i, Tm.s, Tm.den, env, vInt, vBool, vStr, exI] <;> omega) (tree_ite ?_))
          obtain ⟨hV', g5, b1, b2⟩ := go (by unfold parseOk; rw [hw, hd]; rfl)
          clear go bad hV
          unfold decV at hV'
          generalize ten f.length = T at *
          have hz : ((decN w f : Nat) : Int) = 0 ↔ decN w f = 0 := by omega
          cases m with
          | false =>
            rw [if_neg (by simp)] at hV'
            obtain ⟨a, b, e, he⟩ := mkZ_form ((decN w f : Nat) : Int) T
            have g6 := (make_Z _ _ b1 b2).1
            rw [he] at g6 hV'
            generalize ((decN w f : Nat) : Int) = S at *
            refine ev_zc [.bool (decide (S < 0)), .agg (mgk 32 (S : Int).natAbs), .bool (decide (T < 0)), .agg (mgk 32 (T : Int).natAbs)] (pure_gives (g5)) ?_
            refine ev_nil (way_false (by simp [BTm.den, Tm.i, Tm.s, Tm.den, env, vInt, vBool, vStr, exI] <;> omega) (tree_leaf ?_))
            refine ev_zc [.bool (decide (a < 0)), .agg (mgk 32 (a : Int).natAbs), .bool (decide (b < 0)), .agg (mgk 32 (b : Int).natAbs), .int .i64 e] (pure_gives (g6)) ?_
            refine ev_nil fun β => ?_
            rw [hV']; simp [BTm.den, Tm.i, Tm.s, Tm.den, env, vInt, vBool, vStr, exI, SW.den, SV.den, Cell.den, densP, Piece.den, denV, rowCells_mgk, iv_list, rv_list, ivZ, rvZ, mgl_agg]
          | true =>
            rw [if_pos rfl] at hV'
            have gs := sign_Z _ b1
            have gn := neg_Z' _ b1
            obtain ⟨a, b, e, he⟩ := mkZ_form (-((decN w f : Nat) : Int)) T
            have g6 := (make_Z (-((decN w f : Nat) : Int)) T (by rw [Int.natAbs_neg]; exact b1) b2).1
            rw [he] at g6 hV'
            have hs0 : sgn ((decN w f : Nat) : Int) = 0 ↔ decN w f = 0 := sgq_zero.trans hz
            generalize sgn ((decN w f : Nat) : Int) = sg at gs hs0
            generalize decN w f = D at hV' hs0 g5 gs gn g6
            generalize ((D : Nat) : Int) = S at *
            refine ev_zc [.bool (decide (S < 0)), .agg (mgk 32 (S : Int).natAbs), .bool (decide (T < 0)), .agg (mgk 32 (T : Int).natAbs)] (pure_gives (g5)) ?_
            refine ev_nil (way_true (by simp [BTm.den, Tm.i, Tm.s, Tm.den, env, vInt, vBool, vStr, exI] <;> omega) (tree_ite ?_))
            refine ev_zc [.int .i64 sg] (pure_gives (gs)) ?_
            by_cases h0 : D = 0
            · have h1 := hs0.2 h0
              refine ev_nil (way_true (by simp [BTm.den, Tm.i, Tm.s, Tm.den, env, vInt, vBool, vStr, exI] <;> omega) (tree_leaf ?_))
              refine ev_nil fun β => ?_
              rw [hV', if_pos h0, errV, ← zero_rat]; simp [BTm.den, Tm.i, Tm.s, Tm.den, env, vInt, vBool, vStr, exI, SW.den, SV.den, Cell.den, densP, Piece.den, denV, denT]
            · have h1 : sg ≠ 0 := fun e => h0 (hs0.1 e)
              refine ev_nil (way_false (by simp [BTm.den, Tm.i, Tm.s, Tm.den, env, vInt, vBool, vStr, exI] <;> omega) (tree_leaf ?_))
              refine ev_zc [.bool (decide (-S < 0)), .agg (mgk 32 (-S : Int).natAbs)] (pure_gives (gn)) ?_
              refine ev_zc [.bool (decide (a < 0)), .agg (mgk 32 (a : Int).natAbs), .bool (decide (b < 0)), .agg (mgk 32 (b : Int).natAbs), .int .i64 e] (pure_gives (g6)) ?_
              refine ev_nil fun β => ?_
              rw [hV', if_neg h0]; simp [BTm.den, Tm.i, Tm.s, Tm.den, env, vInt, vBool, vStr, exI, SW.den, SV.den, Cell.den, densP, Piece.den, denV, rowCells_mgk, iv_list, rv_list, ivZ, rvZ, mgl_agg]
      | false =>
        refine ev_nil (way_false (by simp [BTm.den, Tm.i, Tm.s, Tm.den, env, vInt, vBool, vStr, exI] <;> omega) (tree_ite ?_))
        obtain ⟨hV', g5, b1, b2⟩ := go (by unfold parseOk; rw [hw]; rfl)
        clear go bad hV
        unfold decV at hV'
        generalize ten f.length = T at *
        have hz : ((decN w f : Nat) : Int) = 0 ↔ decN w f = 0 := by omega
        cases m with
        | false =>
          rw [if_neg (by simp)] at hV'
          obtain ⟨a, b, e, he⟩ := mkZ_form ((decN w f : Nat) : Int) T
          have g6 := (make_Z _ _ b1 b2).1
          rw [he] at g6 hV'
          generalize ((decN w f : Nat) : Int) = S at *
          refine ev_zc [.bool (decide (S < 0)), .agg (mgk 32 (S : Int).natAbs), .bool (decide (T < 0)), .agg (mgk 32 (T : Int).natAbs)] (pure_gives (g5)) ?_
          refine ev_nil (way_false (by simp [BTm.den, Tm.i, Tm.s, Tm.den, env, vInt, vBool, vStr, exI] <;> omega) (tree_leaf ?_))
          refine ev_zc [.bool (decide (a < 0)), .agg (mgk 32 (a : Int).natAbs), .bool (decide (b < 0)), .agg (mgk 32 (b : Int).natAbs), .int .i64 e] (pure_gives (g6)) ?_
          refine ev_nil fun β => ?_
          rw [hV']; simp [BTm.den, Tm.i, Tm.s, Tm.den, env, vInt, vBool, vStr, exI, SW.den, SV.den, Cell.den, densP, Piece.den, denV, rowCells_mgk, iv_list, rv_list, ivZ, rvZ, mgl_agg]
        | true =>
          rw [if_pos rfl] at hV'
          have gs := sign_Z _ b1
          have gn := neg_Z' _ b1
          obtain ⟨a, b, e, he⟩ := mkZ_form (-((decN w f : Nat) : Int)) T
          have g6 := (make_Z (-((decN w f : Nat) : Int)) T (by rw [Int.natAbs_neg]; exact b1) b2).1
          rw [he] at g6 hV'
          have hs0 : sgn ((decN w f : Nat) : Int) = 0 ↔ decN w f = 0 := sgq_zero.trans hz
          generalize sgn ((decN w f : Nat) : Int) = sg at gs hs0
          generalize decN w f = D at hV' hs0 g5 gs gn g6
          generalize ((D : Nat) : Int) = S at *
          refine ev_zc [.bool (decide (S < 0)), .agg (mgk 32 (S : Int).natAbs), .bool (decide (T < 0)), .agg (mgk 32 (T : Int).natAbs)] (pure_gives (g5)) ?_
          refine ev_nil (way_true (by simp [BTm.den, Tm.i, Tm.s, Tm.den, env, vInt, vBool, vStr, exI] <;> omega) (tree_ite ?_))
          refine ev_zc [.int .i64 sg] (pure_gives (gs)) ?_
          by_cases h0 : D = 0
          · have h1 := hs0.2 h0
            refine ev_nil (way_true (by simp [BTm.den, Tm.i, Tm.s, Tm.den, env, vInt, vBool, vStr, exI] <;> omega) (tree_leaf ?_))
            refine ev_nil fun β => ?_
            rw [hV', if_pos h0, errV, ← zero_rat]; simp [BTm.den, Tm.i, Tm.s, Tm.den, env, vInt, vBool, vStr, exI, SW.den, SV.den, Cell.den, densP, Piece.den, denV, denT]
          · have h1 : sg ≠ 0 := fun e => h0 (hs0.1 e)
            refine ev_nil (way_false (by simp [BTm.den, Tm.i, Tm.s, Tm.den, env, vInt, vBool, vStr, exI] <;> omega) (tree_leaf ?_))
            refine ev_zc [.bool (decide (-S < 0)), .agg (mgk 32 (-S : Int).natAbs)] (pure_gives (gn)) ?_
            refine ev_zc [.bool (decide (a < 0)), .agg (mgk 32 (a : Int).natAbs), .bool (decide (b < 0)), .agg (mgk 32 (b : Int).natAbs), .int .i64 e] (pure_gives (g6)) ?_
            refine ev_nil fun β => ?_
            rw [hV', if_neg h0]; simp [BTm.den, Tm.i, Tm.s, Tm.den, env, vInt, vBool, vStr, exI, SW.den, SV.den, Cell.den, densP, Piece.den, denV, rowCells_mgk, iv_list, rv_list, ivZ, rvZ, mgl_agg]
  have h := pure_of plain [.string (bs l), .int .i64 (P : Nat)] tvParse_ok (by kernel_rfl) _ main
  refine gives_pure ?_
  simpa [strW, intW, BTm.den, Tm.i, Tm.s, Tm.den, env, vInt, vBool, vStr, exI, SW.den, SV.den, Cell.den, densP, Piece.den, denV, denT] using h
theorem parse_out (l : List UInt8) (P : Int) (h : ¬ (0 ≤ P ∧ P ≤ 9)) : Gives Tryz.prog 35 #[.string (bs l), .int .i64 P] (errV 30) := by
  have main : tvParse.den Tryz.prog (fun ρ' ret => ∀ β, ret.val.den (env ρ') β = errV 30) [.string (bs l), .int .i64 P] := by
    by_cases h0 : P < 0
    · refine tree_ite (ev_nil (way_true (by simp [BTm.den, Tm.i, Tm.s, Tm.den, env, vInt, vBool, vStr, exI, h0]) (tree_leaf (ev_nil fun β => ?_))))
      rw [errV, ← zero_rat]; simp [BTm.den, Tm.i, Tm.s, Tm.den, env, vInt, vBool, vStr, exI, SW.den, SV.den, Cell.den, densP, Piece.den, denV, denT]
    · refine tree_ite (ev_nil (way_false (by simp [BTm.den, Tm.i, Tm.s, Tm.den, env, vInt, vBool, vStr, exI]; omega) (tree_ite (ev_nil (way_true (by simp [BTm.den, Tm.i, Tm.s, Tm.den, env, vInt, vBool, vStr, exI]; omega) (tree_leaf (ev_nil fun β => ?_)))))))
      rw [errV, ← zero_rat]; simp [BTm.den, Tm.i, Tm.s, Tm.den, env, vInt, vBool, vStr, exI, SW.den, SV.den, Cell.den, densP, Piece.den, denV, denT]
  have h := pure_of plain [.string (bs l), .int .i64 P] tvParse_ok (by kernel_rfl) _ main
  refine gives_pure ?_
  simpa [strW, intW, BTm.den, Tm.i, Tm.s, Tm.den, env, vInt, vBool, vStr, exI, SW.den, SV.den, Cell.den, densP, Piece.den, denV, denT] using h
end Go.Proofs.YtkiefjbfepjcbaaGreatDoor
end
section
namespace Go.Proofs.YtkiefjbfepjcbaaGreatDoor
open Go.RowKit Go.Proofs.YtkiefjbfepjcbaaGreatDoor.Sx
set_option linter.unusedSimpArgs false
set_option linter.unusedVariables false

def dgU (b : UInt8) : Bool := decide (48 ≤ b.toNat) && decide (b.toNat ≤ 57)
def runD : List UInt8 → Nat
  | [] => 0
  | c :: l => if dgU c = true then runD l + 1 else 0
theorem runD_le : ∀ l, runD l ≤ l.length
  | [] => Nat.le_refl _
  | c :: l => by
    have := runD_le l
    unfold runD; split <;> simp <;> omega
theorem runD_dig : ∀ (l : List UInt8) (i : Nat), i < runD l → dgU (l.getD i 0) = true
  | [], i, h => by simp [runD] at h
  | c :: l, i, h => by
    unfold runD at h
    split at h
    · rename_i hc
      cases i with
      | zero => simpa using hc
      | succ i => simpa using runD_dig l i (by omega)
    · omega
theorem runD_end : ∀ (l : List UInt8), runD l < l.length → dgU (l.getD (runD l) 0) = false
  | [], h => by simp [runD] at h
  | c :: l, h => by
    by_cases hc : dgU c = true
    · have e : runD (c :: l) = runD l + 1 := by rw [runD, if_pos hc]
      rw [e] at h ⊢
      simpa using runD_end l (by simpa using h)
    · have e : runD (c :: l) = 0 := by rw [runD, if_neg hc]
      rw [e]; simpa using hc
theorem byteN_bs (l : List UInt8) (i : Nat) : byteN (bs l) i = (l.getD i 0).toNat := by unfold byteN; rw [L_bs]
theorem digB_bs (l : List UInt8) (i : Nat) : digB (bs l) i ↔ dgU (l.getD i 0) = true := by
  unfold digB dgU; rw [byteN_bs, Bool.and_eq_true, decide_eq_true_eq, decide_eq_true_eq]
set_option maxHeartbeats 4000000 in
theorem run_loop (l : List UInt8) (hl : l.length ≤ 9223372036854775807) :
    Ev.holds Tryz.prog (env [.string (bs l), .int .i64 (runD l : Nat)]) (.loop 128 0 strS128_0 strH128_0 (.exit 0) .none 1) := by
  have hs := bs_size l
  refine loop_holds plain (m := 1) (x := .exit 0) (alt := none) [.string (bs l)] [.int .i64 (runD l : Nat)] tdDigits0_ok tdDigits0_fine
    (fun vs => ∃ i : Nat, i ≤ runD l ∧ vs = [.int .i64 (i : Nat)])
    (fun vs => runD l - (vInt (vs.getD 0 undef)).toNat) tdDigits0_diff ?_ ?_
  · refine ⟨[.int .i64 (0 : Nat)], rfl, ⟨0, by omega, rfl⟩, ?_⟩
    simp [tdDigits0_d, BTm.den, Tm.i, Tm.s, Tm.den, env, vInt, vBool, vStr, exI, SW.den, SV.den, Cell.den, densP, Piece.den, denV, denT]
  · rintro vs hv ⟨i, hi, rfl⟩
    clear hv
    have hb := bs_byte l i
    have hle := runD_le l
    by_cases hlt : i < runD l
    · have hd := runD_dig l i hlt
      unfold dgU at hd
      rw [Bool.and_eq_true, decide_eq_true_eq, decide_eq_true_eq] at hd
      generalize (l.getD i 0).toNat = b at hb hd
      refine tree_ite (ev_nil (way_true (by simp [BTm.den, Tm.i, Tm.s, Tm.den, env, vInt, vBool, vStr, exI, hs]; omega) (tree_ite ?_)))
      refine ev_need (by simp [BTm.den, Tm.i, Tm.s, Tm.den, env, vInt, vBool, vStr, exI]) ?_
      refine ev_need (by simp [BTm.den, Tm.i, Tm.s, Tm.den, env, vInt, vBool, vStr, exI, hs]; omega) ?_
      refine ev_nil (way_false (by simp [BTm.den, Tm.i, Tm.s, Tm.den, env, vInt, vBool, vStr, exI, hb]; omega) (tree_ite ?_))
      refine ev_need (by simp [BTm.den, Tm.i, Tm.s, Tm.den, env, vInt, vBool, vStr, exI]) ?_
      refine ev_need (by simp [BTm.den, Tm.i, Tm.s, Tm.den, env, vInt, vBool, vStr, exI, hs]; omega) ?_
      refine ev_nil (way_false (by simp [BTm.den, Tm.i, Tm.s, Tm.den, env, vInt, vBool, vStr, exI, hb]; omega) (tree_leaf ?_))
      refine ev_fits ((i + 1 : Nat) : Int) (by simp [BTm.den, Tm.i, Tm.s, Tm.den, env, vInt, vBool, vStr, exI]) (rng_i64 _ (by omega)) ?_
      refine ev_nil ⟨[.int .i64 (i + 1 : Nat)], rfl, ⟨i + 1, by omega, rfl⟩, by simp [vInt]; omega, ?_⟩
      simp [BTm.den, Tm.i, Tm.s, Tm.den, env, vInt, vBool, vStr, exI, SW.den, SV.den, Cell.den, densP, Piece.den, denV, denT]
    · obtain rfl : i = runD l := by omega
      by_cases hend : runD l < l.length
      · have hd := runD_end l hend
        unfold dgU at hd
        generalize (l.getD (runD l) 0).toNat = b at hb hd
        refine tree_ite (ev_nil (way_true (by simp [BTm.den, Tm.i, Tm.s, Tm.den, env, vInt, vBool, vStr, exI, hs]; omega) (tree_ite ?_)))
        refine ev_need (by simp [BTm.den, Tm.i, Tm.s, Tm.den, env, vInt, vBool, vStr, exI]) ?_
        refine ev_need (by simp [BTm.den, Tm.i, Tm.s, Tm.den, env, vInt, vBool, vStr, exI, hs]; omega) ?_
        by_cases h48 : b < 48
        · refine ev_nil (way_true (by simp [BTm.den, Tm.i, Tm.s, Tm.den, env, vInt, vBool, vStr, exI, hb]; omega) (tree_leaf (ev_nil ?_)))
          refine ⟨rfl, ?_⟩
          simp [BTm.den, Tm.i, Tm.s, Tm.den, env, vInt, vBool, vStr, exI, SW.den, SV.den, Cell.den, densP, Piece.den, denV, denT]
        · have h57 : ¬ b ≤ 57 := fun h => by
            rw [decide_eq_true (show 48 ≤ b by omega), decide_eq_true h] at hd; cases hd
          refine ev_nil (way_false (by simp [BTm.den, Tm.i, Tm.s, Tm.den, env, vInt, vBool, vStr, exI, hb]; omega) (tree_ite ?_))
          refine ev_need (by simp [BTm.den, Tm.i, Tm.s, Tm.den, env, vInt, vBool, vStr, exI]) ?_
          refine ev_need (by simp [BTm.den, Tm.i, Tm.s, Tm.den, env, vInt, vBool, vStr, exI, hs]; omega) ?_
          refine ev_nil (way_true (by simp [BTm.den, Tm.i, Tm.s, Tm.den, env, vInt, vBool, vStr, exI, hb]; omega) (tree_leaf (ev_nil ?_)))
          refine ⟨rfl, ?_⟩
          simp [BTm.den, Tm.i, Tm.s, Tm.den, env, vInt, vBool, vStr, exI, SW.den, SV.den, Cell.den, densP, Piece.den, denV, denT]
      · refine tree_ite (ev_nil (way_false (by simp [BTm.den, Tm.i, Tm.s, Tm.den, env, vInt, vBool, vStr, exI, hs]; omega) (tree_leaf (ev_nil ?_))))
        refine ⟨rfl, ?_⟩
        simp [BTm.den, Tm.i, Tm.s, Tm.den, env, vInt, vBool, vStr, exI, SW.den, SV.den, Cell.den, densP, Piece.den, denV, denT]
theorem run_any (l : List UInt8) (hl : l.length ≤ 9223372036854775807) : Gives Tryz.prog 128 #[.string (bs l)] (.int .i64 (runD l : Nat)) := by
  have hlo := run_loop l hl
  have main : tdDigits.den Tryz.prog (fun ρ' ret => ∀ β, ret.val.den (env ρ') β = .int .i64 (runD l : Nat)) [.string (bs l)] := by
    refine tree_leaf ?_
    refine ev_loop [.int .i64 (runD l : Nat)] rfl rfl hlo ?_
    refine ev_nil fun β => ?_
    simp [BTm.den, Tm.i, Tm.s, Tm.den, env, vInt, vBool, vStr, exI, SW.den, SV.den, Cell.den, densP, Piece.den, denV, denT]
  have h := pure_of plain [.string (bs l)] tdDigits_ok (by kernel_rfl) _ main
  refine gives_pure ?_
  simpa [strW, BTm.den, Tm.i, Tm.s, Tm.den, env, vInt, vBool, vStr, exI, SW.den, SV.den, Cell.den, densP, Piece.den, denV, denT] using h
end Go.Proofs.YtkiefjbfepjcbaaGreatDoor
end
section
namespace Go.Proofs.YtkiefjbfepjcbaaGreatDoor
open Go.RowKit Go.Proofs.YtkiefjbfepjcbaaGreatDoor.Sx
set_option linter.unusedSimpArgs false
set_option linter.unusedVariables false

theorem all_run (l : List UInt8) : (∀ k, k < l.length → digB (bs l) k) ↔ runD l = l.length := by
  constructor
  · intro h
    rcases Nat.lt_or_ge (runD l) l.length with hlt | hge
    · have h1 := runD_end l hlt
      have h2 := (digB_bs l _).1 (h _ hlt)
      rw [h1] at h2; cases h2
    · have := runD_le l; omega
  · intro h k hk
    exact (digB_bs l k).2 (runD_dig l k (by omega))
theorem digC_run (l : List UInt8) (most : Int) : digC (bs l) most = decide (l.length ≠ 0 ∧ (l.length : Int) ≤ most ∧ runD l = l.length) := by
  rw [Bool.eq_iff_iff, digC_iff, decide_eq_true_eq]
  unfold DigOk
  rw [bs_size, all_run]
theorem dg_point : dgU 46 = false := by decide
def docParts (d : List UInt8) (P : Int) : Option (List UInt8 × List UInt8) :=
  if runD d = 0 ∨ 15 < runD d ∨ (1 < runD d ∧ byteN (bs d) 0 = 48) then none else
  match d.drop (runD d) with
  | [] => some (d.take (runD d), [])
  | c :: t => if c = 46 ∧ runD t ≠ 0 ∧ runD t = t.length ∧ (t.length : Int) ≤ P then some (d.take (runD d), t) else none
theorem run_take (d : List UInt8) : runD (d.take (runD d)) = runD d := by
  induction d with
  | nil => rfl
  | cons c l ih =>
    by_cases hc : dgU c = true
    · have e : runD (c :: l) = runD l + 1 := by rw [runD, if_pos hc]
      rw [e, List.take_succ_cons, runD, if_pos hc, ih]
    · have e : runD (c :: l) = 0 := by rw [runD, if_neg hc]
      rw [e]; rfl
theorem getD_take {l : List UInt8} {i k : Nat} (h : k < i) : (l.take i).getD k 0 = l.getD k 0 := by
  rw [List.getD_eq_getElem?_getD, List.getD_eq_getElem?_getD, List.getElem?_take_of_lt h]
theorem drop_cons {l : List UInt8} {i : Nat} (h : i < l.length) : l.drop i = l.getD i 0 :: l.drop (i + 1) := by
  rw [List.drop_eq_getElem_cons h, List.getD_eq_getElem?_getD, List.getElem?_eq_getElem h]; rfl
theorem doc_eq (d : List UInt8) (P : Int) : docParts d P = if parseOk (cutOf d).1 (cutOf d).2.1 (cutOf d).2.2 P = true then some ((cutOf d).1, (cutOf d).2.1) else none := by
  have hle := runD_le d
  by_cases h0 : Lib.indexByte d 46 < 0
  · have hno : ∀ k : Nat, d[k]? ≠ some 46 := Lib.indexByte_none (by have := Lib.indexByte_ge d 46; omega)
    have e : cutOf d = (d, [], false) := if_pos h0
    rw [e]
    have ep : parseOk d [] false P = (decide (d.length ≠ 0 ∧ (d.length : Int) ≤ 15 ∧ runD d = d.length) && (decide (byteN (bs d) 0 ≠ 48) || decide (d.length = 1))) := by
      unfold parseOk wholeC; rw [digC_run]; simp
    rw [ep]
    unfold docParts
    rcases Nat.lt_or_ge (runD d) d.length with hlt | hge
    · rw [if_neg (show ¬ ((decide (d.length ≠ 0 ∧ (d.length : Int) ≤ 15 ∧ runD d = d.length) && (decide (byteN (bs d) 0 ≠ 48) || decide (d.length = 1))) = true) by simp; omega)]
      split
      · rfl
      · rw [drop_cons hlt]
        have hne : d.getD (runD d) 0 ≠ 46 := fun h => by
          have := hno (runD d)
          rw [List.getElem?_eq_getElem hlt] at this
          rw [List.getD_eq_getElem?_getD, List.getElem?_eq_getElem hlt] at h
          exact this (congrArg some h)
        exact if_neg fun h => hne h.1
    · have hr : runD d = d.length := by omega
      rw [hr, List.drop_length, List.take_length]
      by_cases hc : d.length = 0 ∨ 15 < d.length ∨ (1 < d.length ∧ byteN (bs d) 0 = 48)
      · have hn : ¬ ((decide (d.length ≠ 0 ∧ (d.length : Int) ≤ 15 ∧ d.length = d.length) && (decide (byteN (bs d) 0 ≠ 48) || decide (d.length = 1))) = true) := fun h => by
          rw [Bool.and_eq_true, Bool.or_eq_true, decide_eq_true_eq, decide_eq_true_eq, decide_eq_true_eq] at h
          omega
        rw [if_pos hc, if_neg hn]
      · have hn : (decide (d.length ≠ 0 ∧ (d.length : Int) ≤ 15 ∧ d.length = d.length) && (decide (byteN (bs d) 0 ≠ 48) || decide (d.length = 1))) = true := by
          rw [Bool.and_eq_true, Bool.or_eq_true, decide_eq_true_eq, decide_eq_true_eq, decide_eq_true_eq]
          omega
        rw [if_neg hc, if_pos hn]
  · obtain ⟨i, hi⟩ : ∃ i : Nat, Lib.indexByte d 46 = (i : Nat) := ⟨(Lib.indexByte d 46).toNat, by omega⟩
    obtain ⟨hat, hbef⟩ := Lib.indexByte_some hi
    have hlt : i < d.length := (List.getElem?_eq_some_iff.1 hat).1
    have e : cutOf d = (d.take i, d.drop (i + 1), true) := by unfold cutOf; rw [if_neg h0, hi]; rfl
    have hgi : d.getD i 0 = 46 := by rw [List.getD_eq_getElem?_getD, hat]; rfl
    have hri : runD d ≤ i := by
      rcases Nat.lt_or_ge i (runD d) with h | h
      · have := runD_dig d i h
        rw [hgi, dg_point] at this; cases this
      · exact h
    rw [e]
    have hwl : (d.take i).length = i := by rw [List.length_take]; omega
    have ep : parseOk (d.take i) (d.drop (i + 1)) true P = ((decide (i ≠ 0 ∧ (i : Int) ≤ 15 ∧ runD (d.take i) = i) && (decide (byteN (bs (d.take i)) 0 ≠ 48) || decide (i = 1))) && decide ((d.drop (i + 1)).length ≠ 0 ∧ ((d.drop (i + 1)).length : Int) ≤ P ∧ runD (d.drop (i + 1)) = (d.drop (i + 1)).length)) := by
      unfold parseOk wholeC; rw [digC_run, digC_run, hwl]; rfl
    show docParts d P = if parseOk (d.take i) (d.drop (i + 1)) true P = true then some (d.take i, d.drop (i + 1)) else none
    rw [ep]
    unfold docParts
    rcases Nat.lt_or_eq_of_le hri with hr | hr
    · have hw : runD (d.take i) ≠ i := fun h => by
        have h1 := runD_dig (d.take i) (runD d) (by omega)
        rw [getD_take hr] at h1
        have h2 := runD_end d (by omega)
        rw [h2] at h1; cases h1
      rw [if_neg (show ¬ (((decide (i ≠ 0 ∧ (i : Int) ≤ 15 ∧ runD (d.take i) = i) && (decide (byteN (bs (d.take i)) 0 ≠ 48) || decide (i = 1))) && decide ((d.drop (i + 1)).length ≠ 0 ∧ ((d.drop (i + 1)).length : Int) ≤ P ∧ runD (d.drop (i + 1)) = (d.drop (i + 1)).length)) = true) by rw [decide_eq_false (show ¬ (i ≠ 0 ∧ (i : Int) ≤ 15 ∧ runD (d.take i) = i) from fun h => hw h.2.2)]; simp)]
      split
      · rfl
      · rw [drop_cons (by omega)]
        have hne : d.getD (runD d) 0 ≠ 46 := fun h => by
          have := hbef (runD d) hr
          rw [List.getElem?_eq_getElem (by omega)] at this
          rw [List.getD_eq_getElem?_getD, List.getElem?_eq_getElem (by omega)] at h
          exact this (congrArg some h)
        exact if_neg fun h => hne h.1
    · have hw : runD (d.take i) = i := by rw [← hr]; exact run_take d
      have hb0 : i ≠ 0 → byteN (bs (d.take i)) 0 = byteN (bs d) 0 := fun h => by
        rw [byteN_bs, byteN_bs, getD_take (by omega)]
      rw [hr, drop_cons hlt, hgi, hw]
      generalize d.drop (i + 1) = f at *
      by_cases hc : i = 0 ∨ 15 < i ∨ (1 < i ∧ byteN (bs d) 0 = 48)
      · rw [if_pos hc, if_neg]
        rcases hc with hc | hc | hc
        · simp [hc]
        · have : ¬ (i ≠ 0 ∧ (i : Int) ≤ 15 ∧ i = i) := by omega
          rw [decide_eq_false this]; simp
        · rw [hb0 (by omega), decide_eq_false (show ¬ byteN (bs d) 0 ≠ 48 from fun h => h hc.2), decide_eq_false (show ¬ i = 1 by omega)]; simp
      · rw [if_neg hc]
        have c1 : (decide (i ≠ 0 ∧ (i : Int) ≤ 15 ∧ i = i) && (decide (byteN (bs (d.take i)) 0 ≠ 48) || decide (i = 1))) = true := by
          rw [hb0 (by omega), Bool.and_eq_true, Bool.or_eq_true, decide_eq_true_eq, decide_eq_true_eq, decide_eq_true_eq]; omega
        rw [c1, Bool.true_and]
        show (if 46 = 46 ∧ runD f ≠ 0 ∧ runD f = f.length ∧ (f.length : Int) ≤ P then some (d.take i, f) else none) = _
        by_cases hf : f.length ≠ 0 ∧ (f.length : Int) ≤ P ∧ runD f = f.length
        · rw [if_pos ⟨rfl, by omega, hf.2.2, hf.2.1⟩, if_pos (decide_eq_true hf)]
        · rw [if_neg (fun h => hf ⟨by omega, h.2.2.2, h.2.2.1⟩), if_neg (by rw [decide_eq_false hf]; simp)]
theorem byteN_app_l (w f : List UInt8) {i : Nat} (h : i < w.length) : byteN (bs (w ++ f)) i = byteN (bs w) i := by
  rw [byteN_bs, byteN_bs, List.getD_eq_getElem?_getD, List.getD_eq_getElem?_getD, List.getElem?_append_left h]
theorem byteN_app_r (w f : List UInt8) (i : Nat) : byteN (bs (w ++ f)) (w.length + i) = byteN (bs f) i := by
  rw [byteN_bs, byteN_bs, List.getD_eq_getElem?_getD, List.getD_eq_getElem?_getD, List.getElem?_append_right (by omega), Nat.add_sub_cancel_left]
theorem num_left (w f : List UInt8) : ∀ i, i ≤ w.length → numN (bs (w ++ f)) i = numN (bs w) i
  | 0, _ => rfl
  | i + 1, h => by rw [numN, numN, num_left w f i (by omega), byteN_app_l w f (by omega)]
theorem num_right (w f : List UInt8) : ∀ i, numN (bs (w ++ f)) (w.length + i) = numN (bs w) w.length * 10 ^ i + numN (bs f) i
  | 0 => by rw [Nat.add_zero, num_left w f _ (Nat.le_refl _)]; simp [numN]
  | i + 1 => by
    rw [← Nat.add_assoc, numN, num_right w f i, byteN_app_r, numN, Nat.pow_succ]
    grind
theorem num_all (w f : List UInt8) : numN (bs (w ++ f)) (w ++ f).length = decN w f := by
  rw [List.length_append, num_right]; rfl
end Go.Proofs.YtkiefjbfepjcbaaGreatDoor
end
