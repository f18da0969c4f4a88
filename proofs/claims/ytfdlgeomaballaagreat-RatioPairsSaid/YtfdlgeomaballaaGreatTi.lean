/- The walk of make.Int: a canonical number of at most so many bits. -/
import Derived.Test.YtfdlgeomaballaaGreatTp
import Derived.Test.YtfdlgeomaballaaGreatRa
import Derived.Test.YtfdlgeomaballaaGreatWi
import Derived.Great.BuildSlice
import Derived.Laws.Cover1
namespace Go.Proofs.YtfdlgeomaballaaGreat
open Go.RowKit
set_option linter.unusedVariables false

section
variable {c : Option Nat} {w0 w w' : World} {r l l' : List (Nat × Obj)} {P : Program} {ops : Array Oper} {rest : List Oper} {o : Oper} {a : Act} {Q : Exit → Act → World → Prop}
/-- A list of ints written out. -/
theorem L_ints (hS : St c w0 w r l) (hgd : o.guard = none) {t e : TypeId} {len : Nat} {parts : List (Nat × Operand)} (ho : o.op = .buildSlice t len parts.toArray) (hu : P.underlying t = some (.slice e)) (hsz : (P.info? e).map (·.size) = some 1)
    (hz : ((P.info? e).bind (·.zero)).isSome = true) (hpos : 0 < len) (hsmall : len ≤ 2 ^ 24)
    (h : ∃ zs : List Int, len = zs.length ∧ (parts.map fun x => (x.1, a.eval x.2)) = ((zs.map (Value.int .i64)).zipIdx 0).map (fun x => (x.2, x.1)) ∧ ∀ b w', St c w0 w' r ((b, .cells (ints zs) e) :: l) → wpList P ops Q rest (a.put o.dst (.slice (some ⟨b, 0, none⟩) len len)) w') : wpList P ops Q (o :: rest) a w := by
  obtain ⟨zs, hlen, hparts, h⟩ := h
  cases hie : P.info? e with
  | none => simp [hie] at hsz
  | some ie =>
    simp only [hie, Option.map_some, Option.some.injEq, Option.bind_some] at hsz hz
    obtain ⟨z, hzz⟩ := Option.isSome_iff_exists.1 hz
    refine wpList_buildSlice hgd t e len _ ho (ints zs) ie z hu hie hzz (by rw [hsz]; omega) (by rw [hsz]; omega) ?_ (h _ _ (hS.alloc _))
    rw [Array.toList_map, List.toList_toArray, hsz]
    have e1 : (parts.map fun (i, x) => (i, a.eval x)) = ((zs.map (Value.int .i64)).zipIdx 0).map (fun x => (x.2, x.1)) := hparts
    rw [e1]
    exact Great.fill_flat _ _ (fun v hv => by obtain ⟨n, _, rfl⟩ := List.mem_map.1 hv; rfl) (by simp [hlen])
theorem L_min3 (hgd : o.guard = none) {x y z : Operand} {ts : Array TypeId} (ho : o.op = .call { callee := .builtin .min, args := #[x, y, z], argTypes := ts })
    (h : ∃ p q s N, a.eval x = .int .i64 p ∧ a.eval y = .int .i64 q ∧ a.eval z = .int .i64 s ∧ min (min p q) s = N ∧ wpList P ops Q rest (a.put o.dst (.int .i64 N)) w) : wpList P ops Q (o :: rest) a w := by
  obtain ⟨p, q, s, N, hx, hy, hz, hN, h⟩ := h
  refine L_run hgd (.int .i64 N) ?_ h
  have e : (if s < (if q < p then q else p) then s else (if q < p then q else p)) = N := by split <;> (try split) <;> omega
  simp [execOp, ho, resolve, invoke, builtin, hx, hy, hz, run_min_int3, e, Result.andThen]
theorem ro_head {g b : Nat} {o o' : Obj} (hS : St c w0 w r ((g, o) :: l)) (i : Nat) (hm : l[i]? = some (b, o')) : ∀ x ∈ [(g, o)], x ∈ (g, o) :: l ∧ x.1 ≠ b := by
  intro x hx
  obtain rfl := List.mem_singleton.1 hx
  exact ⟨.head _, (List.pairwise_cons.1 hS.apart).1 _ (List.mem_of_getElem? hm)⟩
end

theorem iv_put (s : Bool) {m k v : Nat} (hk : k < 32) (hm : m < pw k) (hv : v < 4294967296) : (iv s m).setIfInBounds (1 + k) (.int .u32 ((v : Nat) : Int)) = iv s (m + v * pw k) := by
  rw [← put_low v hm]
  apply Array.ext_getElem?
  intro i
  rw [Array.getElem?_setIfInBounds]
  split
  · rename_i h; subst h
    rw [if_pos (by rw [iv_size]; omega), iv_limb hk, limb_put _ _ _ _ hv, if_pos rfl]
  · rename_i h
    rcases Nat.eq_zero_or_pos i with rfl | hi
    · rw [iv_neg, iv_neg]
    · obtain ⟨j, rfl⟩ : ∃ j, i = 1 + j := ⟨i - 1, by omega⟩
      rcases Nat.lt_or_ge j 32 with hj | hj
      · rw [iv_limb hj, iv_limb hj, limb_put _ _ _ _ hv, if_neg (by omega)]
      · rw [Array.getElem?_eq_none (by rw [iv_size]; omega), Array.getElem?_eq_none (by rw [iv_size]; omega)]

theorem iv_put' (s : Bool) {m k v : Nat} {z : Int} (hz : z = ((v : Nat) : Int)) (hk : k < 32) (hm : m < pw k) (hv : v < 4294967296) : (iv s m).setIfInBounds (1 + k) (.int .u32 z) = iv s (m + v * pw k) := by
  rw [hz]; exact iv_put s hk hm hv
theorem iv_neg_put (s s' : Bool) (m : Nat) : (iv s m).setIfInBounds 0 (.bool s') = iv s' m := by
  apply Array.ext_getElem?
  intro i
  rw [Array.getElem?_setIfInBounds]
  split
  · rename_i h; subst h
    rw [if_pos (by rw [iv_size]; omega), iv_neg]
  · rename_i h
    obtain ⟨j, rfl⟩ : ∃ j, i = 1 + j := ⟨i - 1, by omega⟩
    rw [iv_mag, iv_mag]
theorem size4 : (Tryz.prog.info? 4).map (·.size) = some 1 := by kernel_rfl
theorem mask_and {z : Int} {v j : Nat} (hz : z = ((v : Nat) : Int)) (hv : v < 4294967296) (hj : j < 32) : bits BinOp.and IntKind.u32 z ((2 ^ j - 1) % 4294967296) = ((v % 2 ^ j : Nat) : Int) := by
  have h1 : 2 ^ j ≤ 2 ^ 31 := Nat.pow_le_pow_right (by omega) (by omega)
  have h2 : 0 < 2 ^ j := Nat.pow_pos (by omega)
  have e : ((2 ^ j - 1) % 4294967296 : Int) = ((2 ^ j - 1 : Nat) : Int) := by
    have : ((2 : Int) ^ j) = ((2 ^ j : Nat) : Int) := by simp
    rw [this]
    omega
  rw [hz, e, u32_and_nat v _ hv (by omega), Nat.and_two_pow_sub_one_eq_mod]
theorem fill_bits {m v k N : Nat} (h : 32 * k < N) (hm : m < 2 ^ (32 * k)) (hv : v < 4294967296) (hl : N - 32 * k < 32 → v < 2 ^ (N - 32 * k)) : m + v * pw k < 2 ^ (min (32 * (k + 1)) N) := by
  have key : ∀ j, v < 2 ^ j → m + v * pw k < 2 ^ (32 * k + j) := by
    intro j hj
    rw [pw_bits, Nat.pow_add]
    have h1 : (v + 1) * 2 ^ (32 * k) ≤ 2 ^ j * 2 ^ (32 * k) := Nat.mul_le_mul_right _ hj
    rw [Nat.add_mul, Nat.one_mul] at h1
    rw [Nat.mul_comm (2 ^ (32 * k))]
    omega
  by_cases hc : N - 32 * k < 32
  · have := key _ (hl hc)
    rw [show 32 * k + (N - 32 * k) = min (32 * (k + 1)) N by omega] at this
    exact this
  · have := key 32 hv
    rw [show 32 * k + 32 = min (32 * (k + 1)) N by omega] at this
    exact this
end Go.Proofs.YtfdlgeomaballaaGreat
