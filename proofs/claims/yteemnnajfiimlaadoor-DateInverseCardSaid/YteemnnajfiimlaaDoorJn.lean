/- Dates and texts undo each other, and the next day is the next date: DateInverse. -/
import Derived.Test.YteemnnajfiimlaaDoorJl
namespace Go.Proofs.YteemnnajfiimlaaDoor
open Go.RowKit Go.Proofs.YteemnnajfiimlaaDoor.Sx
set_option linter.unusedSimpArgs false
set_option linter.unusedVariables false

theorem ofNat_byte {k : Nat} (h : k < 256) : (UInt8.ofNat k).toNat = k := by simp [Nat.mod_eq_of_lt h]
theorem dd_dig {n : Nat} (h : n ≤ 99) : digL (dd n) = true := by
  simp only [dd, digL, List.all_cons, List.all_nil, Bool.and_true, Bool.and_eq_true, dgb_iff]
  rw [ofNat_byte (by omega), ofNat_byte (by omega)]; omega
theorem dd_num {n : Nat} (h : n ≤ 99) : numL (dd n) = n := by
  simp only [dd, numL, List.foldl_cons, List.foldl_nil, numF]
  rw [ofNat_byte (by omega), ofNat_byte (by omega)]; omega
theorem dd_num2 {a b : Nat} (ha : a ≤ 99) (hb : b ≤ 99) : numL (dd a ++ dd b) = a * 100 + b := by
  simp only [dd, numL, List.cons_append, List.nil_append, List.foldl_cons, List.foldl_nil, numF]
  rw [ofNat_byte (by omega), ofNat_byte (by omega), ofNat_byte (by omega), ofNat_byte (by omega)]; omega
theorem dig_app {a b : List UInt8} (ha : digL a = true) (hb : digL b = true) : digL (a ++ b) = true := by
  unfold digL at *; rw [List.all_append, ha, hb]; rfl
theorem parse_text {n : Int} {y m d : Nat} (h : IsCivil n y m d) : parseR (textL y m d) = .tuple #[.int .i64 n, .int .i64 0] := by
  have y1 := h.y1; have y2 := h.y2; have m1 := h.m1; have m2 := h.m2; have d1 := h.d1; have d2 := h.d2
  have b := ml_ge (leapI y) m1 m2
  have ey : yL (textL y m d) = dd (y / 100) ++ dd (y % 100) := rfl
  have em : mL (textL y m d) = dd m := rfl
  have ed : dL (textL y m d) = dd d := rfl
  have hf : formL (textL y m d) = true := by
    unfold formL
    rw [ey, em, ed, dig_app (dd_dig (by omega)) (dd_dig (by omega)), dd_dig (n := m) (by omega), dd_dig (n := d) (by omega)]
    rfl
  unfold parseR
  rw [if_pos hf, ey, em, ed, dd_num2 (by omega) (by omega), dd_num (by omega), dd_num (by omega), show y / 100 * 100 + y % 100 = y by omega]
  exact fromR_civil h
open Go.Op in
theorem bl_app : ∀ (p a b : List UInt8), bytesLess (p ++ a) (p ++ b) = bytesLess a b
  | [], a, b => rfl
  | c :: p, a, b => by
    simp only [List.cons_append, bytesLess, bl_app p a b]
    simp
open Go.Op in
theorem bl_tail : ∀ (a b s t : List UInt8), a.length = b.length → bytesLess a b = true → bytesLess (a ++ s) (b ++ t) = true
  | [], [], s, t, _, h => by cases h
  | [], _ :: _, _, _, h, _ => by simp at h
  | _ :: _, [], _, _, h, _ => by simp at h
  | c :: a, e :: b, s, t, hl, h => by
    simp only [bytesLess, Bool.or_eq_true, Bool.and_eq_true, List.cons_append] at h ⊢
    rcases h with h | ⟨h1, h2⟩
    · exact .inl h
    · exact .inr ⟨h1, bl_tail a b s t (by simpa using hl) h2⟩
theorem dd_less {n : Nat} (h : n < 99) : Op.bytesLess (dd n) (dd (n + 1)) = true := by
  have : ∀ n : Fin 99, Op.bytesLess (dd n.val) (dd (n.val + 1)) = true := by decide +kernel
  exact this ⟨n, h⟩
theorem yr_less {y : Nat} (h1 : 2000 ≤ y) (h2 : y < 2199) : Op.bytesLess (dd (y / 100) ++ dd (y % 100)) (dd ((y + 1) / 100) ++ dd ((y + 1) % 100)) = true := by
  have : ∀ k : Fin 199, Op.bytesLess (dd ((2000 + k.val) / 100) ++ dd ((2000 + k.val) % 100)) (dd ((2000 + k.val + 1) / 100) ++ dd ((2000 + k.val + 1) % 100)) = true := by decide +kernel
  have h := this ⟨y - 2000, by omega⟩
  simpa [show 2000 + (y - 2000) = y by omega] using h
theorem less_d {y m d : Nat} (h : d < 99) : Op.bytesLess (textL y m d) (textL y m (d + 1)) = true := by
  unfold textL; rw [bl_app]; exact dd_less h
theorem less_m {y m d e : Nat} (h : m < 99) : Op.bytesLess (textL y m d) (textL y (m + 1) e) = true := by
  unfold textL
  simp only [List.append_assoc]
  rw [bl_app, bl_app, bl_app]
  exact bl_tail _ _ _ _ rfl (dd_less h)
theorem less_y {y m d k e : Nat} (h1 : 2000 ≤ y) (h2 : y < 2199) : Op.bytesLess (textL y m d) (textL (y + 1) k e) = true := by
  unfold textL
  rw [List.append_assoc, List.append_assoc, List.append_assoc, List.append_assoc (dd ((y + 1) / 100) ++ dd ((y + 1) % 100) ++ [45] ++ dd k), List.append_assoc (dd ((y + 1) / 100) ++ dd ((y + 1) % 100) ++ [45]), List.append_assoc (dd ((y + 1) / 100) ++ dd ((y + 1) % 100))]
  exact bl_tail _ _ _ _ rfl (yr_less h1 h2)
/-- The date of the next day. -/
theorem tomorrow {n y m d : Int} (h : IsCivil n y m d) (hn : n < 73048) :
    (d < ml (leapI y) m ∧ IsCivil (n + 1) y m (d + 1)) ∨ (d = ml (leapI y) m ∧ m < 12 ∧ IsCivil (n + 1) y (m + 1) 1) ∨ (d = ml (leapI y) m ∧ m = 12 ∧ IsCivil (n + 1) (y + 1) 1 1) := by
  have d1 := h.d1; have d2 := h.d2; have e := h.e
  rcases Int.lt_or_le d (ml (leapI y) m) with a | a
  · exact .inl ⟨a, h.y1, h.y2, h.m1, h.m2, by omega, by omega, by omega⟩
  · have hd : d = ml (leapI y) m := by omega
    have hn2 : n = endZ y m := by unfold endZ; omega
    obtain ⟨y', m', hc, hh⟩ := h.next (by omega)
    rw [← hn2] at hc
    rcases hh with ⟨h1, rfl, rfl⟩ | ⟨h1, rfl, rfl⟩
    · exact .inr (.inl ⟨hd, h1, hc⟩)
    · exact .inr (.inr ⟨hd, h1, hc⟩)
set_option maxHeartbeats 4000000 in
theorem inverse_any [Outer] (hT : HasTab) (Lv : Value) (hL : fix Lv = Lv) (hs : Slc Outer.r Lv) (w : World) (hro : ∀ x ∈ Outer.r, w.heap[x.1]? = some x.2) :
    Calls Tryd.prog 7 #[Lv] w fun e w' => e = .returned (.bool true) ∧ Below w.heap.size w w' := by
  obtain ⟨tv, ht⟩ := slc_tape hs
  obtain ⟨n, k1, hn, ha, hb, g1⟩ := day_given Lv hL tv ht 0 (by omega)
  obtain ⟨y, m, d, hc⟩ := civil_of hn.1 hn.2
  have y1 := hc.y1; have y2 := hc.y2; have m1 := hc.m1; have m2 := hc.m2; have d1 := hc.d1; have d2 := hc.d2
  have bl := ml_ge (leapI y) m1 m2
  obtain ⟨Y, rfl⟩ : ∃ Y : Nat, y = Y := ⟨y.toNat, by omega⟩
  obtain ⟨M, rfl⟩ : ∃ M : Nat, m = M := ⟨m.toNat, by omega⟩
  obtain ⟨D, rfl⟩ : ∃ D : Nat, d = D := ⟨d.toNat, by omega⟩
  have g2 := civil_p hc
  have g3 := from_p Y M D
  rw [fromR_civil hc] at g3
  have g4 := format_p hT hc
  unfold textR at g4
  rw [Int.toNat_natCast, Int.toNat_natCast, Int.toNat_natCast] at g4
  have g5 := parse_p (textL Y M D)
  rw [parse_text hc] at g5
  have gk := known_reads hT
  have g6 := length_p Y M
  unfold lengthR at g6
  rw [if_pos ⟨y1, y2, m1, m2⟩] at g6
  by_cases hm : n = 73048
  · clear g6
    have main : evDen Tryd.prog (fun ρ' => (∀ x ∈ tiInverseM_asm, x.1.den (env ρ') = x.2) ∧ ∀ β, tiInverseM_out.val.den (env ρ') β = .bool true) tiInverseM_evs [Lv] := by
      unfold tiInverseM_evs
      refine ev_turn [.int .i64 n, .int .i64 ((k1 : Nat) : Int)] rfl rfl (fun β _ => Given.turns (fun b => #[.pointer (some ⟨b, 0, none⟩)]) (g1) (fun β => by simp [BTm.den, Tm.i, Tm.s, Tm.den, env, vInt, vBool, vStr, exI, SW.den, SV.den, Cell.den, densP, Piece.den, denV, denT, hL]) (fun β => by simp [BTm.den, Tm.i, Tm.s, Tm.den, env, vInt, vBool, vStr, exI, SW.den, SV.den, Cell.den, densP, Piece.den, denV, denT, hL]) (fun β => by simp [BTm.den, Tm.i, Tm.s, Tm.den, env, vInt, vBool, vStr, exI, SW.den, SV.den, Cell.den, densP, Piece.den, denV, denT, hL]) (fun β => by simp [BTm.den, Tm.i, Tm.s, Tm.den, env, vInt, vBool, vStr, exI, SW.den, SV.den, Cell.den, densP, Piece.den, denV, denT, hL]) β) ?_
      refine ev_call [.int .i64 Y, .int .i64 M, .int .i64 D, .int .i64 0] rfl rfl (pure_gives g2) (fun β => by simp [BTm.den, Tm.i, Tm.s, Tm.den, env, vInt, vBool, vStr, exI, SW.den, SV.den, Cell.den, densP, Piece.den, denV, denT]) (fun β => by simp [BTm.den, Tm.i, Tm.s, Tm.den, env, vInt, vBool, vStr, exI, SW.den, SV.den, Cell.den, densP, Piece.den, denV, denT, civilV]) ?_
      refine ev_call [.int .i64 n, .int .i64 0] rfl rfl (pure_gives g3) (fun β => by simp [BTm.den, Tm.i, Tm.s, Tm.den, env, vInt, vBool, vStr, exI, SW.den, SV.den, Cell.den, densP, Piece.den, denV, denT]) (fun β => by simp [BTm.den, Tm.i, Tm.s, Tm.den, env, vInt, vBool, vStr, exI, SW.den, SV.den, Cell.den, densP, Piece.den, denV, denT]) ?_
      refine ev_turn [.string (bs (textL Y M D)), .int .i64 0] rfl rfl (fun β _ => Reads.ev g4 (by simp [BTm.den, Tm.i, Tm.s, Tm.den, env, vInt, vBool, vStr, exI, SW.den, SV.den, Cell.den, densP, Piece.den, denV, denT]) (by simp [BTm.den, Tm.i, Tm.s, Tm.den, env, vInt, vBool, vStr, exI, SW.den, SV.den, Cell.den, densP, Piece.den, denV, denT])) ?_
      refine ev_call [.int .i64 n, .int .i64 0] rfl rfl (pure_gives g5) (fun β => by simp [BTm.den, Tm.i, Tm.s, Tm.den, env, vInt, vBool, vStr, exI, SW.den, SV.den, Cell.den, densP, Piece.den, denV, denT]) (fun β => by simp [BTm.den, Tm.i, Tm.s, Tm.den, env, vInt, vBool, vStr, exI, SW.den, SV.den, Cell.den, densP, Piece.den, denV, denT]) ?_
      refine ev_turn [.bool true] rfl rfl (fun β _ => Reads.ev gk (by simp [BTm.den, Tm.i, Tm.s, Tm.den, env, vInt, vBool, vStr, exI, SW.den, SV.den, Cell.den, densP, Piece.den, denV, denT]) (by simp [BTm.den, Tm.i, Tm.s, Tm.den, env, vInt, vBool, vStr, exI, SW.den, SV.den, Cell.den, densP, Piece.den, denV, denT])) ?_
      refine ev_nil ⟨by simp [tiInverseM_asm, BTm.den, Tm.i, Tm.s, Tm.den, env, vInt, vBool, vStr, exI, hm], fun β => ?_⟩
      simp [tiInverseM_out, BTm.den, Tm.i, Tm.s, Tm.den, env, vInt, vBool, vStr, exI, SW.den, SV.den, Cell.den, densP, Piece.den, denV, denT]
    have h := reads_flat plain [Lv] tiInverseM_ok tiInverseM_nx (by kernel_rfl) _ main w hro
    simpa [BTm.den, Tm.i, Tm.s, Tm.den, env, vInt, vBool, vStr, exI, SW.den, SV.den, Cell.den, densP, Piece.den, denV, denT, denT, hL] using h
  rcases tomorrow hc (by omega) with ⟨hd, hx⟩ | ⟨hd, hlt, hx⟩ | ⟨hd, hlt, hx⟩
  · have q2 := civil_p hx
    have q4 := format_p hT hx
    unfold textR at q4
    rw [Int.toNat_natCast, Int.toNat_natCast, show ((D : Int) + 1).toNat = D + 1 by omega] at q4
    have ls := less_d (y := Y) (m := M) (d := D) (by omega)
    obtain ⟨S, hS⟩ : ∃ S, S = textL Y M D := ⟨_, rfl⟩
    obtain ⟨T, hT2⟩ : ∃ T, T = textL Y M (D + 1) := ⟨_, rfl⟩
    rw [← hS, ← hT2] at ls
    rw [← hT2] at q4
    have main : evDen Tryd.prog (fun ρ' => (∀ x ∈ tiInvA_asm, x.1.den (env ρ') = x.2) ∧ ∀ β, tiInvA_out.val.den (env ρ') β = .bool true) tiInvA_evs [Lv] := by
      unfold tiInvA_evs
      refine ev_turn [.int .i64 n, .int .i64 ((k1 : Nat) : Int)] rfl rfl (fun β _ => Given.turns (fun b => #[.pointer (some ⟨b, 0, none⟩)]) (g1) (fun β => by simp [BTm.den, Tm.i, Tm.s, Tm.den, env, vInt, vBool, vStr, exI, SW.den, SV.den, Cell.den, densP, Piece.den, denV, denT, hL]) (fun β => by simp [BTm.den, Tm.i, Tm.s, Tm.den, env, vInt, vBool, vStr, exI, SW.den, SV.den, Cell.den, densP, Piece.den, denV, denT, hL]) (fun β => by simp [BTm.den, Tm.i, Tm.s, Tm.den, env, vInt, vBool, vStr, exI, SW.den, SV.den, Cell.den, densP, Piece.den, denV, denT, hL]) (fun β => by simp [BTm.den, Tm.i, Tm.s, Tm.den, env, vInt, vBool, vStr, exI, SW.den, SV.den, Cell.den, densP, Piece.den, denV, denT, hL]) β) ?_
      refine ev_call [.int .i64 Y, .int .i64 M, .int .i64 D, .int .i64 0] rfl rfl (pure_gives g2) (fun β => by simp [BTm.den, Tm.i, Tm.s, Tm.den, env, vInt, vBool, vStr, exI, SW.den, SV.den, Cell.den, densP, Piece.den, denV, denT]) (fun β => by simp [BTm.den, Tm.i, Tm.s, Tm.den, env, vInt, vBool, vStr, exI, SW.den, SV.den, Cell.den, densP, Piece.den, denV, denT, civilV]) ?_
      refine ev_call [.int .i64 n, .int .i64 0] rfl rfl (pure_gives g3) (fun β => by simp [BTm.den, Tm.i, Tm.s, Tm.den, env, vInt, vBool, vStr, exI, SW.den, SV.den, Cell.den, densP, Piece.den, denV, denT]) (fun β => by simp [BTm.den, Tm.i, Tm.s, Tm.den, env, vInt, vBool, vStr, exI, SW.den, SV.den, Cell.den, densP, Piece.den, denV, denT]) ?_
      refine ev_turn [.string (bs (textL Y M D)), .int .i64 0] rfl rfl (fun β _ => Reads.ev g4 (by simp [BTm.den, Tm.i, Tm.s, Tm.den, env, vInt, vBool, vStr, exI, SW.den, SV.den, Cell.den, densP, Piece.den, denV, denT]) (by simp [BTm.den, Tm.i, Tm.s, Tm.den, env, vInt, vBool, vStr, exI, SW.den, SV.den, Cell.den, densP, Piece.den, denV, denT])) ?_
      refine ev_call [.int .i64 n, .int .i64 0] rfl rfl (pure_gives g5) (fun β => by simp [BTm.den, Tm.i, Tm.s, Tm.den, env, vInt, vBool, vStr, exI, SW.den, SV.den, Cell.den, densP, Piece.den, denV, denT]) (fun β => by simp [BTm.den, Tm.i, Tm.s, Tm.den, env, vInt, vBool, vStr, exI, SW.den, SV.den, Cell.den, densP, Piece.den, denV, denT]) ?_
      refine ev_call [.int .i64 (ml (leapI Y) M), .int .i64 0] rfl rfl (pure_gives g6) (fun β => by simp [BTm.den, Tm.i, Tm.s, Tm.den, env, vInt, vBool, vStr, exI, SW.den, SV.den, Cell.den, densP, Piece.den, denV, denT]) (fun β => by simp [BTm.den, Tm.i, Tm.s, Tm.den, env, vInt, vBool, vStr, exI, SW.den, SV.den, Cell.den, densP, Piece.den, denV, denT]) ?_
      refine ev_fits (n + 1) (by simp [BTm.den, Tm.i, Tm.s, Tm.den, env, vInt, vBool, vStr, exI]) (rng_i64 _ (by omega)) ?_
      refine ev_call [.int .i64 (Y), .int .i64 (M), .int .i64 (D + 1), .int .i64 0] rfl rfl (pure_gives q2) (fun β => by simp [BTm.den, Tm.i, Tm.s, Tm.den, env, vInt, vBool, vStr, exI, SW.den, SV.den, Cell.den, densP, Piece.den, denV, denT]) (fun β => by simp [BTm.den, Tm.i, Tm.s, Tm.den, env, vInt, vBool, vStr, exI, SW.den, SV.den, Cell.den, densP, Piece.den, denV, denT, civilV]) ?_
      refine ev_fits (n + 1) (by simp [BTm.den, Tm.i, Tm.s, Tm.den, env, vInt, vBool, vStr, exI]) (rng_i64 _ (by omega)) ?_
      refine ev_turn [.string (bs T), .int .i64 0] rfl rfl (fun β _ => Reads.ev q4 (by simp [BTm.den, Tm.i, Tm.s, Tm.den, env, vInt, vBool, vStr, exI, SW.den, SV.den, Cell.den, densP, Piece.den, denV, denT]) (by simp [BTm.den, Tm.i, Tm.s, Tm.den, env, vInt, vBool, vStr, exI, SW.den, SV.den, Cell.den, densP, Piece.den, denV, denT])) ?_
      refine ev_fits ((D : Int) + 1) (by simp [BTm.den, Tm.i, Tm.s, Tm.den, env, vInt, vBool, vStr, exI]) (rng_i64 _ (by omega)) ?_
      refine ev_turn [.bool true] rfl rfl (fun β _ => Reads.ev gk (by simp [BTm.den, Tm.i, Tm.s, Tm.den, env, vInt, vBool, vStr, exI, SW.den, SV.den, Cell.den, densP, Piece.den, denV, denT]) (by simp [BTm.den, Tm.i, Tm.s, Tm.den, env, vInt, vBool, vStr, exI, SW.den, SV.den, Cell.den, densP, Piece.den, denV, denT])) ?_
      refine ev_nil ⟨by simp [tiInvA_asm, BTm.den, Tm.i, Tm.s, Tm.den, env, vInt, vBool, vStr, exI]; omega, fun β => ?_⟩
      simp [tiInvA_out, BTm.den, Tm.i, Tm.s, Tm.den, env, vInt, vBool, vStr, exI, SW.den, SV.den, Cell.den, densP, Piece.den, denV, denT, bs_toList, ← hS, ls]
    have h := reads_flat plain [Lv] tiInvA_ok tiInvA_nx (by kernel_rfl) _ main w hro
    simpa [BTm.den, Tm.i, Tm.s, Tm.den, env, vInt, vBool, vStr, exI, SW.den, SV.den, Cell.den, densP, Piece.den, denV, denT, denT, hL] using h
  · have q2 := civil_p hx
    have q4 := format_p hT hx
    unfold textR at q4
    rw [Int.toNat_natCast, show ((M : Int) + 1).toNat = M + 1 by omega, show (1 : Int).toNat = 1 by rfl] at q4
    have ls := less_m (y := Y) (m := M) (d := D) (e := 1) (by omega)
    obtain ⟨S, hS⟩ : ∃ S, S = textL Y M D := ⟨_, rfl⟩
    obtain ⟨T, hT2⟩ : ∃ T, T = textL Y (M + 1) 1 := ⟨_, rfl⟩
    rw [← hS, ← hT2] at ls
    rw [← hT2] at q4
    have main : evDen Tryd.prog (fun ρ' => (∀ x ∈ tiInvB_asm, x.1.den (env ρ') = x.2) ∧ ∀ β, tiInvB_out.val.den (env ρ') β = .bool true) tiInvB_evs [Lv] := by
      unfold tiInvB_evs
      refine ev_turn [.int .i64 n, .int .i64 ((k1 : Nat) : Int)] rfl rfl (fun β _ => Given.turns (fun b => #[.pointer (some ⟨b, 0, none⟩)]) (g1) (fun β => by simp [BTm.den, Tm.i, Tm.s, Tm.den, env, vInt, vBool, vStr, exI, SW.den, SV.den, Cell.den, densP, Piece.den, denV, denT, hL]) (fun β => by simp [BTm.den, Tm.i, Tm.s, Tm.den, env, vInt, vBool, vStr, exI, SW.den, SV.den, Cell.den, densP, Piece.den, denV, denT, hL]) (fun β => by simp [BTm.den, Tm.i, Tm.s, Tm.den, env, vInt, vBool, vStr, exI, SW.den, SV.den, Cell.den, densP, Piece.den, denV, denT, hL]) (fun β => by simp [BTm.den, Tm.i, Tm.s, Tm.den, env, vInt, vBool, vStr, exI, SW.den, SV.den, Cell.den, densP, Piece.den, denV, denT, hL]) β) ?_
      refine ev_call [.int .i64 Y, .int .i64 M, .int .i64 D, .int .i64 0] rfl rfl (pure_gives g2) (fun β => by simp [BTm.den, Tm.i, Tm.s, Tm.den, env, vInt, vBool, vStr, exI, SW.den, SV.den, Cell.den, densP, Piece.den, denV, denT]) (fun β => by simp [BTm.den, Tm.i, Tm.s, Tm.den, env, vInt, vBool, vStr, exI, SW.den, SV.den, Cell.den, densP, Piece.den, denV, denT, civilV]) ?_
      refine ev_call [.int .i64 n, .int .i64 0] rfl rfl (pure_gives g3) (fun β => by simp [BTm.den, Tm.i, Tm.s, Tm.den, env, vInt, vBool, vStr, exI, SW.den, SV.den, Cell.den, densP, Piece.den, denV, denT]) (fun β => by simp [BTm.den, Tm.i, Tm.s, Tm.den, env, vInt, vBool, vStr, exI, SW.den, SV.den, Cell.den, densP, Piece.den, denV, denT]) ?_
      refine ev_turn [.string (bs (textL Y M D)), .int .i64 0] rfl rfl (fun β _ => Reads.ev g4 (by simp [BTm.den, Tm.i, Tm.s, Tm.den, env, vInt, vBool, vStr, exI, SW.den, SV.den, Cell.den, densP, Piece.den, denV, denT]) (by simp [BTm.den, Tm.i, Tm.s, Tm.den, env, vInt, vBool, vStr, exI, SW.den, SV.den, Cell.den, densP, Piece.den, denV, denT])) ?_
      refine ev_call [.int .i64 n, .int .i64 0] rfl rfl (pure_gives g5) (fun β => by simp [BTm.den, Tm.i, Tm.s, Tm.den, env, vInt, vBool, vStr, exI, SW.den, SV.den, Cell.den, densP, Piece.den, denV, denT]) (fun β => by simp [BTm.den, Tm.i, Tm.s, Tm.den, env, vInt, vBool, vStr, exI, SW.den, SV.den, Cell.den, densP, Piece.den, denV, denT]) ?_
      refine ev_call [.int .i64 (ml (leapI Y) M), .int .i64 0] rfl rfl (pure_gives g6) (fun β => by simp [BTm.den, Tm.i, Tm.s, Tm.den, env, vInt, vBool, vStr, exI, SW.den, SV.den, Cell.den, densP, Piece.den, denV, denT]) (fun β => by simp [BTm.den, Tm.i, Tm.s, Tm.den, env, vInt, vBool, vStr, exI, SW.den, SV.den, Cell.den, densP, Piece.den, denV, denT]) ?_
      refine ev_fits (n + 1) (by simp [BTm.den, Tm.i, Tm.s, Tm.den, env, vInt, vBool, vStr, exI]) (rng_i64 _ (by omega)) ?_
      refine ev_call [.int .i64 (Y), .int .i64 (M + 1), .int .i64 (1), .int .i64 0] rfl rfl (pure_gives q2) (fun β => by simp [BTm.den, Tm.i, Tm.s, Tm.den, env, vInt, vBool, vStr, exI, SW.den, SV.den, Cell.den, densP, Piece.den, denV, denT]) (fun β => by simp [BTm.den, Tm.i, Tm.s, Tm.den, env, vInt, vBool, vStr, exI, SW.den, SV.den, Cell.den, densP, Piece.den, denV, denT, civilV]) ?_
      refine ev_fits (n + 1) (by simp [BTm.den, Tm.i, Tm.s, Tm.den, env, vInt, vBool, vStr, exI]) (rng_i64 _ (by omega)) ?_
      refine ev_turn [.string (bs T), .int .i64 0] rfl rfl (fun β _ => Reads.ev q4 (by simp [BTm.den, Tm.i, Tm.s, Tm.den, env, vInt, vBool, vStr, exI, SW.den, SV.den, Cell.den, densP, Piece.den, denV, denT]) (by simp [BTm.den, Tm.i, Tm.s, Tm.den, env, vInt, vBool, vStr, exI, SW.den, SV.den, Cell.den, densP, Piece.den, denV, denT])) ?_
      refine ev_fits ((M : Int) + 1) (by simp [BTm.den, Tm.i, Tm.s, Tm.den, env, vInt, vBool, vStr, exI]) (rng_i64 _ (by omega)) ?_
      refine ev_turn [.bool true] rfl rfl (fun β _ => Reads.ev gk (by simp [BTm.den, Tm.i, Tm.s, Tm.den, env, vInt, vBool, vStr, exI, SW.den, SV.den, Cell.den, densP, Piece.den, denV, denT]) (by simp [BTm.den, Tm.i, Tm.s, Tm.den, env, vInt, vBool, vStr, exI, SW.den, SV.den, Cell.den, densP, Piece.den, denV, denT])) ?_
      refine ev_nil ⟨by simp [tiInvB_asm, BTm.den, Tm.i, Tm.s, Tm.den, env, vInt, vBool, vStr, exI]; omega, fun β => ?_⟩
      simp [tiInvB_out, BTm.den, Tm.i, Tm.s, Tm.den, env, vInt, vBool, vStr, exI, SW.den, SV.den, Cell.den, densP, Piece.den, denV, denT, bs_toList, ← hS, ls]
    have h := reads_flat plain [Lv] tiInvB_ok tiInvB_nx (by kernel_rfl) _ main w hro
    simpa [BTm.den, Tm.i, Tm.s, Tm.den, env, vInt, vBool, vStr, exI, SW.den, SV.den, Cell.den, densP, Piece.den, denV, denT, denT, hL] using h
  · have q2 := civil_p hx
    have q4 := format_p hT hx
    unfold textR at q4
    rw [show ((Y : Int) + 1).toNat = Y + 1 by omega, show (1 : Int).toNat = 1 by rfl] at q4
    have yu := hx.y2
    have ls := less_y (y := Y) (m := M) (d := D) (k := 1) (e := 1) (by omega) (by omega)
    obtain ⟨S, hS⟩ : ∃ S, S = textL Y M D := ⟨_, rfl⟩
    obtain ⟨T, hT2⟩ : ∃ T, T = textL (Y + 1) 1 1 := ⟨_, rfl⟩
    rw [← hS, ← hT2] at ls
    rw [← hT2] at q4
    have main : evDen Tryd.prog (fun ρ' => (∀ x ∈ tiInvC_asm, x.1.den (env ρ') = x.2) ∧ ∀ β, tiInvC_out.val.den (env ρ') β = .bool true) tiInvC_evs [Lv] := by
      unfold tiInvC_evs
      refine ev_turn [.int .i64 n, .int .i64 ((k1 : Nat) : Int)] rfl rfl (fun β _ => Given.turns (fun b => #[.pointer (some ⟨b, 0, none⟩)]) (g1) (fun β => by simp [BTm.den, Tm.i, Tm.s, Tm.den, env, vInt, vBool, vStr, exI, SW.den, SV.den, Cell.den, densP, Piece.den, denV, denT, hL]) (fun β => by simp [BTm.den, Tm.i, Tm.s, Tm.den, env, vInt, vBool, vStr, exI, SW.den, SV.den, Cell.den, densP, Piece.den, denV, denT, hL]) (fun β => by simp [BTm.den, Tm.i, Tm.s, Tm.den, env, vInt, vBool, vStr, exI, SW.den, SV.den, Cell.den, densP, Piece.den, denV, denT, hL]) (fun β => by simp [BTm.den, Tm.i, Tm.s, Tm.den, env, vInt, vBool, vStr, exI, SW.den, SV.den, Cell.den, densP, Piece.den, denV, denT, hL]) β) ?_
      refine ev_call [.int .i64 Y, .int .i64 M, .int .i64 D, .int .i64 0] rfl rfl (pure_gives g2) (fun β => by simp [BTm.den, Tm.i, Tm.s, Tm.den, env, vInt, vBool, vStr, exI, SW.den, SV.den, Cell.den, densP, Piece.den, denV, denT]) (fun β => by simp [BTm.den, Tm.i, Tm.s, Tm.den, env, vInt, vBool, vStr, exI, SW.den, SV.den, Cell.den, densP, Piece.den, denV, denT, civilV]) ?_
      refine ev_call [.int .i64 n, .int .i64 0] rfl rfl (pure_gives g3) (fun β => by simp [BTm.den, Tm.i, Tm.s, Tm.den, env, vInt, vBool, vStr, exI, SW.den, SV.den, Cell.den, densP, Piece.den, denV, denT]) (fun β => by simp [BTm.den, Tm.i, Tm.s, Tm.den, env, vInt, vBool, vStr, exI, SW.den, SV.den, Cell.den, densP, Piece.den, denV, denT]) ?_
      refine ev_turn [.string (bs (textL Y M D)), .int .i64 0] rfl rfl (fun β _ => Reads.ev g4 (by simp [BTm.den, Tm.i, Tm.s, Tm.den, env, vInt, vBool, vStr, exI, SW.den, SV.den, Cell.den, densP, Piece.den, denV, denT]) (by simp [BTm.den, Tm.i, Tm.s, Tm.den, env, vInt, vBool, vStr, exI, SW.den, SV.den, Cell.den, densP, Piece.den, denV, denT])) ?_
      refine ev_call [.int .i64 n, .int .i64 0] rfl rfl (pure_gives g5) (fun β => by simp [BTm.den, Tm.i, Tm.s, Tm.den, env, vInt, vBool, vStr, exI, SW.den, SV.den, Cell.den, densP, Piece.den, denV, denT]) (fun β => by simp [BTm.den, Tm.i, Tm.s, Tm.den, env, vInt, vBool, vStr, exI, SW.den, SV.den, Cell.den, densP, Piece.den, denV, denT]) ?_
      refine ev_call [.int .i64 (ml (leapI Y) M), .int .i64 0] rfl rfl (pure_gives g6) (fun β => by simp [BTm.den, Tm.i, Tm.s, Tm.den, env, vInt, vBool, vStr, exI, SW.den, SV.den, Cell.den, densP, Piece.den, denV, denT]) (fun β => by simp [BTm.den, Tm.i, Tm.s, Tm.den, env, vInt, vBool, vStr, exI, SW.den, SV.den, Cell.den, densP, Piece.den, denV, denT]) ?_
      refine ev_fits (n + 1) (by simp [BTm.den, Tm.i, Tm.s, Tm.den, env, vInt, vBool, vStr, exI]) (rng_i64 _ (by omega)) ?_
      refine ev_call [.int .i64 (Y + 1), .int .i64 (1), .int .i64 (1), .int .i64 0] rfl rfl (pure_gives q2) (fun β => by simp [BTm.den, Tm.i, Tm.s, Tm.den, env, vInt, vBool, vStr, exI, SW.den, SV.den, Cell.den, densP, Piece.den, denV, denT]) (fun β => by simp [BTm.den, Tm.i, Tm.s, Tm.den, env, vInt, vBool, vStr, exI, SW.den, SV.den, Cell.den, densP, Piece.den, denV, denT, civilV]) ?_
      refine ev_fits (n + 1) (by simp [BTm.den, Tm.i, Tm.s, Tm.den, env, vInt, vBool, vStr, exI]) (rng_i64 _ (by omega)) ?_
      refine ev_turn [.string (bs T), .int .i64 0] rfl rfl (fun β _ => Reads.ev q4 (by simp [BTm.den, Tm.i, Tm.s, Tm.den, env, vInt, vBool, vStr, exI, SW.den, SV.den, Cell.den, densP, Piece.den, denV, denT]) (by simp [BTm.den, Tm.i, Tm.s, Tm.den, env, vInt, vBool, vStr, exI, SW.den, SV.den, Cell.den, densP, Piece.den, denV, denT])) ?_
      refine ev_fits ((Y : Int) + 1) (by simp [BTm.den, Tm.i, Tm.s, Tm.den, env, vInt, vBool, vStr, exI]) (rng_i64 _ (by omega)) ?_
      refine ev_turn [.bool true] rfl rfl (fun β _ => Reads.ev gk (by simp [BTm.den, Tm.i, Tm.s, Tm.den, env, vInt, vBool, vStr, exI, SW.den, SV.den, Cell.den, densP, Piece.den, denV, denT]) (by simp [BTm.den, Tm.i, Tm.s, Tm.den, env, vInt, vBool, vStr, exI, SW.den, SV.den, Cell.den, densP, Piece.den, denV, denT])) ?_
      refine ev_nil ⟨by simp [tiInvC_asm, BTm.den, Tm.i, Tm.s, Tm.den, env, vInt, vBool, vStr, exI]; omega, fun β => ?_⟩
      simp [tiInvC_out, BTm.den, Tm.i, Tm.s, Tm.den, env, vInt, vBool, vStr, exI, SW.den, SV.den, Cell.den, densP, Piece.den, denV, denT, bs_toList, ← hS, ls]
    have h := reads_flat plain [Lv] tiInvC_ok tiInvC_nx (by kernel_rfl) _ main w hro
    simpa [BTm.den, Tm.i, Tm.s, Tm.den, env, vInt, vBool, vStr, exI, SW.den, SV.den, Cell.den, densP, Piece.den, denV, denT, denT, hL] using h
end Go.Proofs.YteemnnajfiimlaaDoor
