/- The laws over texts that are spoilt: DateReads. -/
import Derived.Test.YteemnnajfiimlaaDoorJl
import Derived.Test.YteemnnajfiimlaaDoorJo
import Derived.Test.YteemnnajfiimlaaDoorJq
namespace Go.Proofs.YteemnnajfiimlaaDoor
open Go.RowKit Go.Proofs.YteemnnajfiimlaaDoor.Sx
set_option linter.unusedSimpArgs false
set_option linter.unusedVariables false

def bC (l : List UInt8) : List Value := l.map fun b => .int .u8 ((b.toNat : Nat) : Int)
theorem byteCells_bs (l : List UInt8) : byteCells (bs l) = bC l := rfl
theorem fix_byte (b : UInt8) : fix (.int .u8 ((b.toNat : Nat) : Int)) = .int .u8 ((b.toNat : Nat) : Int) := rfl
theorem bC_fix (l : List UInt8) : (bC l).map fix = bC l := by
  unfold bC
  rw [List.map_map]
  exact List.map_congr_left fun b _ => fix_byte b
theorem all_bytes (l : List UInt8) : (Value.agg (bC l).toArray).cells.toList.map fix = bC l := bC_fix l
theorem bC_length (l : List UInt8) : (bC l).length = l.length := List.length_map ..
theorem bC_set {l : List UInt8} {i : Nat} (h : i < l.length) (c : UInt8) : bC (l.set i c) = (bC l).take i ++ [.int .u8 ((c.toNat : Nat) : Int)] ++ (bC l).drop (i + 1) := by
  rw [List.set_eq_take_append_cons_drop, if_pos h]
  simp [bC, List.map_take, List.map_drop]
theorem one_byte {z : ByteArray} (h : z ∈ ([⟨#[48]⟩, ⟨#[57]⟩, ⟨#[45]⟩, ⟨#[51]⟩, ⟨#[32]⟩, ⟨#[97]⟩] : List ByteArray)) : ∃ c, z = bs [c] := by
  simp only [List.mem_cons, List.not_mem_nil, or_false] at h
  rcases h with rfl | rfl | rfl | rfl | rfl | rfl <;> exact ⟨_, rfl⟩
set_option maxHeartbeats 4000000 in
theorem reads_any [Outer] (hT : HasTab) (Lv : Value) (hL : fix Lv = Lv) (hs : Slc Outer.r Lv) (w : World) (hro : ∀ x ∈ Outer.r, w.heap[x.1]? = some x.2) :
    Calls Tryd.prog 6 #[Lv] w fun e w' => e = .returned (.bool true) ∧ Below w.heap.size w w' := by
  obtain ⟨tv, ht⟩ := slc_tape hs
  obtain ⟨n, k1, hn, ha, hb, g1⟩ := day_given Lv hL tv ht 0 (by omega)
  obtain ⟨y, m, d, hc⟩ := civil_of hn.1 hn.2
  have g2 := format_d hc
  obtain ⟨l, hl, el⟩ : ∃ l : List UInt8, l.length = 10 ∧ textR y m d = .tuple #[.string (bs l), .int .i64 0] := ⟨_, by simp [textL, dd], rfl⟩
  rw [el] at g2
  have hz := bs_size l
  rw [hl] at hz
  obtain ⟨i, hi, g3⟩ := ht.next1 k1 10 (by omega) (by omega)
  obtain ⟨z, hz1, g4⟩ := ht.one1 [⟨#[48]⟩, ⟨#[57]⟩, ⟨#[45]⟩, ⟨#[51]⟩, ⟨#[32]⟩, ⟨#[97]⟩] 6 rfl (by omega) (k1 + 1) (by omega)
  obtain ⟨c, rfl⟩ := one_byte hz1
  obtain ⟨j, rfl⟩ : ∃ j : Nat, i = ((j : Nat) : Int) := ⟨i.toNat, by omega⟩
  have hj : j < l.length := by omega
  obtain ⟨l', hl'⟩ : ∃ l', l' = l.set j c := ⟨_, rfl⟩
  have hn' : l'.length = 10 := by rw [hl', List.length_set, hl]
  have hz' := bs_size l'
  rw [hn'] at hz'
  obtain ⟨u, hu, g5⟩ := ht.one1 [bs l', (bs l).extract 0 9, bs l ++ ⟨#[48]⟩, (bs l).extract 0 5 ++ (bs l).extract 6 (bs l).size] 4 rfl (by omega) (k1 + 1 + 1) (by omega)
  have hus : u.size ≤ 9223372036854775807 := by
    simp only [List.mem_cons, List.not_mem_nil, or_false] at hu
    have e48 : (⟨#[48]⟩ : ByteArray) = bs [48] := rfl
    rcases hu with rfl | rfl | rfl | rfl <;> (try simp only [e48]) <;> simp only [bs_sub, bs_cat, bs_size, List.length_append, List.length_take, List.length_drop, List.length_cons, List.length_nil] <;> omega
  obtain ⟨p, hp, g6⟩ := ht.pick1 [-1, 73048, 73049, 0] 4 rfl (by omega) (k1 + 1 + 1 + 1) (by omega)
  have e1 := texts_reads hT u p hus
  have e2 := texts_reads hT (bs l') 5 (by omega)
  have gk := known_reads hT
  have main : evDen Tryd.prog (fun ρ' => (∀ x ∈ tqReads_asm, x.1.den (env ρ') = x.2) ∧ ∀ β, tqReads_out.val.den (env ρ') β = .bool true) tqReads_evs [Lv] := by
    unfold tqReads_evs
    refine ev_turn [.int .i64 n, .int .i64 ((k1 : Nat) : Int)] rfl rfl (fun β _ => Given.turns (fun b => #[.pointer (some ⟨b, 0, none⟩)]) (g1) (fun β => by simp [BTm.den, Tm.i, Tm.s, Tm.den, env, vInt, vBool, vStr, exI, SW.den, SV.den, Cell.den, densP, Piece.den, denV, denT, hL]) (fun β => by simp [BTm.den, Tm.i, Tm.s, Tm.den, env, vInt, vBool, vStr, exI, SW.den, SV.den, Cell.den, densP, Piece.den, denV, denT, hL]) (fun β => by simp [BTm.den, Tm.i, Tm.s, Tm.den, env, vInt, vBool, vStr, exI, SW.den, SV.den, Cell.den, densP, Piece.den, denV, denT, hL]) (fun β => by simp [BTm.den, Tm.i, Tm.s, Tm.den, env, vInt, vBool, vStr, exI, SW.den, SV.den, Cell.den, densP, Piece.den, denV, denT, hL]) β) ?_
    refine ev_call [.string (bs l), .int .i64 0] rfl rfl (pure_gives g2) (fun β => by simp [BTm.den, Tm.i, Tm.s, Tm.den, env, vInt, vBool, vStr, exI, SW.den, SV.den, Cell.den, densP, Piece.den, denV, denT]) (fun β => by simp [BTm.den, Tm.i, Tm.s, Tm.den, env, vInt, vBool, vStr, exI, SW.den, SV.den, Cell.den, densP, Piece.den, denV, denT]) ?_
    refine ev_turn [.int .i64 (((j : Nat) : Int)), .int .i64 (((k1 + 1 : Nat) : Int))] rfl rfl (fun β _ => Given.turns (fun b => #[.pointer (some ⟨b, 0, none⟩), .int .i64 (10)]) (g3) (fun β => by simp [BTm.den, Tm.i, Tm.s, Tm.den, env, vInt, vBool, vStr, exI, SW.den, SV.den, Cell.den, densP, Piece.den, denV, hL]) (fun β => by simp [BTm.den, Tm.i, Tm.s, Tm.den, env, vInt, vBool, vStr, exI, SW.den, SV.den, Cell.den, densP, Piece.den, denV, hL]) (fun β => by simp [BTm.den, Tm.i, Tm.s, Tm.den, env, vInt, vBool, vStr, exI, SW.den, SV.den, Cell.den, densP, Piece.den, denV, hL]) (fun β => by simp [BTm.den, Tm.i, Tm.s, Tm.den, env, vInt, vBool, vStr, exI, SW.den, SV.den, Cell.den, densP, Piece.den, denV, hL]) β) ?_
    refine ev_turn [.string (bs [c]), .int .i64 ((k1 + 1 + 1 : Nat) : Int)] rfl rfl (fun β hβ => Given.turns2 (fun b g => #[.pointer (some ⟨b, 0, none⟩), .slice (some ⟨g, 0, none⟩) 6 6]) [.string ⟨#[48]⟩, .string ⟨#[57]⟩, .string ⟨#[45]⟩, .string ⟨#[51]⟩, .string ⟨#[32]⟩, .string ⟨#[97]⟩] (by decide) (fun b g => g4 b g 6 9) (fun β => by simp [BTm.den, Tm.i, Tm.s, Tm.den, env, vInt, vBool, vStr, exI, SW.den, SV.den, Cell.den, densP, Piece.den, denV, denT, hL]) (fun β => by simp [BTm.den, Tm.i, Tm.s, Tm.den, env, vInt, vBool, vStr, exI, SW.den, SV.den, Cell.den, densP, Piece.den, denV, denT, hL]) (fun β => by simp [BTm.den, Tm.i, Tm.s, Tm.den, env, vInt, vBool, vStr, exI, SW.den, SV.den, Cell.den, densP, Piece.den, denV, denT, hL]) (fun β => by simp [BTm.den, Tm.i, Tm.s, Tm.den, env, vInt, vBool, vStr, exI, SW.den, SV.den, Cell.den, densP, Piece.den, denV, denT, hL]) (fun β => by simp [BTm.den, Tm.i, Tm.s, Tm.den, env, vInt, vBool, vStr, exI, SW.den, SV.den, Cell.den, densP, Piece.den, denV, denT, hL]) β hβ) ?_
    refine ev_need (by simp [BTm.den, Tm.i, Tm.s, Tm.den, env, vInt, vBool, vStr, exI]) ?_
    refine ev_need (by simp [BTm.den, Tm.i, Tm.s, Tm.den, env, vInt, vBool, vStr, exI, bs_size]) ?_
    refine ev_need (by simp [BTm.den, Tm.i, Tm.s, Tm.den, env, vInt, vBool, vStr, exI]) ?_
    refine ev_need (by simp [BTm.den, Tm.i, Tm.s, Tm.den, env, vInt, vBool, vStr, exI, hz]; omega) ?_
    refine ev_put [.agg (bC l').toArray] rfl rfl (l := bC l) (l' := bC l') (m := [.int .u8 ((c.toNat : Nat) : Int)]) (k := j) (by simp [BTm.den, Tm.i, Tm.s, Tm.den, env, vInt, vBool, vStr, exI]) (fun β => by simp only [Piece.den, BTm.den, Tm.i, Tm.s, Tm.den, env, vInt, vBool, vStr, exI]; exact byteCells_bs l) (fun β => all_bytes l') (fun β => by simp [BTm.den, Tm.i, Tm.s, Tm.den, env, vInt, vBool, vStr, exI, SW.den, SV.den, Cell.den, densP, Piece.den, denV, denT, byteI, bs]) (by rw [hl']; exact bC_set hj c) (by rw [bC_length]; simp; omega) ?_
    refine ev_join [.string (bs l')] rfl rfl (fun β => ?_) (fun β => ?_) ?_
    · show byteCells (bs l') ++ [] = (((Value.agg (bC l').toArray).cells.toList.map fix) ++ []) ++ []
      rw [all_bytes, List.append_nil, List.append_nil, List.append_nil, byteCells_bs]
    · intro x hx
      cases List.mem_singleton.1 hx
      refine ⟨10, by simp [BTm.den, Tm.i, Tm.s, Tm.den, env, vInt, vBool, vStr, exI, hz], ?_⟩
      show (((Value.agg (bC l').toArray).cells.toList.map fix) ++ []).length = 10 * 1
      rw [all_bytes, List.append_nil, bC_length, hn']
    refine ev_need (by simp [BTm.den, Tm.i, Tm.s, Tm.den, env, vInt, vBool, vStr, exI]) ?_
    refine ev_need (by simp [BTm.den, Tm.i, Tm.s, Tm.den, env, vInt, vBool, vStr, exI, hz]) ?_
    refine ev_fits 11 (by simp [BTm.den, Tm.i, Tm.s, Tm.den, env, vInt, vBool, vStr, exI, hz]; rfl) (rng_i64 _ (by omega)) ?_
    refine ev_need (by simp [BTm.den, Tm.i, Tm.s, Tm.den, env, vInt, vBool, vStr, exI]) ?_
    refine ev_need (by simp [BTm.den, Tm.i, Tm.s, Tm.den, env, vInt, vBool, vStr, exI, hz]) ?_
    refine ev_need (by simp [BTm.den, Tm.i, Tm.s, Tm.den, env, vInt, vBool, vStr, exI]) ?_
    refine ev_need (by simp [BTm.den, Tm.i, Tm.s, Tm.den, env, vInt, vBool, vStr, exI, hz]) ?_
    refine ev_fits 9 (by simp [BTm.den, Tm.i, Tm.s, Tm.den, env, vInt, vBool, vStr, exI, hz]) (rng_i64 _ (by omega)) ?_
    refine ev_turn [.string u, .int .i64 ((k1 + 1 + 1 + 1 : Nat) : Int)] rfl rfl (fun β hβ => Given.turns2 (fun b g => #[.pointer (some ⟨b, 0, none⟩), .slice (some ⟨g, 0, none⟩) 4 4]) [.string (bs l'), .string ((bs l).extract 0 9), .string (bs l ++ ⟨#[48]⟩), .string ((bs l).extract 0 5 ++ (bs l).extract 6 (bs l).size)] (by decide) (fun b g => g5 b g 4 9) (fun β => by simp [BTm.den, Tm.i, Tm.s, Tm.den, env, vInt, vBool, vStr, exI, SW.den, SV.den, Cell.den, densP, Piece.den, denV, denT, hL]) (fun β => by simp [BTm.den, Tm.i, Tm.s, Tm.den, env, vInt, vBool, vStr, exI, SW.den, SV.den, Cell.den, densP, Piece.den, denV, denT, hL]) (fun β => by simp [BTm.den, Tm.i, Tm.s, Tm.den, env, vInt, vBool, vStr, exI, SW.den, SV.den, Cell.den, densP, Piece.den, denV, denT, hL]) (fun β => by simp [BTm.den, Tm.i, Tm.s, Tm.den, env, vInt, vBool, vStr, exI, SW.den, SV.den, Cell.den, densP, Piece.den, denV, denT, hL]) (fun β => by simp [BTm.den, Tm.i, Tm.s, Tm.den, env, vInt, vBool, vStr, exI, SW.den, SV.den, Cell.den, densP, Piece.den, denV, denT, hL]) β hβ) ?_
    refine ev_turn [.int .i64 (p), .int .i64 (((k1 + 1 + 1 + 1 + 1 : Nat) : Int))] rfl rfl (fun β hβ => Given.turns2 (fun b g => #[.pointer (some ⟨b, 0, none⟩), .slice (some ⟨g, 0, none⟩) 4 4]) [.int .i64 (-1), .int .i64 73048, .int .i64 73049, .int .i64 0] (by decide) (fun b g => g6 b g 4 3) (fun β => by simp [BTm.den, Tm.i, Tm.s, Tm.den, env, vInt, vBool, vStr, exI, SW.den, SV.den, Cell.den, densP, Piece.den, denV, hL]) (fun β => by simp [BTm.den, Tm.i, Tm.s, Tm.den, env, vInt, vBool, vStr, exI, SW.den, SV.den, Cell.den, densP, Piece.den, denV, hL]) (fun β => by simp [BTm.den, Tm.i, Tm.s, Tm.den, env, vInt, vBool, vStr, exI, SW.den, SV.den, Cell.den, densP, Piece.den, denV, hL]) (fun β => by simp [BTm.den, Tm.i, Tm.s, Tm.den, env, vInt, vBool, vStr, exI, SW.den, SV.den, Cell.den, densP, Piece.den, denV, hL]) (fun β => by simp [BTm.den, Tm.i, Tm.s, Tm.den, env, vInt, vBool, vStr, exI, SW.den, SV.den, Cell.den, densP, Piece.den, denV, hL]) β hβ) ?_
    refine ev_turn [.bool true] rfl rfl (fun β _ => Reads.ev e1 (by simp [BTm.den, Tm.i, Tm.s, Tm.den, env, vInt, vBool, vStr, exI, SW.den, SV.den, Cell.den, densP, Piece.den, denV, denT]) (by simp [BTm.den, Tm.i, Tm.s, Tm.den, env, vInt, vBool, vStr, exI, SW.den, SV.den, Cell.den, densP, Piece.den, denV, denT])) ?_
    refine ev_join [.string (bs l')] rfl rfl (fun β => ?_) (fun β => ?_) ?_
    · show byteCells (bs l') ++ [] = (((Value.agg (bC l').toArray).cells.toList.map fix) ++ []) ++ []
      rw [all_bytes, List.append_nil, List.append_nil, List.append_nil, byteCells_bs]
    · intro x hx
      cases List.mem_singleton.1 hx
      refine ⟨10, by simp [BTm.den, Tm.i, Tm.s, Tm.den, env, vInt, vBool, vStr, exI, hz], ?_⟩
      show (((Value.agg (bC l').toArray).cells.toList.map fix) ++ []).length = 10 * 1
      rw [all_bytes, List.append_nil, bC_length, hn']
    refine ev_turn [.bool true] rfl rfl (fun β _ => Reads.ev e2 (by simp [BTm.den, Tm.i, Tm.s, Tm.den, env, vInt, vBool, vStr, exI, SW.den, SV.den, Cell.den, densP, Piece.den, denV, denT]) (by simp [BTm.den, Tm.i, Tm.s, Tm.den, env, vInt, vBool, vStr, exI, SW.den, SV.den, Cell.den, densP, Piece.den, denV, denT])) ?_
    refine ev_turn [.bool true] rfl rfl (fun β _ => Reads.ev gk (by simp [BTm.den, Tm.i, Tm.s, Tm.den, env, vInt, vBool, vStr, exI, SW.den, SV.den, Cell.den, densP, Piece.den, denV, denT]) (by simp [BTm.den, Tm.i, Tm.s, Tm.den, env, vInt, vBool, vStr, exI, SW.den, SV.den, Cell.den, densP, Piece.den, denV, denT])) ?_
    refine ev_nil ⟨by simp [tqReads_asm, BTm.den, Tm.i, Tm.s, Tm.den, env, vInt, vBool, vStr, exI], fun β => ?_⟩
    simp [tqReads_out, BTm.den, Tm.i, Tm.s, Tm.den, env, vInt, vBool, vStr, exI, SW.den, SV.den, Cell.den, densP, Piece.den, denV, denT]
  have h := reads_flat plain [Lv] tqReads_ok tqReads_nx (by kernel_rfl) _ main w hro
  simpa [BTm.den, Tm.i, Tm.s, Tm.den, env, vInt, vBool, vStr, exI, SW.den, SV.den, Cell.den, densP, Piece.den, denV, denT, denT, hL] using h
end Go.Proofs.YteemnnajfiimlaaDoor
