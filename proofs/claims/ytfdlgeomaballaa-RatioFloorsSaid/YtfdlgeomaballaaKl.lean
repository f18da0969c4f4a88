/- The walk of divideByLimbs. -/
import Derived.Test.YtfdlgeomaballaaKd
namespace Go.Proofs.Ytfdlgeomaballaa
open Go.RowKit
set_option linter.unusedVariables false

set_option maxHeartbeats 400000 in
theorem leading_any (x s : Nat) (hx : x < 4294967296) (hs : s + bl x = 32) : Gives Try.prog 129 #[.int .u32 ((x : Nat) : Int)] (.int .i64 ((s : Nat) : Int)) := by
  intro w
  have hS := St.start w
  have G := len32_any x hx
  have e : (32 : Int) - ((bl x : Nat) : Int) = ((s : Nat) : Int) := by omega
  have hb : bl x ≤ 32 := by omega
  generalize bl x = y at *
  go_enter Try.func129, Try.ntmps129
  go_wp2_with (first | (go_at_call 125; (with_reducible refine Gives.use (G) hS ?_); clear hS; intro _ hS))
  go_ret
  exact ⟨rfl, hS.below⟩

theorem estimate_any (bl bs j n n1 n2 nw capw caps L D W q : Nat) (hn1 : n1 + 1 = n) (hn2 : n2 + 1 = n1) (hnw : n + 1 = nw) (hin : j + n + 1 ≤ 33) (hnb : n ≤ 32) (hD : D < pw n) (hf : 2147483648 ≤ D / pw n1) (hL : L < D * pw (j + 1)) (hW : L / pw j = W) (hq : W / D = q)
    (w : World) (hbl : w.heap[bl]? = some (.cells (mgk 33 L) 127)) (hbs : w.heap[bs]? = some (.cells (mgk 33 D) 127)) :
    Calls Try.prog 131 #[.slice (some ⟨bl, j, none⟩) nw capw, .slice (some ⟨bs, 0, none⟩) n caps] w fun e w' => (∃ g : Nat, e = .returned (.int .u32 ((g : Nat) : Int)) ∧ q ≤ g ∧ g ≤ q + 1 ∧ g ≤ 4294967295) ∧ Below w.heap.size w w' := by
  obtain ⟨h1, h2, h3, h4, h5, h6⟩ := est_facts hn1 hn2 hD hf hL hW hq
  have k1 := limb_lt D n1
  have k2 := limb_lt D n2
  have k3 := limb_lt L (j + n)
  have k4 := limb_lt L (j + n1)
  have k5 := limb_lt L (j + n2)
  rw [← h3] at hf
  refine (estimate_core bl bs j n n1 n2 nw capw caps L D _ _ _ _ _ q _ (by omega) (by omega) hnw hin (by omega) rfl rfl rfl rfl rfl (by omega) (by omega) (by omega) (by omega) (by omega) rfl h4 h5 h2 w hbl hbs).mono ?_
  intro e w' ⟨⟨g, he, g1, g2, g3⟩, hb⟩
  exact ⟨⟨g, he, g1, h6 g g2 g3, g2⟩, hb⟩

set_option maxRecDepth 100000 in
set_option maxHeartbeats 8000000 in
theorem limbs_core (A0 B0 n n1 n2 s p A D la top : Nat) (hn1 : n1 + 1 = n) (hn2 : n2 + 1 = n1) (hnb : n ≤ 32) (hA0 : A0 < pw 32) (hB0 : B0 < pw 32) (hs : s < 32) (hA : A0 * 2 ^ s = A) (hD : B0 * 2 ^ s = D)
    (htop : limb B0 n1 = top) (hlz : s + bl top = 32) (hla : nl A0 = la) (hnla : n ≤ la) (hla2 : la ≤ 32) (hDn : D < pw n) (hDf : 2147483648 ≤ D / pw n1) (hAD : A < D * pw (la - n + 1)) :
    Gives Try.prog 119 #[.agg (mgk 32 A0), .agg (mgk 32 B0), .int .i64 ((n : Nat) : Int)] (.tuple #[.agg (mgk 32 (A0 / B0)), .agg (mgk 32 (A0 % B0))]) := by
  intro w
  have hS := St.start w
  have GA := shiftLeft_any A0 s hA0 hs
  have GB := shiftLeft_any B0 s hB0 hs
  rw [hA] at GA
  rw [hD] at GB
  have htopb : top < 4294967296 := by rw [← htop]; exact limb_lt _ _
  have GL := leading_any top s htopb hlz
  have GC := limbCount_any A0
  rw [hla] at GC
  have HTOP : Hid ((mgk 32 B0)[n1]? = some (.int .u32 ((top : Nat) : Int))) := by show _ = _; rw [mgk_get' (by omega), htop]
  have HDn := Lib.hid hDn
  have HDf := Lib.hid hDf
  have HAD := Lib.hid hAD
  have HD0 : Hid (0 < D) := by
    refine Nat.pos_of_ne_zero fun e => ?_
    rw [e, Nat.zero_div] at hDf; omega
  have HFIN : Hid (∀ Q L, A = Q * D + L → L < D → Q = A0 / B0 ∧ L / 2 ^ s = A0 % B0 ∧ L / 2 ^ s < pw 32) := by
    intro Q L h1 h2
    have hp : 0 < 2 ^ s := Nat.pow_pos (by omega)
    have hB : 0 < B0 := by
      refine Nat.pos_of_ne_zero fun e => ?_
      rw [← hD, e, Nat.zero_mul] at h2; omega
    have e1 : Q = A / D := by
      rw [h1, Nat.mul_comm, Nat.mul_add_div (by omega), Nat.div_eq_of_lt h2]; omega
    have e2 : L = A % D := by
      rw [h1, Nat.mul_comm, Nat.mul_add_mod, Nat.mod_eq_of_lt h2]
    have e3 : A / D = A0 / B0 := by rw [← hA, ← hD, Nat.mul_div_mul_right _ _ hp]
    have e4 : A % D = A0 % B0 * 2 ^ s := by rw [← hA, ← hD, Nat.mul_mod_mul_right]
    have e5 : L / 2 ^ s = A0 % B0 := by rw [e2, e4, Nat.mul_div_cancel _ hp]
    refine ⟨by rw [e1, e3], e5, ?_⟩
    rw [e5]
    exact Nat.lt_of_le_of_lt (Nat.mod_le _ _) hA0
  have c1 : ((n : Nat) : Int) - 1 = ((n1 : Nat) : Int) := by omega
  have c2 : ((n1 : Nat) : Int) < 32 := by omega
  have c3 : ((n : Nat) : Int) ≤ 33 := by omega
  have c4 : (0 : Int) ≤ ((n : Nat) : Int) := by omega
  clear hA hD hDn hDf hAD hA0 hB0 hlz hla htop
  go_enter Try.func119, Try.ntmps119
  go_wp2_with (first | (refine L_box_agg (o := ⟨some 3, _, _, _, _, _⟩) hS rfl rfl ?_; refine ⟨_, rfl, ?_⟩; clear hS; intro b3 _ hS) | (refine L_box_agg (o := ⟨some 4, _, _, _, _, _⟩) hS rfl rfl ?_; refine ⟨_, rfl, ?_⟩; clear hS; intro b4 _ hS) | (refine L_alloc_agg (o := ⟨some 6, _, _, _, _, _⟩) hS rfl rfl ?_; refine ⟨_, zero75, ?_⟩; clear hS; intro b6 _ hS) | (refine L_alloc_agg (o := ⟨some 7, _, _, _, _, _⟩) hS rfl rfl ?_; refine ⟨_, zero75, ?_⟩; clear hS; intro b7 _ hS) | ((with_reducible refine L_slot 18 ?_); (refine L_load (t := 22) rfl rfl ?_; refine ⟨_, run_load_cell hS _ _ rfl _ _ rfl _ _ (.inl (.tail _ (.tail _ (.head _)))) _ Try.underlying22 rfl _ (HTOP.out), ?_⟩)) | (go_at_call 129; (with_reducible refine Gives.use (GL) hS ?_); clear hS; intro _ hS))
  (try simp only [Act.put]); (try simp only [List.setIfInBounds_toArray, List.set_cons_succ, List.set_cons_zero]); refine wp_region_2newa (hd := [_, _, _, _, _, _]) 127 127 (mgk 33 0) (mgk 33 0) (mgk 33 A) (mgk 33 D) hS (by kernel_rfl) (by kernel_rfl) (by kernel_rfl) ⟨_, _, _, rfl⟩ ⟨_, _, _, rfl⟩ ?_
  (refine wpHa_cons ?_; apply Exists.intro; apply And.intro; (focus (apply Ha_run; exact rfl; intro _ hS'; exact run_load_row hS' 75 _ rfl _ rfl _ _ (.inl (.tail _ (.tail _ (.tail _ (.head _))))) _ Try.underlying75 rfl (size75_mg _))); simp only [Act.put, List.setIfInBounds_toArray, List.set_cons_succ, List.set_cons_zero])
  (refine wpHa_cons ?_; apply Exists.intro; apply And.intro; (focus (apply Ha_run; exact rfl; intro _ _; go_simp; (try go_bits); exact rfl)); simp only [Act.put, List.setIfInBounds_toArray, List.set_cons_succ, List.set_cons_zero])
  (refine wpHa_cons ?_; apply Exists.intro; apply And.intro; (focus (refine Ha_call 130 _ rfl (fun _ => ?_) (GA); go_simp; done)); simp only [Act.put, List.setIfInBounds_toArray, List.set_cons_succ, List.set_cons_zero])
  (refine wpHa_cons ?_; apply Exists.intro; apply And.intro; (focus (apply Ha_run; exact rfl; intro _ hS'; exact run_load_row hS' 75 _ rfl _ rfl _ _ (.inl (.tail _ (.tail _ (.head _)))) _ Try.underlying75 rfl (size75_mg _))); simp only [Act.put, List.setIfInBounds_toArray, List.set_cons_succ, List.set_cons_zero])
  (refine wpHa_cons ?_; apply Exists.intro; apply And.intro; (focus (apply Ha_run; exact rfl; intro _ _; go_simp; (try go_bits); exact rfl)); simp only [Act.put, List.setIfInBounds_toArray, List.set_cons_succ, List.set_cons_zero])
  (refine wpHa_cons ?_; apply Exists.intro; apply And.intro; (focus (refine Ha_call 130 _ rfl (fun _ => ?_) (GB); go_simp; done)); simp only [Act.put, List.setIfInBounds_toArray, List.set_cons_succ, List.set_cons_zero])
  refine ⟨rfl, rfl, rfl, rfl, rfl, rfl, zero127, zero127, fun _ _ => rfl, fun _ _ _ hS' => run_store_row hS' 127 _ _ rfl _ rfl _ _ rfl _ (.tail .head) (size127_mg _) (mg_sizes _ _ _) (oneCells _ _), fun _ _ _ hS' => run_store_row hS' 127 _ _ rfl _ rfl _ _ rfl _ .head (size127_mg _) (mg_sizes _ _ _) (oneCells _ _), ?_⟩; clear hS
  intro b9 b10 w1 hS
  simp only [Act.put, List.setIfInBounds_toArray, List.set_cons_succ, List.set_cons_zero]
  go_wp2_with (first | ((with_reducible refine L_slot 28 ?_); (refine L_load (t := 75) rfl rfl ?_; refine ⟨_, run_load_row hS _ _ rfl _ rfl _ _ (.inl (.tail _ (.tail _ (.tail _ (.tail _ (.tail _ (.head _))))))) _ Try.underlying75 rfl (size75_mg _), ?_⟩)) | (go_at_call 118; (with_reducible refine Gives.use (GC) hS ?_); clear hS; intro _ hS))
  go_loopw [12] (fun iv wr => ∃ k Q L : Nat, k + n ≤ 33 ∧ iv = .int .i64 ((k : Int) - 1) ∧ Hid (A = Q * D + L) ∧ Hid (L < D * pw k) ∧ Hid (Q % pw k = 0 ∧ Q < pw 32) ∧ St none w wr [] [(b10, .cells (mgk 33 D) 127), (b9, .cells (mgk 33 L) 127), (b7, .cells (mgk 32 0) 75), (b6, .cells (mgk 32 Q) 75), (b4, .cells (mgk 32 B0) 75), (b3, .cells (mgk 32 A0) 75)]) (fun iv _ => (intOf iv + 1).toNat)
  case atStart =>
    have e0 : ((la : Nat) : Int) - ((n : Nat) : Int) = ((la - n + 1 : Nat) : Int) - 1 := by omega
    have e1 : Hid (A = 0 * D + A) := by show A = 0 * D + A; rw [Nat.zero_mul, Nat.zero_add]
    have e2 : Hid (0 % pw (la - n + 1) = 0 ∧ 0 < pw 32) := ⟨Nat.zero_mod _, pw_pos 32⟩
    have e3 : la - n + 1 + n ≤ 33 := by omega
    exact ⟨la - n + 1, 0, A, e3, congrArg (Value.int .i64) e0, e1, HAD, e2, hS⟩
  case round =>
    clear hS
    obtain ⟨k, Q, L, hk, rfl, HA, HL, HQ, hS⟩ := hrel
    rcases k with _ | j
    · have HF := HFIN.out Q L HA.out (by have := HL.out; rwa [pw_zero, Nat.mul_one] at this)
      obtain ⟨f1, f2, f3⟩ := HF
      have GR := shiftRight_any L s f3 hs
      rw [f2] at GR
      have HF1 := Lib.hid f1
      clear f1 f2 f3
      go_wp2_with (fail)
      (try simp only [Act.put]); (try simp only [List.setIfInBounds_toArray, List.set_cons_succ, List.set_cons_zero]); refine wp_region_u2 hS 4 5 [] (.tail (.tail (.tail (.head (o' := .cells (mgk 32 Q) 75))))) (.tail (.tail (.head (o' := .cells (mgk 32 (A0 % B0)) 75)))) (by kernel_rfl) (by kernel_rfl) ?_
      (refine S_load (t := 75) rfl rfl rfl rfl ?_; refine ⟨_, fun _ hS' => run_load_row hS' _ _ rfl _ rfl _ _ (.inl (.tail _ (.tail _ (.tail _ (.head _))))) _ Try.underlying75 rfl (size75_mg _), ?_⟩; simp only [Act.put, List.setIfInBounds_toArray, List.set_cons_succ, List.set_cons_zero])
      (refine S_load (t := 127) rfl rfl rfl rfl ?_; refine ⟨_, fun _ hS' => run_load_row hS' _ _ rfl _ rfl _ _ (.inl (.tail _ (.head _))) _ Try.underlying127 rfl (size127_mg _), ?_⟩; simp only [Act.put, List.setIfInBounds_toArray, List.set_cons_succ, List.set_cons_zero])
      (refine S_run rfl rfl ?_; apply Exists.intro; refine ⟨fun _ => ?_, ?_⟩; (focus (go_simp; (try go_bits); exact rfl)); simp only [Act.put, List.setIfInBounds_toArray, List.set_cons_succ, List.set_cons_zero])
      (refine S_call 134 rfl rfl rfl rfl ?_; apply Exists.intro; refine ⟨fun _ => ?_, ?_⟩; (focus (go_simp; exact rfl)); apply Exists.intro; (with_reducible refine ⟨GR, ?_⟩); simp only [Act.put, List.setIfInBounds_toArray, List.set_cons_succ, List.set_cons_zero])
      (refine S_store (t := 75) rfl rfl rfl ?_; refine ⟨_, _, _, _, (.tail (.tail (.tail .head))), fun _ hS' => run_store_row hS' _ _ _ rfl _ rfl _ _ rfl _ (.tail (.tail (.tail .head))) (size75_mg _) (mg_sizes _ _ _) (oneCells _ _), ?_⟩; simp only [Act.put])
      (refine S_store (t := 75) rfl rfl rfl ?_; refine ⟨_, _, _, _, (.tail (.tail .head)), fun _ hS' => run_store_row hS' _ _ _ rfl _ rfl _ _ rfl _ (.tail (.tail .head)) (size75_mg _) (mg_sizes _ _ _) (oneCells _ _), ?_⟩; simp only [Act.put])
      refine S_end2 ?_; clear hS; intro _ hS
      go_wp2_with (fail)
      (try simp only [Exit.inBlock, Exit.then]); refine bodyPost_ret (res_cell_cell rfl _ _ _ _ _ (run_loadRow hS _ _ _ _ (.inl (.tail _ (.tail _ (.tail _ (.head _))))) _ Try.underlying75 rfl (size75_mg _)) (run_loadRow hS _ _ _ _ (.inl (.tail _ (.tail _ (.head _)))) _ Try.underlying75 rfl (size75_mg _)) rfl rfl) rfl ⟨?_, hS.below⟩
      rw [← HF1.out]
    · obtain ⟨W, hW⟩ : ∃ W, L / pw j = W := ⟨_, rfl⟩
      obtain ⟨x, hx⟩ : ∃ x, L % pw j = x := ⟨_, rfl⟩
      obtain ⟨q, hq⟩ : ∃ q, W / D = q := ⟨_, rfl⟩
      have HE := Lib.hid (est_facts hn1 hn2 HDn.out HDf.out HL.out hW hq)
      have HN := Lib.hid (step_next HA.out hx hW hq HD0.out)
      have HP := Lib.hid (put_zero (q := q) HQ.out.1)
      have HX : Hid (x < pw j) := by show x < pw j; rw [← hx]; exact Nat.mod_lt _ (pw_pos j)
      have HLx : Hid (L = x + W * pw j) := by
        show L = x + W * pw j
        have := Nat.div_add_mod L (pw j)
        rw [hW, hx, Nat.mul_comm] at this; omega
      have HW := Lib.hid hW
      have Hq := Lib.hid hq
      have hqb : q ≤ 4294967295 := HE.out.2.1
      have HQ2 : Hid ((Q + q * pw j) % pw j = 0 ∧ Q + q * pw j < pw 32) := ⟨HP.out.2, by rw [← HP.out.1]; exact put_lt HQ.out.2 (by omega) (by omega)⟩
      have HQS : Hid ((mgk 32 Q).setIfInBounds j (.int .u32 ((q : Nat) : Int)) = mgk 32 (Q + q * pw j)) := by
        show _ = _
        rw [mgk_put' Q q rfl (by omega), HP.out.1]
      clear hW hx hq
      have ej : ((j + 1 : Nat) : Int) - 1 = (j : Int) := by omega
      rw [ej]
      clear ej
      obtain ⟨mm, hmm⟩ : ∃ mm, j + n + 1 = mm := ⟨_, rfl⟩
      have d1 : ((j : Nat) : Int) + ((n : Nat) : Int) + 1 = ((mm : Nat) : Int) := by omega
      have d2 : ((j : Nat) : Int) ≤ ((mm : Nat) : Int) := by omega
      have d3 : ((mm : Nat) : Int) ≤ 33 := by omega
      obtain ⟨nw, hnw⟩ : ∃ nw, n + 1 = nw := ⟨_, rfl⟩
      have d4 : mm - j = nw := by omega
      have d5 : (((mm : Nat) : Int) - ((j : Nat) : Int)).toNat = nw := by omega
      have dk : j + n + 1 ≤ 33 := by omega
      clear hk hmm
      have dj : j < 32 := by omega
      go_wp2_with (first | (go_at_call 131; fail))
      have hne : b10 ≠ b9 := (List.pairwise_cons.1 hS.apart).1 _ (.head _)
      refine (estimate_any b9 b10 j n n1 n2 nw (33 - j) 33 L D W q hn1 hn2 hnw dk hnb HDn.out HDf.out HL.out HW.out Hq.out _ (hS.get (.inl (.tail _ (.head _)))) (hS.get (.inl (.head _)))).mono ?_
      intro e w2 ⟨⟨g, he, g1, g2, g3⟩, hb⟩
      subst he
      replace hS := hS.later hb
      clear hb
      rw [HLx.out] at hS
      go_wp2_with (first | (go_at_call 132; fail))
      refine (takeOff_core b9 b10 j n nw (33 - j) 33 x W D g hne hnw dk hnb HX.out HE.out.1 HDn.out (by omega) _ (hS.get (.inl (.tail _ (.head _)))) (hS.get (.inl (.head _)))).mono ?_
      intro e w3 ⟨b, rr, he, hr, heq, l2, h2, hm⟩
      subst he
      replace hS := hS.but (.tail .head) h2 hm
      clear h2 hm
      rcases step_digit HD0.out HDn.out HE.out.1 Hq.out g1 g2 hr heq with ⟨rfl, hg, rfl⟩ | ⟨rfl, hg, hrr⟩
      · have hg' := hg.symm
        clear hg
        subst hg'
        clear hr heq g1 g2 g3
        go_wp2_with (first | ((with_reducible refine L_storeAt 56 ?_); refine L_store (t := 22) hS rfl rfl ?_; refine ⟨_, _, mgk 32 (Q + q * pw j), _, _, (.tail (.tail (.tail .head))), run_store_cell hS _ _ _ rfl _ _ rfl _ rfl _ _ _ (.tail (.tail (.tail .head))) size22 rfl rfl ?_ ?_, ?_⟩; (focus (rw [mgk_size]; omega)); (focus (exact HQS.out)); clear hS; intro _ hS))
        go_roundw
        case rel => exact ⟨j, Q + q * pw j, x + W % D * pw j, by omega, rfl, HN.out.1, HN.out.2, HQ2, hS⟩
        case measure => simp [intOf]
      · clear heq g1 g2
        have hgq : ((g : Nat) : Int) - 1 = ((q : Nat) : Int) := by omega
        have hg1 : (1 : Int) ≤ ((g : Nat) : Int) := by omega
        have HR := Lib.hid hr
        have HRR := Lib.hid hrr
        clear hg hr hrr
        go_wp2_with (first | (go_at_call 133; fail))
        refine (putBack_core b9 b10 j n nw (33 - j) 33 x rr D hne hnw dk hnb HX.out HR.out HDn.out _ (hS.get (.inl (.tail _ (.head _)))) (hS.get (.inl (.head _)))).mono ?_
        intro e w4 ⟨he, l2, h2, hm⟩
        subst he
        rw [HRR.out] at hm
        replace hS := hS.but (.tail .head) h2 hm
        clear h2 hm
        go_wp2_with (first | ((with_reducible refine L_storeAt 56 ?_); refine L_store (t := 22) hS rfl rfl ?_; refine ⟨_, _, mgk 32 (Q + q * pw j), _, _, (.tail (.tail (.tail .head))), run_store_cell hS _ _ _ rfl _ _ rfl _ rfl _ _ _ (.tail (.tail (.tail .head))) size22 rfl rfl ?_ ?_, ?_⟩; (focus (rw [mgk_size]; omega)); (focus (exact HQS.out)); clear hS; intro _ hS))
        go_roundw
        case rel => exact ⟨j, Q + q * pw j, x + W % D * pw j, by omega, rfl, HN.out.1, HN.out.2, HQ2, hS⟩
        case measure => simp [intOf]
end Go.Proofs.Ytfdlgeomaballaa
