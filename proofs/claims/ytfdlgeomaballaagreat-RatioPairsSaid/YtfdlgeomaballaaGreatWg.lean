/- The walk of Gcd, out of what divide gives. -/
import Derived.Test.YtfdlgeomaballaaGreatWf
import Derived.Test.YtfdlgeomaballaaGreatNew
import Derived.Deep.LoopGhost
namespace Go.Proofs.YtfdlgeomaballaaGreat
open Go.RowKit
set_option maxRecDepth 10000 in
set_option maxHeartbeats 1000000 in
theorem gcd_of (L : Nat) (s t : Bool) (n m : Nat) (hn : n < pw 32) (hm : m < pw 32) (hL : m < L) (G : ∀ x y, x < pw 32 → y < pw 32 → 0 < y → y < L → DivGives x y) :
    Gives Tryz.prog 39 #[.agg (iv s n), .agg (iv t m)] (.agg (ivZ ((Nat.gcd n m : Nat) : Int))) := by
  intro w
  have hS := St.start w
  have HB : Hid (n < pw 32 ∧ m < pw 32 ∧ m < L) := ⟨hn, hm, hL⟩
  have HG := Lib.hid G
  clear hn hm hL G
  go_enter Tryz.func39, Tryz.ntmps39
  go_wp2_with (first | (refine L_box_agg (o := ⟨some 2, _, _, _, _, _⟩) hS rfl rfl ?_; refine ⟨_, rfl, ?_⟩; clear hS; intro b2 _ hS) | (refine L_box_agg (o := ⟨some 3, _, _, _, _, _⟩) hS rfl rfl ?_; refine ⟨_, rfl, ?_⟩; clear hS; intro b3 _ hS) | (refine L_alloc_agg (o := ⟨some 4, _, _, _, _, _⟩) hS rfl rfl ?_; refine ⟨_, zero29, ?_⟩; clear hS; intro b4 _ hS))
  (try simp only [Act.put]); (try simp only [List.setIfInBounds_toArray, List.set_cons_succ, List.set_cons_zero]); refine wp_region_2new (hd := [_, _, _, _]) 74 74 (mgk 32 0) (mgk 32 0) (mgk 32 n) (mgk 32 m) hS (by kernel_rfl) (by kernel_rfl) (fun _ d _ _ _ h => (by cases d <;> exact h)) (by kernel_rfl) ?_
  (refine wpHd_cons ?_; apply Exists.intro; refine ⟨.inl ⟨rfl, fun _ _ => ?_⟩, ?_⟩; (focus (go_simp; (try go_bits); exact rfl)); simp only [Act.put, List.setIfInBounds_toArray, List.set_cons_succ, List.set_cons_zero])
  (refine wpHd_cons ⟨_, .inl ⟨rfl, fun _ hS' => run_load_mid hS' 27 _ rfl _ _ rfl _ _ (.inl (.tail _ (.tail _ (.head _)))) _ Tryz.underlying27 rfl (mgk 32 _) (size27_mg _) (fun k _ => iv_mag _ _ k)⟩, ?_⟩; simp only [Act.put, List.setIfInBounds_toArray, List.set_cons_succ, List.set_cons_zero])
  (refine wpHd_cons ?_; apply Exists.intro; refine ⟨.inl ⟨rfl, fun _ _ => ?_⟩, ?_⟩; (focus (go_simp; (try go_bits); exact rfl)); simp only [Act.put, List.setIfInBounds_toArray, List.set_cons_succ, List.set_cons_zero])
  (refine wpHd_cons ⟨_, .inl ⟨rfl, fun _ hS' => run_load_mid hS' 27 _ rfl _ _ rfl _ _ (.inl (.tail _ (.head _))) _ Tryz.underlying27 rfl (mgk 32 _) (size27_mg _) (fun k _ => iv_mag _ _ k)⟩, ?_⟩; simp only [Act.put, List.setIfInBounds_toArray, List.set_cons_succ, List.set_cons_zero])
  refine ⟨rfl, rfl, rfl, rfl, rfl, rfl, zero74, zero74, fun _ _ => rfl, fun _ _ _ hS' => run_store_row hS' 74 _ _ rfl _ rfl _ _ rfl _ (.tail .head) (size74_mg _) (mg_sizes _ _ _) (oneCells _ _), fun _ _ _ hS' => run_store_row hS' 74 _ _ rfl _ rfl _ _ rfl _ .head (size74_mg _) (mg_sizes _ _ _) (oneCells _ _), ?_⟩; clear hS
  intro b5 b6 w1 hS
  simp only [Act.put, List.setIfInBounds_toArray, List.set_cons_succ, List.set_cons_zero]
  go_wp2_with (fail)
  go_loopg [15] m (fun k _ wr => ∃ x y : Nat, y ≤ k ∧ Hid (x < pw 32 ∧ y < pw 32 ∧ y < L) ∧ Hid (Nat.gcd x y = Nat.gcd n m) ∧ St none w wr [] [(b6, .cells (mgk 32 y) 74), (b5, .cells (mgk 32 x) 74), (b4, .cells (iv false 0) 29), (b3, .cells (iv t m) 29), (b2, .cells (iv s n) 29)])
  case atStart => exact ⟨n, m, Nat.le_refl _, HB, rfl, hS⟩
  case round =>
    clear hS
    obtain ⟨x, y, hyk, HX, HE, hS⟩ := hrel
    by_cases hy0 : y = 0
    · have hz := isz_true hy0
      have HR : Hid (x = Nat.gcd n m) := by show x = Nat.gcd n m; rw [← HE.out, hy0, Nat.gcd_zero_right]
      clear hy0
      go_wp2_with (first | (refine L_load (t := 74) rfl rfl ?_; refine ⟨_, run_load_row hS _ _ rfl _ rfl _ _ (.inl (.head _)) _ Tryz.underlying74 rfl (size74_mg _), ?_⟩) | (refine L_load (t := 74) rfl rfl ?_; refine ⟨_, run_load_row hS _ _ rfl _ rfl _ _ (.inl (.tail _ (.head _))) _ Tryz.underlying74 rfl (size74_mg _), ?_⟩) | (go_at_call 65; (with_reducible refine Gives.use (isZero _ HX.out.2.1) hS ?_); clear hS; intro _ hS) | (go_at_call 68; (with_reducible refine Gives.use (signed_any _ _ HX.out.1) hS ?_); clear hS; intro _ hS) | (refine L_store (t := 29) hS rfl rfl ?_; refine ⟨_, _, _, _, _, (.tail (.tail .head)), run_store_row hS _ _ _ rfl _ rfl _ _ rfl _ (.tail (.tail .head)) (size29_iv _ _) (iv_sizes _ _ _ _) (oneCells_iv _ _), ?_⟩; clear hS; intro _ hS))
      (try simp only [Exit.inBlock, Exit.then]); refine bodyPost_ret (res_cell rfl hS _ _ _ _ (.inl (.tail _ (.tail _ (.head _)))) rfl _ Tryz.underlying29 rfl (size29_iv _ _)) rfl ⟨?_, hS.below⟩
      rw [← HR.out]; rfl
    · have hz := isz_false hy0
      have GD := HG.out x y HX.out.1 HX.out.2.1 (by omega) HX.out.2.2
      unfold DivGives at GD
      have hlt : x % y < y := Nat.mod_lt _ (by omega)
      have hge : x % y < gk := by omega
      have HX2 : Hid (y < pw 32 ∧ x % y < pw 32 ∧ x % y < L) := ⟨HX.out.2.1, by have := HX.out.2.1; omega, by have := HX.out.2.2; omega⟩
      have HE2 : Hid (Nat.gcd y (x % y) = Nat.gcd n m) := by show Nat.gcd y (x % y) = _; rw [← HE.out, Nat.gcd_comm x y, Nat.gcd_rec y x, Nat.gcd_comm]
      obtain ⟨r, hr⟩ : ∃ r, r = x % y := ⟨_, rfl⟩
      obtain ⟨q, hq⟩ : ∃ q, q = x / y := ⟨_, rfl⟩
      rw [← hr, ← hq] at GD
      rw [← hr] at HX2 HE2 hlt hge
      clear hr hq hy0
      go_wp2_with (first | (refine L_load (t := 74) rfl rfl ?_; refine ⟨_, run_load_row hS _ _ rfl _ rfl _ _ (.inl (.head _)) _ Tryz.underlying74 rfl (size74_mg _), ?_⟩) | (refine L_load (t := 74) rfl rfl ?_; refine ⟨_, run_load_row hS _ _ rfl _ rfl _ _ (.inl (.tail _ (.head _))) _ Tryz.underlying74 rfl (size74_mg _), ?_⟩) | (refine L_alloc_agg hS rfl rfl ?_; refine ⟨_, zero74, ?_⟩; clear hS; intro _ _ hS) | (refine L_store (t := 74) hS rfl rfl ?_; refine ⟨_, _, _, _, _, (.tail .head), run_store_row hS _ _ _ rfl _ rfl _ _ rfl _ (.tail .head) (size74_mg _) (mg_sizes _ _ _) (oneCells _ _), ?_⟩; clear hS; intro _ hS) | (refine L_store (t := 74) hS rfl rfl ?_; refine ⟨_, _, _, _, _, (.head), run_store_row hS _ _ _ rfl _ rfl _ _ rfl _ (.head) (size74_mg _) (mg_sizes _ _ _) (oneCells _ _), ?_⟩; clear hS; intro _ hS) | (go_at_call 65; (with_reducible refine Gives.use (isZero _ HX.out.2.1) hS ?_); clear hS; intro _ hS) | (go_at_call 67; (with_reducible refine Gives.use (GD) hS ?_); clear hS; intro _ hS))
      (try simp only [Act.put]); (try simp only [List.setIfInBounds_toArray, List.set_cons_succ, List.set_cons_zero]); refine wp_region_u2 hS 2 3 [1] (.tail (.tail (.tail (.head (o' := .cells (mgk 32 y) 74))))) (.tail (.tail (.head (o' := .cells (mgk 32 r) 74)))) (by kernel_rfl) (by kernel_rfl) ?_
      (refine S_load (t := 74) rfl rfl rfl rfl ?_; refine ⟨_, fun _ hS' => run_load_row hS' _ _ rfl _ rfl _ _ (.inl (.tail _ (.tail _ (.head _)))) _ Tryz.underlying74 rfl (size74_mg _), ?_⟩; simp only [Act.put, List.setIfInBounds_toArray, List.set_cons_succ, List.set_cons_zero])
      (refine S_float (t := 74) rfl rfl rfl ?_ (by decide); refine ⟨.agg (mgk 32 (r)), fun q _ hq _ hS' => run_load_row hS' _ _ rfl _ rfl (mgk 32 (r)) 74 (by rcases q with _ | _ | _ | q; (focus exact .inl (.head _)); (focus exact .inl (.head _)); (focus exact .inl (.head _)); exact absurd hq (by simp)) _ Tryz.underlying74 rfl (size74_mg _), ?_⟩; simp only [Act.put, List.setIfInBounds_toArray, List.set_cons_succ, List.set_cons_zero])
      (refine S_store (t := 74) rfl rfl rfl ?_; refine ⟨_, _, _, _, (.tail (.tail (.tail .head))), fun _ hS' => run_store_row hS' _ _ _ rfl _ rfl _ _ rfl _ (.tail (.tail (.tail .head))) (size74_mg _) (mg_sizes _ _ _) (oneCells _ _), ?_⟩; simp only [Act.put])
      (refine S_store (t := 74) rfl rfl rfl ?_; refine ⟨_, _, _, _, (.tail (.tail .head)), fun _ hS' => run_store_row hS' _ _ _ rfl _ rfl _ _ rfl _ (.tail (.tail .head)) (size74_mg _) (mg_sizes _ _ _) (oneCells _ _), ?_⟩; simp only [Act.put])
      refine S_end2 ?_; clear hS; intro _ hS
      go_wp2
      go_roundg r
      case rel => exact ⟨y, r, Nat.le_refl _, HX2, HE2, hS.drop.drop⟩
      case measure => exact hge
end Go.Proofs.YtfdlgeomaballaaGreat
