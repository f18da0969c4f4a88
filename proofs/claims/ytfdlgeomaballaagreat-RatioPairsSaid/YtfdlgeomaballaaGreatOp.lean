/- Opening and shutting an argument that is a number (cells of the struct of a sign and 32 limbs). -/
import Derived.Test.YtfdlgeomaballaaGreatTypes
import Derived.ProofKit
import Derived.OpenShut
import Derived.ChangeSame
namespace Go.Proofs.YtfdlgeomaballaaGreat
open Go.RowKit Go.ChangeShapes
section
variable {H : Type} {enc : TypeId × Value → H} {w : World} {base : Nat} {spare : Nat → Bool} {held : Bool}

def ivd (H : Type) (s : Bool) (n : Nat) : DataW H := .agg [.lit (.bool s), .agg ((List.range 32).map fun i => .lit (.int .u32 ((limb n i : Nat) : Int)))]

theorem cells29 : Tryz.prog.cellsOf 29 = 33 := by kernel_rfl
theorem cells27 : Tryz.prog.cellsOf 27 = 32 := by kernel_rfl
theorem cells26 : Tryz.prog.cellsOf 26 = 1 := by kernel_rfl
theorem cells4 : Tryz.prog.cellsOf 4 = 1 := by kernel_rfl

theorem u32_wf (n i : Nat) : (Lit.int .u32 ((limb n i : Nat) : Int)).wf = true := by
  have := limb_lt n i
  simp [Lit.wf, IntKind.min, IntKind.max, IntKind.signed, IntKind.bits]; omega

theorem okWide_agg {P : Program} {w : World} {r : Reach} {b0 : Nat} {t : TypeId} {v : Value} {fs : Array Field} (h : P.underlying t = some (.struct fs)) (hv : Value.okWide P w r b0 t v) : ∃ cs, v = .agg cs ∧ cs.size = P.cellsOf t := by
  unfold Value.okWide at hv
  rw [h] at hv
  obtain ⟨cs, h1, h2, _⟩ := hv
  exact ⟨cs, h1, h2⟩

theorem agg_at {P : Program} {w : World} {r : Reach} {b0 : Nat} {ts : Array TypeId} {args : Array Value} {t : TypeId} {v : Value} {fs : Array Field} (hval : ∀ (j : Nat) t v, ts[j]? = some t → args[j]? = some v → Value.okWide P w r b0 t v) (j : Nat) (ht : ts[j]? = some t) (hv : args[j]? = some v) (h : P.underlying t = some (.struct fs)) : ∃ cs, v = .agg cs ∧ cs.size = P.cellsOf t := okWide_agg h (hval j t v ht hv)

theorem open_iv {v : Value} {d : DataW H} {ps : List MemPlace} (hval : ∃ cs, v = .agg cs ∧ cs.size = Tryz.prog.cellsOf 29) (hd : DataW.Trod enc Tryz.prog w base spare held 29 v d ps) :
    ∃ s n, n < pw 32 ∧ v = .agg (iv s n) ∧ d = ivd H s n ∧ ps = [] := by
  obtain ⟨cs, rfl, hsz⟩ := hval
  obtain ⟨fuel, hf⟩ := hd
  simp only [Value.cells] at hf
  obtain ⟨y0, y1, m, hx, hl, h0, h1⟩ := trod_struct2 Tryz.underlying29 hf
  rw [cells29] at hsz
  obtain ⟨s, hs, rfl⟩ := DataW.trod_bool Tryz.underlying4 h0
  obtain ⟨xs, m', -, rfl, hl1, hlen, hel⟩ := DataW.trod_array Tryz.underlying27 h1
  have hcell : ∀ i, i < 32 → ∃ z : Nat, z < 4294967296 ∧ cs[1 + i]? = some (lv z) ∧ xs[i]? = some (.lit (.int .u32 ((z : Nat) : Int)), []) := by
    intro i hi
    have he := hel i hi
    have hxi : i < xs.length := by omega
    rw [List.getElem?_eq_getElem hxi] at he
    obtain ⟨z, hz, hx', hw⟩ := DataW.trod_int Tryz.underlying26 he
    have hb := bounds_u32 hw
    refine ⟨z.toNat, by omega, ?_, ?_⟩
    · have h2 : ((((cs.toList.drop 1).take 32).drop (i * 1)).take 1)[0]? = some (.int .u32 z) := by
        rw [cells26, cells27] at hz
        rw [hz]; rfl
      rw [List.getElem?_take_of_lt (by omega), List.getElem?_drop, List.getElem?_take_of_lt (by omega), List.getElem?_drop] at h2
      simp only [Nat.mul_one, Nat.add_zero] at h2
      rw [← Array.getElem?_toList, h2]
      unfold lv
      rw [Int.toNat_of_nonneg hb.1]
    · rw [List.getElem?_eq_getElem hxi, hx', Int.toNat_of_nonneg hb.1]
  obtain ⟨n, hn, hA⟩ := mgk_of_row 32 (cs.extract 1 33) (by simp [hsz]) (by
    intro i hi
    obtain ⟨z, hz, hc, -⟩ := hcell i hi
    exact ⟨z, hz, by rw [Array.getElem?_extract, if_pos (by omega)]; exact hc⟩)
  have hiv : cs = iv s n := by
    apply Array.ext_getElem?
    intro i
    rcases Nat.eq_zero_or_pos i with rfl | hi
    · rw [iv_neg]
      have h2 : ((cs.toList.drop 0).take 1)[0]? = some (.bool s) := by
        rw [cells4] at hs
        rw [hs]; rfl
      rw [List.getElem?_take_of_lt (by omega), List.getElem?_drop] at h2
      rw [← Array.getElem?_toList]
      exact h2
    · obtain ⟨k, rfl⟩ : ∃ k, i = 1 + k := ⟨i - 1, by omega⟩
      rw [iv_mag, ← hA]
      rcases Nat.lt_or_ge k 32 with hk | hk
      · rw [Array.getElem?_extract, if_pos (by omega)]
      · rw [Array.getElem?_eq_none (by omega), Array.getElem?_eq_none (by simp; omega)]
  have hxs : xs = (List.range 32).map fun i => (DataW.lit (.int .u32 ((limb n i : Nat) : Int)), []) := by
    apply List.ext_getElem?
    intro i
    rcases Nat.lt_or_ge i 32 with hi | hi
    · obtain ⟨z, hz, hc, hx'⟩ := hcell i hi
      rw [hx']
      rw [hiv, iv_limb hi] at hc
      have e : limb n i = z := by
        have := Option.some.inj hc
        exact lv_inj this
      simp [hi, e]
    · rw [List.getElem?_eq_none (by omega), List.getElem?_eq_none (by simp; omega)]
  clear hf h0 h1 hel hcell
  have h1 : d = _ := congrArg Prod.fst hx
  have h2 : ps = _ := congrArg Prod.snd hx
  clear hx
  refine ⟨s, n, hn, congrArg Value.agg hiv, ?_, ?_⟩
  · rw [h1, hxs, ivd]; simp only [List.map_map]; rfl
  · rw [h2, hxs]; simp

theorem mapM_map {α β : Type} (f : α → Option β) (g : α → β) : ∀ (l : List α), (∀ i, i ∈ l → f i = some (g i)) → l.mapM f = some (l.map g)
  | [], _ => by simp
  | a :: l, h => by
    rw [List.mapM_cons, h a (List.mem_cons_self ..), mapM_map f g l fun i hi => h i (List.mem_cons_of_mem _ hi)]
    rfl
theorem trod_limbs (n : Nat) (f : Nat) : DataW.trod enc Tryz.prog w base spare held (f + 2) 27 (mgk 32 n).toList = some (.agg ((List.range 32).map fun i => .lit (.int .u32 ((limb n i : Nat) : Int))), []) := by
  have hl : (mgk 32 n).toList.length = Tryz.prog.cellsOf 27 := by rw [cells27, Array.length_toList, mgk_size]
  unfold DataW.trod
  rw [Tryz.underlying27]
  have hm : (List.range 32).mapM (fun i => DataW.trod enc Tryz.prog w base spare held (f + 1) 26 (((mgk 32 n).toList.drop (i * Tryz.prog.cellsOf 26)).take (Tryz.prog.cellsOf 26))) = some ((List.range 32).map fun i => (DataW.lit (.int .u32 ((limb n i : Nat) : Int)), [])) := by
    have hc : ∀ i, i < 32 → DataW.trod enc Tryz.prog w base spare held (f + 1) 26 (((mgk 32 n).toList.drop (i * Tryz.prog.cellsOf 26)).take (Tryz.prog.cellsOf 26)) = some (DataW.lit (.int .u32 ((limb n i : Nat) : Int)), []) := by
      intro i hi
      have : ((mgk 32 n).toList.drop (i * Tryz.prog.cellsOf 26)).take (Tryz.prog.cellsOf 26) = [.int .u32 ((limb n i : Nat) : Int)] := by
        rw [cells26, Nat.mul_one]
        have hlen : i < (mgk 32 n).toList.length := by rw [Array.length_toList, mgk_size]; exact hi
        rw [List.drop_eq_getElem_cons hlen, List.take_succ_cons, List.take_zero]
        have := mgk_get' (n := n) hi
        rw [← Array.getElem?_toList, List.getElem?_eq_getElem hlen] at this
        rw [Option.some.inj this]
      rw [this]
      exact trod_int_mk f Tryz.underlying26 (u32_wf n i)
    exact mapM_map _ _ _ fun i hi => hc i (List.mem_range.1 hi)
  simp [hm, hl]
theorem shut_iv {s : Bool} {n : Nat} : DataW.Trod enc Tryz.prog w base spare held 29 (.agg (iv s n)) (ivd H s n) [] := by
  refine ⟨4, ?_⟩
  simp only [Value.cells]
  have := trod_struct2_mk (enc := enc) (w := w) (base := base) (spare := spare) (held := held) (n := 3) (cs := (iv s n).toList) (y0 := (.lit (.bool s), [])) (y1 := (.agg ((List.range 32).map fun i => .lit (.int .u32 ((limb n i : Nat) : Int))), [])) Tryz.underlying29 (by rw [cells29, Array.length_toList, iv_size]) (by
    simp [iv, cells4, DataW.trod, Tryz.underlying4]) (by
    have := trod_limbs (enc := enc) (w := w) (base := base) (spare := spare) (held := held) n 1
    rw [cells27]
    have e : ((iv s n).toList.drop 1).take 32 = (mgk 32 n).toList := by
      rw [iv, Array.toList_append]
      simp [List.take_of_length_le, mgk_size]
    rw [e]; exact this)
  exact this
end
end Go.Proofs.YtfdlgeomaballaaGreat
