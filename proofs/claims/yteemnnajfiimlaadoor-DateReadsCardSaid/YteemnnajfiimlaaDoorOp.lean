/- Opening and shutting an argument that is a number (cells of the struct of a sign and 32 limbs). -/
import Derived.Test.YteemnnajfiimlaaDoorTypes
import Derived.ProofKit
import Derived.OpenShut
import Derived.ChangeSame
namespace Go.Proofs.YteemnnajfiimlaaDoor
open Go.RowKit Go.ChangeShapes
section
variable {H : Type} {enc : TypeId × Value → H} {w : World} {base : Nat} {spare : Nat → Bool} {held : Bool}

def ivd (H : Type) (s : Bool) (n : Nat) : DataW H := .agg [.lit (.bool s), .agg ((List.range 32).map fun i => .lit (.int .u32 ((limb n i : Nat) : Int)))]

theorem cells4 : Tryd.prog.cellsOf 4 = 1 := by kernel_rfl

theorem u32_wf (n i : Nat) : (Lit.int .u32 ((limb n i : Nat) : Int)).wf = true := by
  have := limb_lt n i
  simp [Lit.wf, IntKind.min, IntKind.max, IntKind.signed, IntKind.bits]; omega

theorem okWide_agg {P : Program} {w : World} {r : Reach} {b0 : Nat} {t : TypeId} {v : Value} {fs : Array Field} (h : P.underlying t = some (.struct fs)) (hv : Value.okWide P w r b0 t v) : ∃ cs, v = .agg cs ∧ cs.size = P.cellsOf t := by
  unfold Value.okWide at hv
  rw [h] at hv
  obtain ⟨cs, h1, h2, _⟩ := hv
  exact ⟨cs, h1, h2⟩

theorem agg_at {P : Program} {w : World} {r : Reach} {b0 : Nat} {ts : Array TypeId} {args : Array Value} {t : TypeId} {v : Value} {fs : Array Field} (hval : ∀ (j : Nat) t v, ts[j]? = some t → args[j]? = some v → Value.okWide P w r b0 t v) (j : Nat) (ht : ts[j]? = some t) (hv : args[j]? = some v) (h : P.underlying t = some (.struct fs)) : ∃ cs, v = .agg cs ∧ cs.size = P.cellsOf t := okWide_agg h (hval j t v ht hv)

theorem mapM_map {α β : Type} (f : α → Option β) (g : α → β) : ∀ (l : List α), (∀ i, i ∈ l → f i = some (g i)) → l.mapM f = some (l.map g)
  | [], _ => by simp
  | a :: l, h => by
    rw [List.mapM_cons, h a (List.mem_cons_self ..), mapM_map f g l fun i hi => h i (List.mem_cons_of_mem _ hi)]
    rfl
end
end Go.Proofs.YteemnnajfiimlaaDoor
