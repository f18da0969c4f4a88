/- RatioExact returns true and leaves its arguments as they were, for every two ratios, valid or not; no condition. -/
import Derived.Test.YtfdlgeomaballaaRows
import Derived.WalkKit
import Derived.ProofKit
import Derived.OpenShut
import Derived.Test.YtfdlgeomaballaaOp
import Derived.Test.YtfdlgeomaballaaGme
import Derived.Test.YtfdlgeomaballaaGmf
namespace Go.Proofs.Ytfdlgeomaballaa.ratioExact
open Go.ChangeShapes Go.WideShapes Go.ChangeAt Go.RowKit
set_option linter.unusedVariables false

theorem own : ownKnob Try.prog.godebug = none := by kernel_rfl
theorem rv_two : rv false 0 false 0 = iv false 0 ++ iv false 0 := rfl

set_option maxRecDepth 100000 in
theorem lifted (os : Os) (started : os.Started) (H : Type) (enc : TypeId × Value → H) :
    ReturnsInHanded {} Try.checked os 6 .any (Rows.ratioExactSpec.pre6 enc Try.prog Try.f6 Rows.ratioExactRow.domain false) (Rows.ratioExactSpec.post enc Try.prog Try.f6 false true false false) := by
  refine returnsInHanded_of_change (C := Try.checked) own started (by kernel_rfl) Try.func6
    (ChangeSpec.witness6 (enc := enc) (C := Try.checked) false ⟨#[], #[.agg (rv false 0 false 0), .agg (rv false 0 false 0)], []⟩ 8 (by rw [rv_two, iv_zero]; kernel_rfl) (by rw [rv_two, iv_zero]; kernel_rfl) (by rw [rv_two, iv_zero]; kernel_rfl) (by rw [rv_two, iv_zero]; kernel_rfl)) ?_
  intro W base args ds gs before hval0 hW hcnd _
  have hval : ∀ (j : Nat) t v, Try.f6.params[j]? = some t → args[j]? = some v → Value.okWide Try.prog W .any base t v := hval0
  have hW' := hW
  obtain ⟨p, q, hA0, hV, rfl, hfz, hnd⟩ := hW
  have hA : DataW.TrodAll enc Try.prog W 0 (fun _ => true) true Try.f6.params.toList args.toList ds p := hA0
  rw [Try.params6] at hA hval
  obtain ⟨v0, vs0, d0, ds0, p0, q0, hargs, rfl, rfl, h0, r0⟩ := trodAll_cons hA
  obtain ⟨v1, vs1, d1, ds1, p1, q1, rfl, rfl, rfl, h1, r1⟩ := trodAll_cons r0
  obtain ⟨rfl, rfl, rfl⟩ := trodAll_nil r1
  obtain rfl : args = #[v0, v1] := by cases args; simp_all
  obtain ⟨rfl, rfl⟩ := trodVars_none hV
  obtain ⟨s0, n0, t0, m0, hn0, hm0, rfl, rfl, rfl⟩ := open_rat (agg_at hval 0 rfl rfl Try.underlying52) h0
  obtain ⟨s1, n1, t1, m1, hn1, hm1, rfl, rfl, rfl⟩ := open_rat (agg_at hval 1 rfl rfl Try.underlying52) h1
  clear hA0 hval0 hval hA
  simp only [List.append_nil] at hW'
  refine (rexact_any s0 t0 s1 t1 n0 m0 n1 m1 hn0 hm0 hn1 hm1 W).mono fun e W' ⟨he, hg⟩ => ?_
  subst he
  exact ⟨_, rfl, _, _, _, [], [], [], hW', trodAll_cons_mk (shut_bool Try.underlying4 _) trodAll_mk0, trodAll_cons_mk shut_rat (trodAll_cons_mk shut_rat trodAll_mk0), rfl, hg.frame _, fun h => by cases h⟩

theorem over : Rows.ratioExactRow.holds Try.pinned (OpenSpec.ofChange Rows.ratioExactSpec) :=
  OpenClaim.holds_of_wide 6 Try.f6 rfl rfl rfl rfl rfl rfl rfl ⟨rfl, rfl, rfl, rfl, rfl⟩ rfl rfl rfl rfl rfl (by kernel_rfl) Try.func6 (by kernel_rfl)
    (of_decide_eq_true (by kernel_rfl)) (by unfold Func.isWrapper; first | (rw [if_pos (by decide +kernel)]; kernel_rfl) | (rw [if_neg (by decide +kernel)]; exact ⟨rfl, rfl⟩))
    (fun os started H enc _ => lifted os started H enc)

/-- ████ THE STATEMENT ████ -/
theorem proved : Rows.RatioExactSaid :=
  over
#print axioms proved
end Go.Proofs.Ytfdlgeomaballaa.ratioExact
