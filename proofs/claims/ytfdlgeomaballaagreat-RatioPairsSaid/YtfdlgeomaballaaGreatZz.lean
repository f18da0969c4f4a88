/- The calls on canonical numbers, by what they denote. -/
import Derived.Test.YtfdlgeomaballaaGreatWh
namespace Go.Proofs.YtfdlgeomaballaaGreat
open Go.RowKit

theorem add_Z (x y z : Int) (e : x + y = z) (hx : x.natAbs < pw 32) (hy : y.natAbs < pw 32) (h : z.natAbs < pw 32) : Gives Tryz.prog 76 #[.agg (ivZ x), .agg (ivZ y)] (.tuple #[.agg (ivZ z), .int .i64 0]) := by
  subst e
  have := add_yes (decide (x < 0)) (decide (y < 0)) x.natAbs y.natAbs hx hy (by rw [vz_self, vz_self]; exact h)
  rwa [vz_self, vz_self] at this
theorem mul_Z (x y z : Int) (e : x * y = z) (hx : x.natAbs < pw 32) (hy : y.natAbs < pw 32) (h : z.natAbs < pw 32) : Gives Tryz.prog 77 #[.agg (ivZ x), .agg (ivZ y)] (.tuple #[.agg (ivZ z), .int .i64 0]) := by
  subst e
  have := mul_any (decide (x < 0)) (decide (y < 0)) x.natAbs y.natAbs hx hy
  rw [vz_self, vz_self, resZ_fits h] at this
  exact this
theorem cmp_Z (x y : Int) (hx : x.natAbs < pw 32) (hy : y.natAbs < pw 32) : Gives Tryz.prog 63 #[.agg (ivZ x), .agg (ivZ y)] (.int .i64 (cmpZ x y)) := by
  have := cmp_any (decide (x < 0)) (decide (y < 0)) x.natAbs y.natAbs hx hy
  rwa [vz_self, vz_self] at this
theorem sign_Z (x : Int) (hx : x.natAbs < pw 32) : Gives Tryz.prog 37 #[.agg (ivZ x)] (.int .i64 (sgn x)) := by
  have := sign_any (decide (x < 0)) x.natAbs hx
  rwa [vz_self] at this
end Go.Proofs.YtfdlgeomaballaaGreat
