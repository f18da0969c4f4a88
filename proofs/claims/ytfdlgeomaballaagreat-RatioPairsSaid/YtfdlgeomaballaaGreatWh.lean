/- The walk of known, the examples that every statement asks. -/
import Derived.Test.YtfdlgeomaballaaGreatWg
namespace Go.Proofs.YtfdlgeomaballaaGreat
open Go.RowKit

theorem small_abs (z : Int) (h : z.natAbs < 4294967296) : z.natAbs < pw 32 := Nat.lt_of_lt_of_le (by rw [pw_one]; exact h) (pw_le (show 1 ≤ 32 by omega))
theorem divMod_small (x y : Int) (hx : x.natAbs < 4294967296) (hy : y.natAbs < 4294967296) (h0 : 0 < y.natAbs) :
    Gives Tryz.prog 69 #[.agg (ivZ x), .agg (ivZ y)] (.tuple #[.agg (ivZ (x / y)), .agg (ivZ (x % y)), .int .i64 0]) := by
  have := divMod_of (decide (x < 0)) (decide (y < 0)) x.natAbs y.natAbs (small_abs x hx) (small_abs y hy) h0 (divide_one _ _ (small_abs x hx) h0 hy)
  rwa [vz_self, vz_self] at this
theorem gcd_small (x y : Int) (hx : x.natAbs < 4294967296) (hy : y.natAbs < 4294967296) :
    Gives Tryz.prog 39 #[.agg (ivZ x), .agg (ivZ y)] (.agg (ivZ ((Nat.gcd x.natAbs y.natAbs : Nat) : Int))) :=
  gcd_of 4294967296 _ _ _ _ (small_abs x hx) (small_abs y hy) hy (fun a b ha _ h0 hb => divide_one a b ha h0 hb)
end Go.Proofs.YtfdlgeomaballaaGreat
