/-
  The landed modes keep the contract.
-/
import Derived.Test.YtbkffcopahiilaaMoG
import Derived.Test.YtbkffcopahiilaaMoD
namespace Go.Proofs.Ytbkffcopahiilaa
open Go.RowKit Go.Lib

theorem impl : Impl where
  right := fun a w _ => right_any a w
  conf := fun a b w _ _ => conflict_any a b w
  cov := fun a b w _ _ => cov_any a b w
  join := fun a b w _ _ => join_any a b w
  fits := fun x w _ => fits_any x w
  above := fun x w hx => above_any x w hx
end Go.Proofs.Ytbkffcopahiilaa
