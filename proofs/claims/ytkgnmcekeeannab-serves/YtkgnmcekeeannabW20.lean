import Derived.Test.YtkgnmcekeeannabW10
import Derived.Test.YtkgnmcekeeannabW19
/-
  The reference's receiver hears what is no data.
-/
namespace Go.Proofs.Ytkgnmcekeeannab
open Go.RowKit Go.Deep
namespace Sn
open Bs
open Ms (txt text ok M It mV mVm mBox mRow mRow_new itF itOK ItemsAt Tells ReadOut owns_setCell owns_items icells)
set_option linter.unusedVariables false

theorem rRow_set4 (n : Nm) (vh : Value) (known taken k : Nat) (j : Nat) (hj : j < 6) : (if j = 4 then (.int .i64 k : Value) else rRow n vh known taken j) = rRow n vh k taken j := by
  match j, hj with
  | 0, _ => rfl
  | 1, _ => rfl
  | 2, _ => rfl
  | 3, _ => rfl
  | 4, _ => rfl
  | 5, _ => rfl
end Sn
end Go.Proofs.Ytkgnmcekeeannab
/-
  The reference's receiver hears data that it refuses.
-/
namespace Go.Proofs.Ytkgnmcekeeannab
open Go.RowKit Go.Deep
namespace Sn
open Bs
open Ms (txt text ok M It mV mVm mBox mRow mRow_new itF itOK ItemsAt Tells ReadOut owns_setCell owns_items icells)
set_option linter.unusedVariables false


end Sn
end Go.Proofs.Ytkgnmcekeeannab
