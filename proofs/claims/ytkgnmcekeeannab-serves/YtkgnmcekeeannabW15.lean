import Derived.Test.YtkgnmcekeeannabW14
import Derived.Deep.RegionHeld3
namespace Go.Proofs.Ytkgnmcekeeannab
open Go.RowKit Go.Deep
namespace Ms
open Bs
set_option linter.unusedVariables false

end Ms
end Go.Proofs.Ytkgnmcekeeannab
namespace Go.Proofs.Ytkgnmcekeeannab
open Go.RowKit Go.Deep
namespace Ms
open Bs
set_option linter.unusedVariables false

theorem data_text (l s : List UInt8) : ((⟨#[68]⟩ : ByteArray) ++ (⟨l.toArray⟩ : ByteArray)) ++ (⟨s.toArray⟩ : ByteArray) = ⟨((68 :: l) ++ s).toArray⟩ := by
  rw [show (⟨#[68]⟩ : ByteArray) = ⟨([68] : List UInt8).toArray⟩ from rfl, ByteArray.mk_append_mk, ByteArray.mk_append_mk]; rfl
def five (a b c d e : Int) (i : Nat) : Int := ([a, b, c, d, e] : List Int).getD i 0

end Ms
end Go.Proofs.Ytkgnmcekeeannab
namespace Go.Proofs.Ytkgnmcekeeannab
open Go.RowKit Go.Deep
namespace Ms
open Bs
set_option linter.unusedVariables false

end Ms
end Go.Proofs.Ytkgnmcekeeannab
