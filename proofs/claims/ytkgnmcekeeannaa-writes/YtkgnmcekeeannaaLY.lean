import Derived.Test.YtkgnmcekeeannaaLX
import Derived.Test.YtkgnmcekeeannaaOpn
namespace Go.Proofs.Ytkgnmcekeeannaa
open Go.RowKit Go.Deep
namespace Ms
open Bs

theorem writes_said (kd ob bl nu le : Int) (sy : ByteArray) (ao : Option Addr) (n : Nat) (its : Nat → It) (cap : Nat) (os : Int) (w : World) (hn : n * 24 ≤ 140737488351232) (hs : sy.size ≤ maxLen) (hl : ItemsAt w ao n its) :
    Calls Try.prog 7 #[mV kd ob bl nu le sy ao n cap os] w fun e w' => e = .returned (.bool true) ∧ Below w.heap.size w w' := by
  have h := writes_core kd ob bl nu le sy ao (asList n its) cap os w (by rw [asList_length]; exact hn) hs hl.list
  rw [asList_length] at h
  exact h
end Ms
end Go.Proofs.Ytkgnmcekeeannaa
