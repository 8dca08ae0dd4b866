import Derived.Test.YtkgnmcekeeannaaND
import Derived.Laws.CopyOwn
import Derived.OpenShut
namespace Go.Proofs.Ytkgnmcekeeannaa
open Go.RowKit Go.Deep
namespace Ms
open Bs
set_option linter.unusedVariables false

set_option maxHeartbeats 1000000 in
theorem sameItems_eq (ao bo : Option Addr) (n cap cap' : Nat) (its : Nat → It) (w : World) (hn : n ≤ maxLen) (ha : ItemsAt w ao n its) (hb : ItemsAt w bo n its) :
    Calls Try.prog 25 #[.slice ao n cap, .slice bo n cap'] w fun e w' => e = .returned (.bool true) ∧ ∃ m, w' = w.drewN m := by
  unfold maxLen at hn
  have HA : Hid (ItemsAt w ao n its) := ha
  have HB : Hid (ItemsAt w bo n its) := hb
  clear ha hb
  go_enter Try.func25, Try.ntmps25
  go_wp2
  go_loopw [5] (fun x wr => ∃ i : Nat, i ≤ n ∧ x = .int .i64 i ∧ ∃ m, wr = w.drewN m) (fun x _ => n - (intOf x).toNat)
  case atStart => exact ⟨0, Nat.zero_le _, rfl, 0, rfl⟩
  case round =>
    obtain ⟨i, hi, rfl, hwr⟩ := hrel
    have HW : Hid (∃ m, wr = w.drewN m) := hwr
    have hcr : ∀ p, wr.cell? p = w.cell? p := by obtain ⟨m, rfl⟩ := hwr; exact fun p => rfl
    clear hwr
    by_cases hlt : i < n
    · rcases HA.out with h | ⟨b, off, rfl, hbl, hc⟩
      · omega
      · rcases HB.out with h | ⟨b', off', rfl, hbl', hc'⟩
        · omega
        · obtain ⟨i1, i2, i3⟩ := hc i hlt
          obtain ⟨k1, k2, k3⟩ := hc' i hlt
          rw [← hcr] at i1 i2 i3 k1 k2 k3
          clear hcr hc hc'
          generalize its i = t at *
          have d1 : (t.o != t.o) = false := by simp
          have d2 : (t.b != t.b) = false := by simp
          have d3 : (t.c != t.c) = false := by simp
          go_wp2_with fail
          go_quiet (fail)
          go_wp2
          go_roundw
          case rel => exact ⟨i + 1, by omega, by go_num, drawn_more HW.out⟩
          case measure => simp [intOf]; omega
    · obtain rfl : i = n := by omega
      clear hcr
      go_wp2
      go_ret
      exact ⟨rfl, HW.out⟩
end Ms
end Go.Proofs.Ytkgnmcekeeannaa
