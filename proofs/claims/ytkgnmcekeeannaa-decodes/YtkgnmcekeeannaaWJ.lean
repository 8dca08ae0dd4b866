import Derived.Test.YtkgnmcekeeannaaWI
namespace Go.Proofs.Ytkgnmcekeeannaa
open Go.RowKit
namespace Cod
open Pol (G fm fi prodBut share lag sumTo)
open Fld (ret_int val_int i64_xor_nat)

/-- these may be a block's numbers, each there once -/
def Good (n : Nat) (zs : Nat → Int) : Prop := ∀ i, i < n → (0 ≤ zs i ∧ zs i < 16) ∧ ∀ j, j < i → zs j ≠ zs i
theorem ret_bool {a b : Bool} (h : a = b) : Ending.returned (.bool a) = .returned (.bool b) := by rw [h]

set_option maxHeartbeats 1000000 in
theorem areNumbers_any (n b off cap : Nat) (zs : Nat → Int) (w : World) (hn : n ≤ 8)
    (hcell : ∀ i, i < n → w.cell? ⟨b, off + i, none⟩ = some (.int .i64 (zs i))) :
    Calls Try.prog 68 #[.slice (some ⟨b, off, none⟩) n cap] w fun e w' => (∃ r : Bool, e = .returned (.bool r) ∧ (r = true ↔ Good n zs)) ∧ ∃ m, w' = w.drewN m := by
  have HC : Hid (∀ i, i < n → w.cell? ⟨b, off + i, none⟩ = some (.int .i64 (zs i))) := hcell
  clear hcell
  have cells : ∀ wr, Hid (∃ m, wr = w.drewN m) → ∀ i, i < n → wr.cell? ⟨b, off + i, none⟩ = some (.int .i64 (zs i)) := fun wr h => by
    obtain ⟨m, rfl⟩ := h.out; exact HC.out
  have HCS : Hid (∀ wr, Hid (∃ m, wr = w.drewN m) → ∀ i, i < n → wr.cell? ⟨b, off + i, none⟩ = some (.int .i64 (zs i))) := cells
  clear cells
  go_enter Try.func68, Try.ntmps68
  go_wp2
  go_loopw [3] (fun i wr => ∃ k : Nat, k ≤ n ∧ i = .int .i64 k ∧ Good k zs ∧ ∃ m, wr = w.drewN m) (fun i _ => n - (intOf i).toNat)
  case atStart => exact ⟨0, Nat.zero_le _, rfl, fun i hi => by omega, 0, rfl⟩
  case round =>
    obtain ⟨k, hk, rfl, hg, hwr⟩ := hrel
    have HG : Hid (Good k zs) := hg
    clear hg
    have HW : Hid (∃ m, wr = w.drewN m) := hwr
    clear hwr
    by_cases hlt : k < n
    · have ck := HCS.out wr HW k hlt
      by_cases hr : 0 ≤ zs k ∧ zs k < 16
      · obtain ⟨hr0, hr1⟩ := hr
        go_wp2
        clear ck
        go_loopw [4] (fun j w2 => ∃ m : Nat, m ≤ k ∧ j = .int .i64 m ∧ (∀ i, i < m → zs i ≠ zs k) ∧ ∃ q, w2 = w.drewN q) (fun j _ => k - (intOf j).toNat)
        case atStart => exact ⟨0, Nat.zero_le _, rfl, fun i hi => by omega, HW.out⟩
        case round =>
          clear HW
          obtain ⟨m, hm, rfl, hne, hw2⟩ := hrel
          have HW : Hid (∃ m, wr = w.drewN m) := hw2
          have HN : Hid (∀ i, i < m → zs i ≠ zs k) := hne
          clear hne hw2
          by_cases hlm : m < k
          · have ck := HCS.out wr HW k hlt
            have cm := HCS.out wr HW m (by omega)
            by_cases he : zs m = zs k
            · have ht : (zs m == zs k) = true := by simp [he]
              have HF : Hid (¬ Good n zs) := fun h => (h k hlt).2 m hlm he
              clear he
              go_wp2_with fail
              go_quiet (fail)
              go_wp2
              go_ret
              exact ⟨⟨false, rfl, by simp [HF.out]⟩, drawn_more HW.out⟩
            · have ht : (zs m == zs k) = false := by simp [he]
              have HE : Hid (zs m ≠ zs k) := he
              clear he
              go_wp2_with fail
              go_quiet (fail)
              go_wp2
              go_roundw
              case rel =>
                refine ⟨m + 1, by omega, by go_num, fun i hi => ?_, drawn_more HW.out⟩
                by_cases e : i = m
                · rw [e]; exact HE.out
                · exact HN.out i (by omega)
              case measure => simp [intOf]; omega
          · have e : m = k := by omega
            subst e
            go_wp2
            go_roundw
            case rel =>
              refine ⟨m + 1, by omega, by go_num, fun i hi => ?_, HW.out⟩
              by_cases e : i = m
              · rw [e]; exact ⟨⟨hr0, hr1⟩, HN.out⟩
              · exact HG.out i (by omega)
            case measure => simp [intOf]; omega
      · have HF : Hid (¬ Good n zs) := fun h => hr (h k hlt).1
        by_cases h0 : zs k < 0
        · clear hr
          go_wp2
          go_ret
          exact ⟨⟨false, rfl, by simp [HF.out]⟩, HW.out⟩
        · have h1 : 0 ≤ zs k := by omega
          have h2 : 16 ≤ zs k := by omega
          clear hr h0
          go_wp2
          go_ret
          exact ⟨⟨false, rfl, by simp [HF.out]⟩, HW.out⟩
    · have e : k = n := by omega
      subst e
      go_wp2
      go_ret
      exact ⟨⟨true, rfl, by simp [HG.out]⟩, HW.out⟩
end Cod
end Go.Proofs.Ytkgnmcekeeannaa
