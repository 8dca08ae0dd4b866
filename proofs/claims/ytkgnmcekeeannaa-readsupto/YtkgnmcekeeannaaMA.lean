import Derived.Test.YtkgnmcekeeannaaBas
import Derived.Test.YtkgnmcekeeannaaWS
import Derived.Test.YtkgnmcekeeannaaMsg
namespace Go.Proofs.Ytkgnmcekeeannaa
open Go.RowKit Go.Deep
namespace Ms
open Bs

set_option maxHeartbeats 1000000 in
theorem letters_any (l : List Int) (b cap : Nat) (w : World) (hl : l.length ≤ 8) (hb : b < w.heap.size)
    (hc : ∀ i, i < l.length → w.cell? ⟨b, i, none⟩ = some (.int .i64 (l.getD i 0))) :
    Calls Try.prog 49 #[.slice (some ⟨b, 0, none⟩) l.length cap] w fun e w' => e = .returned (.string ⟨(l.map u8w).toArray⟩) ∧ Below w.heap.size w w' := by
  obtain ⟨n, hn⟩ : ∃ n, n = l.length := ⟨_, rfl⟩
  have HNL : Hid (n = l.length) := hn
  rw [← hn] at hl hc ⊢
  clear hn
  have hmk := run_make_row' (P := Try.prog) 97 5 (.int .u8 0) 1 Try.underlying97 infoByte rfl .i64 .i64 n (by omega) (by omega)
  obtain ⟨N, hN⟩ : ∃ N, N = w.heap.size := ⟨_, rfl⟩
  have HC : Hid (∀ i, i < n → w.cell? ⟨b, i, none⟩ = some (.int .i64 (l.getD i 0))) := hc
  have HR0 : Hid ((w.alloc (.cells (madeCells #[.int .u8 0] n) 5)).rowIs N 5 n (fun j => if j < 0 then bv (u8w (l.getD j 0)) else .int .u8 0)) := by
    unfold Hid; rw [hN]; exact (World.rowIs_made w (.int .u8 0) n 5).congr (fun j _ => by simp)
  have B0 : Below N w (w.alloc (.cells (madeCells #[.int .u8 0] n) 5)) := by rw [hN]; exact (Below.refl _ _).alloc (Nat.le_refl _) _
  have hN' : w.heap.size = N := hN.symm
  rw [hN'] at hb ⊢
  clear hN hc
  go_enter Try.func49, Try.ntmps49
  go_wp2
  go_loopw [4] (fun x wr => ∃ i : Nat, i ≤ n ∧ x = .int .i64 i ∧ wr.rowIs N 5 n (fun j => if j < i then bv (u8w (l.getD j 0)) else .int .u8 0) ∧ Below N w wr) (fun x _ => n - (intOf x).toNat)
  case atStart => exact ⟨0, Nat.zero_le _, rfl, HR0.out, B0⟩
  case round =>
    clear HR0 B0 hmk hN'
    obtain ⟨i, hi, rfl, hR, hB⟩ := hrel
    by_cases hlt : i < n
    · have ci := (hB.cell (p := ⟨b, i, none⟩) hb).trans (HC.out i hlt)
      have oc := hR.cell hlt
      simp only [Nat.lt_irrefl, if_false] at oc
      have of := hR.frozen i
      have hu := toNat_u8w (l.getD i 0)
      have HR2 : Hid ((wr.setCell ⟨N, i, none⟩ (.int .u8 (l.getD i 0 % 256))).rowIs N 5 n (fun j => if j < i + 1 then bv (u8w (l.getD j 0)) else .int .u8 0)) := (hR.set i _).congr (fun j _ => by
        by_cases e : j = i
        · subst e; simp only [if_true, show j < j + 1 by omega, bv]; rw [hu]
        · by_cases e2 : j < i
          · simp [e, e2, show j < i + 1 by omega]
          · simp [e, e2, show ¬ j < i + 1 by omega])
      have hB2 : Below N w (wr.setCell ⟨N, i, none⟩ (.int .u8 (l.getD i 0 % 256))) := hB.setCell (Nat.le_refl _) _
      clear hR hu
      generalize l.getD i 0 = v at *
      go_wp2
      go_roundw
      case rel => exact ⟨i + 1, by omega, by go_num, HR2.out, hB2⟩
      case measure => simp [intOf]; omega
    · obtain rfl : i = n := by omega
      have hcv := conv_row (cap := i) (l.map u8w) (by rw [List.length_map, HNL.out]) hR (fun j hj x hx => by
        rw [HNL.out] at hj
        simp [hj] at hx
        rw [if_pos (by rw [HNL.out]; exact hj), ← hx, List.getD_eq_getElem?_getD, List.getElem?_eq_getElem hj]; rfl)
      clear hR
      go_wp2
      go_ret
      exact ⟨rfl, hB⟩
/-- every number from 0 to the one beside it -/
def Within (n : Nat) (l most : Nat → Int) : Prop := ∀ i, i < n → 0 ≤ l i ∧ l i ≤ most i

set_option maxHeartbeats 1000000 in
theorem within_any (n b1 c1 b2 c2 : Nat) (l most : Nat → Int) (w : World) (hn : n ≤ 8)
    (h1 : ∀ i, i < n → w.cell? ⟨b1, i, none⟩ = some (.int .i64 (l i))) (h2 : ∀ i, i < n → w.cell? ⟨b2, i, none⟩ = some (.int .i64 (most i))) :
    Calls Try.prog 71 #[.slice (some ⟨b1, 0, none⟩) n c1, .slice (some ⟨b2, 0, none⟩) n c2] w fun e w' => (∃ r : Bool, e = .returned (.bool r) ∧ (r = true ↔ Within n l most)) ∧ ∃ m, w' = w.drewN m := by
  have H1 : Hid (∀ i, i < n → w.cell? ⟨b1, i, none⟩ = some (.int .i64 (l i))) := h1
  have H2 : Hid (∀ i, i < n → w.cell? ⟨b2, i, none⟩ = some (.int .i64 (most i))) := h2
  clear h1 h2
  go_enter Try.func71, Try.ntmps71
  go_wp2
  go_loopw [5] (fun x wr => ∃ k : Nat, k ≤ n ∧ x = .int .i64 k ∧ Within k l most ∧ ∃ m, wr = w.drewN m) (fun x _ => n - (intOf x).toNat)
  case atStart => exact ⟨0, Nat.zero_le _, rfl, fun i hi => by omega, 0, rfl⟩
  case round =>
    obtain ⟨k, hk, rfl, hg, hwr⟩ := hrel
    have HG : Hid (Within k l most) := hg
    have HW : Hid (∃ m, wr = w.drewN m) := hwr
    have hcr : ∀ i, i < n → wr.cell? ⟨b1, i, none⟩ = some (.int .i64 (l i)) ∧ wr.cell? ⟨b2, i, none⟩ = some (.int .i64 (most i)) := by
      obtain ⟨m, rfl⟩ := hwr; exact fun i hi => ⟨H1.out i hi, H2.out i hi⟩
    clear hg hwr
    by_cases hlt : k < n
    · obtain ⟨ck, cm⟩ := hcr k hlt
      clear hcr
      by_cases h0 : l k < 0
      · have HF : Hid (¬ Within n l most) := fun h => by have := h k hlt; omega
        have hd : decide (l k < 0) = true := by simpa using h0
        go_wp2_with fail
        go_quiet (fail)
        go_wp2
        go_ret
        exact ⟨⟨false, rfl, by simp [HF.out]⟩, drawn_more HW.out⟩
      · have hd : decide (l k < 0) = false := by simpa using h0
        have h0' : 0 ≤ l k := by omega
        clear h0
        by_cases h1 : most k < l k
        · have HF : Hid (¬ Within n l most) := fun h => by have := h k hlt; omega
          go_wp2_with fail
          go_quiet (fail)
          go_wp2
          go_ret
          exact ⟨⟨false, rfl, by simp [HF.out]⟩, drawn_more HW.out⟩
        · have h1' : l k ≤ most k := by omega
          have hd2 : decide (most k < l k) = false := by simpa using h1
          clear h1
          go_wp2_with fail
          go_quiet (fail)
          go_wp2
          go_roundw
          case rel =>
            refine ⟨k + 1, by omega, by go_num, fun i hi => ?_, drawn_more HW.out⟩
            by_cases e : i = k
            · rw [e]; exact ⟨h0', h1'⟩
            · exact HG.out i (by omega)
          case measure => simp [intOf]; omega
    · obtain rfl : k = n := by omega
      clear hcr
      go_wp2
      go_ret
      exact ⟨⟨true, rfl, by simp [HG.out]⟩, HW.out⟩
end Ms
end Go.Proofs.Ytkgnmcekeeannaa
