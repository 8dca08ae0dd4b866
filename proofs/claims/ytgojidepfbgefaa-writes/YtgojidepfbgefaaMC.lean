import Derived.Test.YtgojidepfbgefaaMB
namespace Go.Proofs.Ytgojidepfbgefaa
open Go.RowKit Go.Deep
namespace Ms
open Bs
set_option linter.unusedVariables false

set_option maxRecDepth 100000 in
set_option maxHeartbeats 4000000 in
theorem body_end (ob bl nu le : Int) (sy : ByteArray) (ao : Option Addr) (n cap : Nat) (os : Int) (w : World) (hn : n ≤ maxLen) (hs : sy.size ≤ maxLen) :
    Calls Try.prog 45 #[mV 3 ob bl nu le sy ao n cap os] w fun e w' => (∃ r : Bool, e = .returned (.tuple #[.string ⟨([69, u8w os] : List UInt8).toArray⟩, .bool r]) ∧ (r = true ↔ (0 ≤ os ∧ os ≤ 8 ∧ NoData ob bl nu le sy ∧ n = 0))) ∧ Below w.heap.size w w' := by
  unfold maxLen at hn hs
  obtain ⟨nd, hnd⟩ : ∃ nd : Bool, nd = true ↔ NoData ob bl nu le sy := (Classical.em (NoData ob bl nu le sy)).elim (fun h => ⟨true, by simp [h]⟩) (fun h => ⟨false, by simp [h]⟩)
  have HND : Hid (nd = true ↔ NoData ob bl nu le sy) := hnd
  clear hnd
  go_enter Try.func45, Try.ntmps45
  go_upto_region 1 with fail
  go_cut [4] (fun x wx => x = .bool nd ∧ wx = w.alloc (mBox 3 ob bl nu le sy ao n cap os))
  case first =>
    obtain ⟨B1, e1⟩ : ∃ B, (ob == 0) = B := ⟨_, rfl⟩
    obtain ⟨B2, e2⟩ : ∃ B, (bl == 0) = B := ⟨_, rfl⟩
    obtain ⟨B3, e3⟩ : ∃ B, (nu == 0) = B := ⟨_, rfl⟩
    obtain ⟨B4, e4⟩ : ∃ B, (le == 0) = B := ⟨_, rfl⟩
    obtain ⟨B5, e5⟩ : ∃ B, sy.toList.isEmpty = B := ⟨_, rfl⟩
    have HX : Hid (nd = (B1 && B2 && B3 && B4 && B5)) := by
      unfold Hid
      have h := HND.out
      unfold NoData at h
      rw [Bool.eq_iff_iff, h, ← e1, ← e2, ← e3, ← e4, ← e5, size_isEmpty]
      simp [and_assoc]
    go_wp2
    all_goals go_meet
    all_goals exact ⟨congrArg Value.bool (by rw [HX.out]; simp [*]), rfl⟩
  case rest =>
    obtain ⟨rfl, rfl⟩ := hcut
    go_wp2_with fail
    have HW := within_any 1 (w.heap.size + 1) 1 (w.heap.size + 2) 1 (fun _ => os) (fun _ => 8) (((w.alloc (mBox 3 ob bl nu le sy ao n cap os)).alloc (.cells #[.int .i64 os] 3)).alloc (.cells #[.int .i64 8] 3)) (by decide)
      (fun i hi => by
        obtain rfl : i = 0 := by omega
        exact cell_old (by simp) (cell_new (by simp) rfl))
      (fun i hi => by
        obtain rfl : i = 0 := by omega
        exact cell_new (by simp) rfl)
    refine HW.mono ?_
    rintro e w1 ⟨⟨r, rfl, hr⟩, q, rfl⟩
    clear HW
    have B1 : Below w.heap.size w ((((w.alloc (mBox 3 ob bl nu le sy ao n cap os)).alloc (.cells #[.int .i64 os] 3)).alloc (.cells #[.int .i64 8] 3)).drewN q) :=
      below_drewN ((((Below.refl _ _).alloc (Nat.le_refl _) _).alloc (by simp) _).alloc (by simp; omega) _) q
    go_wp2_with fail
    generalize hW2 : (((w.alloc (mBox 3 ob bl nu le sy ao n cap os)).alloc (.cells #[.int .i64 os] 3)).alloc (.cells #[.int .i64 8] 3)).drewN q = W2 at *
    have hz2 : W2.heap.size = w.heap.size + 1 + 1 + 1 := by rw [← hW2]; simp
    have HL := letters_any [os] (w.heap.size + 1 + 1 + 1) 1 (W2.alloc (.cells #[.int .i64 os] 3)) (by simp) (by simp; omega) (fun i hi => by
      obtain rfl : i = 0 := by simpa using hi
      exact cell_new (by omega) rfl)
    have B2 : Below w.heap.size w (W2.alloc (.cells #[.int .i64 os] 3)) := B1.alloc (by omega) _
    clear hW2 B1
    refine HL.mono ?_
    rintro e w3 ⟨rfl, hb3⟩
    have B3 := B2.trans (hb3.mono (by simp; omega))
    clear HL B2 hb3
    have ht := end_text (u8w os)
    have hfin : (r && nd && decide (n = 0)) = true ↔ (0 ≤ os ∧ os ≤ 8 ∧ NoData ob bl nu le sy ∧ n = 0) := by
      simp only [Bool.and_eq_true, hr, HND.out, decide_eq_true_eq, and_assoc]
      constructor
      · rintro ⟨h1, h2⟩; have := h1 0 (by decide); exact ⟨this.1, this.2, h2⟩
      · rintro ⟨h1, h2, h3⟩; exact ⟨fun i _ => ⟨h1, h2⟩, h3⟩
    have HF : Hid ((r && nd && decide (n = 0)) = true ↔ (0 ≤ os ∧ os ≤ 8 ∧ NoData ob bl nu le sy ∧ n = 0)) := hfin
    clear hr hfin
    cases r <;> cases nd
    all_goals
      go_wp2
      go_ret2
      exact ⟨⟨_, rfl, by rw [← HF.out]; simp⟩, B3⟩
end Ms
end Go.Proofs.Ytgojidepfbgefaa
