import Derived.Test.YtbllidodcbjakaaMD
namespace Go.Proofs.Ytbllidodcbjakaa
open Go.RowKit Go.Deep
namespace Ms
open Bs
set_option linter.unusedVariables false

set_option maxRecDepth 100000 in
set_option maxHeartbeats 4000000 in
theorem body_data_no (ob bl nu le : Int) (sy : ByteArray) (ao : Option Addr) (n cap : Nat) (os : Int) (w : World) (hn : n ≤ maxLen) (hs : sy.size ≤ maxLen) (hf : ¬ (DataFits ob bl nu le sy ∧ n = 0 ∧ os = 0)) :
    Calls Try.prog 48 #[mV 1 ob bl nu le sy ao n cap os] w fun e w' => (∃ s : ByteArray, e = .returned (.tuple #[.string s, .bool false])) ∧ Below w.heap.size w w' := by
  unfold maxLen at hn hs
  obtain ⟨nd, hnd⟩ : ∃ nd : Bool, nd = true ↔ NoData ob bl nu le sy := (Classical.em (NoData ob bl nu le sy)).elim (fun h => ⟨true, by simp [h]⟩) (fun h => ⟨false, by simp [h]⟩)
  have HND : Hid (nd = true ↔ NoData ob bl nu le sy) := hnd
  clear hnd
  have HF : Hid (¬ (DataFits ob bl nu le sy ∧ n = 0 ∧ os = 0)) := hf
  clear hf
  go_enter Try.func48, Try.ntmps48
  go_upto_region 1 with fail
  go_cut [4] (fun x wx => x = .bool nd ∧ wx = w.alloc (mBox 1 ob bl nu le sy ao n cap os))
  case first =>
    obtain ⟨B1, e1⟩ : ∃ B, (ob == 0) = B := ⟨_, rfl⟩
    obtain ⟨B2, e2⟩ : ∃ B, (bl == 0) = B := ⟨_, rfl⟩
    obtain ⟨B3, e3⟩ : ∃ B, (nu == 0) = B := ⟨_, rfl⟩
    obtain ⟨B4, e4⟩ : ∃ B, (le == 0) = B := ⟨_, rfl⟩
    obtain ⟨B5, e5⟩ : ∃ B, sy.toList.isEmpty = B := ⟨_, rfl⟩
    have HX : Hid (nd = (B1 && B2 && B3 && B4 && B5)) := by
      unfold Hid
      have h := HND.out
      unfold NoData at h
      rw [Bool.eq_iff_iff, h, ← e1, ← e2, ← e3, ← e4, ← e5, size_isEmpty]
      simp [and_assoc]
    go_wp2
    all_goals go_meet
    all_goals exact ⟨congrArg Value.bool (by rw [HX.out]; simp [*]), rfl⟩
  case rest =>
    obtain ⟨rfl, rfl⟩ := hcut
    go_wp2_with fail
    have HW := within_any 5 (w.heap.size + 1) 5 (w.heap.size + 2) 5 (five ob bl nu le sy.size) (five 7 255 15 256 16) (((w.alloc (mBox 1 ob bl nu le sy ao n cap os)).alloc (.cells #[.int .i64 ob, .int .i64 bl, .int .i64 nu, .int .i64 le, .int .i64 sy.size] 3)).alloc (.cells #[.int .i64 7, .int .i64 255, .int .i64 15, .int .i64 256, .int .i64 16] 3)) (by decide)
      (fun i hi => by
        match i, hi with
        | 0, _ => exact cell_old (by simp) (cell_new (by simp) rfl)
        | 1, _ => exact cell_old (by simp) (cell_new (by simp) rfl)
        | 2, _ => exact cell_old (by simp) (cell_new (by simp) rfl)
        | 3, _ => exact cell_old (by simp) (cell_new (by simp) rfl)
        | 4, _ => exact cell_old (by simp) (cell_new (by simp) rfl))
      (fun i hi => by
        match i, hi with
        | 0, _ => exact cell_new (by simp) rfl
        | 1, _ => exact cell_new (by simp) rfl
        | 2, _ => exact cell_new (by simp) rfl
        | 3, _ => exact cell_new (by simp) rfl
        | 4, _ => exact cell_new (by simp) rfl)
    refine HW.mono ?_
    rintro e w1 ⟨⟨r, rfl, hr⟩, q, rfl⟩
    clear HW
    have HR : Hid (r = true ↔ Within 5 (five ob bl nu le sy.size) (five 7 255 15 256 16)) := hr
    clear hr
    have B1 : Below w.heap.size w ((((w.alloc (mBox 1 ob bl nu le sy ao n cap os)).alloc (.cells #[.int .i64 ob, .int .i64 bl, .int .i64 nu, .int .i64 le, .int .i64 sy.size] 3)).alloc (.cells #[.int .i64 7, .int .i64 255, .int .i64 15, .int .i64 256, .int .i64 16] 3)).drewN q) :=
      below_drewN ((((Below.refl _ _).alloc (Nat.le_refl _) _).alloc (by simp) _).alloc (by simp; omega) _) q
    have c1 : ((((w.alloc (mBox 1 ob bl nu le sy ao n cap os)).alloc (.cells #[.int .i64 ob, .int .i64 bl, .int .i64 nu, .int .i64 le, .int .i64 sy.size] 3)).alloc (.cells #[.int .i64 7, .int .i64 255, .int .i64 15, .int .i64 256, .int .i64 16] 3)).drewN q).heap.size = w.heap.size + 1 + 1 + 1 := by simp
    have bx : ∀ j v, (#[Value.int .i64 1, .int .i64 ob, .int .i64 bl, .int .i64 nu, .int .i64 le, .string sy, .slice ao n cap, .int .i64 os] : Array Value)[j]? = some v → ((((w.alloc (mBox 1 ob bl nu le sy ao n cap os)).alloc (.cells #[.int .i64 ob, .int .i64 bl, .int .i64 nu, .int .i64 le, .int .i64 sy.size] 3)).alloc (.cells #[.int .i64 7, .int .i64 255, .int .i64 15, .int .i64 256, .int .i64 16] 3)).drewN q).cell? ⟨w.heap.size, j, none⟩ = some v :=
      fun j v hv => cell_drawn (cell_old (by simp; omega) (cell_old (by simp) (cell_new rfl hv)))
    generalize (((w.alloc (mBox 1 ob bl nu le sy ao n cap os)).alloc (.cells #[.int .i64 ob, .int .i64 bl, .int .i64 nu, .int .i64 le, .int .i64 sy.size] 3)).alloc (.cells #[.int .i64 7, .int .i64 255, .int .i64 15, .int .i64 256, .int .i64 16] 3)).drewN q = W at *
    have d4 : W.cell? ⟨w.heap.size, 4, none⟩ = some (.int .i64 le) := bx 4 _ rfl
    have d5 : W.cell? ⟨w.heap.size, 5, none⟩ = some (.string sy) := bx 5 _ rfl
    have d7 : W.cell? ⟨w.heap.size, 7, none⟩ = some (.int .i64 os) := bx 7 _ rfl
    clear bx
    cases r with
    | false =>
      go_wp2
      go_ret2
      exact ⟨⟨_, rfl⟩, B1⟩
    | true =>
      have hw := HR.out.1 rfl
      have f0 := hw 0 (by decide)
      have f1 := hw 1 (by decide)
      have f2 := hw 2 (by decide)
      have f3 := hw 3 (by decide)
      have f4 := hw 4 (by decide)
      simp only [five, List.getD_cons_zero, List.getD_cons_succ] at f0 f1 f2 f3 f4
      have HFF : Hid (¬ (le ≠ 0 ∧ sy.size ≠ 0 ∧ n = 0 ∧ os = 0)) := fun h => HF.out ⟨by unfold DataFits; omega, h.2.2.1, h.2.2.2⟩
      clear hw f0 f1 f2 f3 f4
      by_cases g1 : le = 0
      · have t1 : (le == 0) = true := by simp [g1]
        clear g1
        go_wp2
        go_ret2
        exact ⟨⟨_, rfl⟩, B1⟩
      · have t1 : (le == 0) = false := by simp [g1]
        by_cases g2 : sy.size = 0
        · have t2 : sy.toList.isEmpty = true := by rw [size_isEmpty]; simpa using g2
          clear g1 g2
          go_wp2
          go_ret2
          exact ⟨⟨_, rfl⟩, B1⟩
        · have t2 : sy.toList.isEmpty = false := by rw [size_isEmpty]; exact decide_eq_false g2
          by_cases g3 : n = 0
          · have t3 : ((n : Int) == 0) = true := by simp [g3]
            have t4 : (os != 0) = true := by
              rw [bne_iff_ne]; exact fun g4 => HFF.out ⟨g1, g2, g3, g4⟩
            clear g1 g2 g3
            go_wp2
            go_ret2
            exact ⟨⟨_, rfl⟩, B1⟩
          · have t3 : ((n : Int) == 0) = false := by simp [g3]
            clear g1 g2 g3
            go_wp2
            go_ret2
            exact ⟨⟨_, rfl⟩, B1⟩
end Ms
end Go.Proofs.Ytbllidodcbjakaa
