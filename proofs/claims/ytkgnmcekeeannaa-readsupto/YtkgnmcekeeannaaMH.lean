import Derived.Test.YtkgnmcekeeannaaMx
namespace Go.Proofs.Ytkgnmcekeeannaa
open Go.RowKit Go.Deep
namespace Ms
open Bs
set_option linter.unusedVariables false

def zBox : Obj := mBox 0 0 0 0 0 ⟨#[]⟩ none 0 0 0

set_option maxRecDepth 100000 in
set_option maxHeartbeats 4000000 in
theorem guess_data (s : ByteArray) (w : World) (hs : s.size ≤ maxLen) (h9 : 9 ≤ s.size) (h0 : byt s 0 = 68) :
    Calls Try.prog 51 #[.string s] w fun e w' => GuessOut (gData s) e w w' ∧ Below w.heap.size w w' := by
  unfold maxLen at hs
  have g0 : ((s[0].toNat : Int) == 68) = true := by rw [← byt_get s 0 (by omega), h0]; rfl
  have i4 : (4 : Int) < (s.size : Int) := by omega
  have i5 : (5 : Int) < (s.size : Int) := by omega
  have j5 : 5 < s.size := by omega
  have j4 : 4 < s.size := by omega
  have hss : ∀ W', (Instr.slice 9 (.string s) (some (.int .i64 6)) (some (.int .i64 ((s.size : Int) - 2))) none).run Try.prog W' = .ok (.string (s.extract 6 (s.size - 2))) W' := fun W' => by
    have h := run_slice_string (P := Try.prog) W' 9 s .i64 .i64 6 ((s.size : Int) - 2) Try.underlying9 (by omega) (by omega) (by omega)
    rw [show ((s.size : Int) - 2).toNat = s.size - 2 from by omega] at h
    exact h
  have r1 := byt_range s 1
  have r2 := byt_range s 2
  have r3 := byt_range s 3
  have r4 := byt_range s 4
  have r5 := byt_range s 5
  have g67 : wrap64 (byt s 4 * 256) = byt s 4 * 256 ∧ wrap64 (byt s 4 * 256 + byt s 5) = byt s 4 * 256 + byt s 5 := ⟨wrap_small _ (by omega) (by omega), wrap_small _ (by omega) (by omega)⟩
  obtain ⟨g6, g7⟩ := g67
  have g1 : wrap64 (s[1].toNat : Int) = byt s 1 := wrap_byt s 1 (Nat.lt_of_lt_of_le (by decide) h9)
  have g2 : wrap64 (s[2].toNat : Int) = byt s 2 := wrap_byt s 2 (Nat.lt_of_lt_of_le (by decide) h9)
  have g3 : wrap64 (s[3].toNat : Int) = byt s 3 := wrap_byt s 3 (Nat.lt_of_lt_of_le (by decide) h9)
  have g4 : wrap64 (s[4].toNat : Int) = byt s 4 := wrap_byt s 4 (Nat.lt_of_lt_of_le (by decide) h9)
  have g5 : wrap64 (s[5].toNat : Int) = byt s 5 := wrap_byt s 5 (Nat.lt_of_lt_of_le (by decide) h9)
  clear r1 r2 r3 r4 r5
  clear h0
  go_enter Try.func51, Try.ntmps51
  go_wp2
  go_region
  go_wp2
  refine bodyPost_ret (v := mV 1 (byt s 1) (byt s 2) (byt s 3) (byt s 4 * 256 + byt s 5) (s.extract 6 (s.size - 2)) none 0 0 0) (by simp [results, Try.results51, go_sem]) rfl ?_
  exact ⟨zero_out _ _ _ _ _ _ _ _ _, (((Below.refl _ _).alloc (Nat.le_refl _) _).alloc (by simp) _).drew⟩

set_option maxRecDepth 100000 in
set_option maxHeartbeats 4000000 in
theorem guess_end (s : ByteArray) (w : World) (h4 : s.size = 4) (h0 : byt s 0 = 69) :
    Calls Try.prog 51 #[.string s] w fun e w' => GuessOut (gEnd s) e w w' ∧ Below w.heap.size w w' := by
  have g68 : ((s[0].toNat : Int) == 68) = false := by rw [← byt_get s 0 (by omega), h0]; rfl
  have g82 : ((s[0].toNat : Int) == 82) = false := by rw [← byt_get s 0 (by omega), h0]; rfl
  have g69 : ((s[0].toNat : Int) == 69) = true := by rw [← byt_get s 0 (by omega), h0]; rfl
  have hi : (s.size : Int) = 4 := by omega
  have g1 : wrap64 (s[1].toNat : Int) = byt s 1 := wrap_byt s 1 (by omega)
  clear h0
  go_enter Try.func51, Try.ntmps51
  go_wp2
  refine bodyPost_ret (v := mV 3 0 0 0 0 ⟨#[]⟩ none 0 0 (byt s 1)) (by simp [results, Try.results51, go_sem]) rfl ?_
  exact ⟨zero_out _ _ _ _ _ _ _ _ _, (((Below.refl _ _).alloc (Nat.le_refl _) _).alloc (by simp) _)⟩

set_option maxRecDepth 100000 in
set_option maxHeartbeats 4000000 in
theorem guess_small (s : ByteArray) (w : World) (h4 : s.size < 4) :
    Calls Try.prog 51 #[.string s] w fun e w' => GuessOut zeroM e w w' ∧ Below w.heap.size w w' := by
  have hi : (s.size : Int) < 4 := by omega
  go_enter Try.func51, Try.ntmps51
  go_wp2
  all_goals
    refine bodyPost_ret (v := mV 0 0 0 0 0 ⟨#[]⟩ none 0 0 0) (by simp [results, Try.results51, go_sem]) rfl ?_
    exact ⟨zero_out _ _ _ _ _ _ _ _ _, (((Below.refl _ _).alloc (Nat.le_refl _) _).alloc (by simp) _)⟩
set_option maxRecDepth 100000 in
set_option maxHeartbeats 4000000 in
theorem guess_other (s : ByteArray) (w : World) (hs : s.size ≤ maxLen) (h4 : 4 ≤ s.size) (h1 : ¬ (9 ≤ s.size ∧ byt s 0 = 68)) (h2 : ¬ byt s 0 = 82) (h3 : ¬ (s.size = 4 ∧ byt s 0 = 69)) :
    Calls Try.prog 51 #[.string s] w fun e w' => GuessOut zeroM e w w' ∧ Below w.heap.size w w' := by
  unfold maxLen at hs
  have g82 : ((s[0].toNat : Int) == 82) = false := by rw [← byt_get s 0 (by omega)]; simpa using h2
  by_cases h9 : 9 ≤ s.size
  · have g68 : ((s[0].toNat : Int) == 68) = false := by rw [← byt_get s 0 (by omega)]; simpa [h9] using h1
    clear h1 h2 h3
    go_enter Try.func51, Try.ntmps51
    go_wp2
    all_goals
      refine bodyPost_ret (v := mV 0 0 0 0 0 ⟨#[]⟩ none 0 0 0) (by simp [results, Try.results51, go_sem]) rfl ?_
      exact ⟨zero_out _ _ _ _ _ _ _ _ _, (((Below.refl _ _).alloc (Nat.le_refl _) _).alloc (by simp) _)⟩
  · have h9' : (s.size : Int) < 9 := by omega
    by_cases h5 : s.size = 4
    · have g69 : ((s[0].toNat : Int) == 69) = false := by rw [← byt_get s 0 (by omega)]; simpa [h5] using h3
      have hi : (s.size : Int) = 4 := by omega
      clear h1 h2 h3 h9 h9'
      go_enter Try.func51, Try.ntmps51
      go_wp2
      all_goals
        refine bodyPost_ret (v := mV 0 0 0 0 0 ⟨#[]⟩ none 0 0 0) (by simp [results, Try.results51, go_sem]) rfl ?_
        exact ⟨zero_out _ _ _ _ _ _ _ _ _, (((Below.refl _ _).alloc (Nat.le_refl _) _).alloc (by simp) _)⟩
    · have h5' : (((s.size : Int) - 2) == 2) = false := by simp; omega
      clear h1 h2 h3 h9 h5
      go_enter Try.func51, Try.ntmps51
      go_wp2
      all_goals
        refine bodyPost_ret (v := mV 0 0 0 0 0 ⟨#[]⟩ none 0 0 0) (by simp [results, Try.results51, go_sem]) rfl ?_
        exact ⟨zero_out _ _ _ _ _ _ _ _ _, (((Below.refl _ _).alloc (Nat.le_refl _) _).alloc (by simp) _)⟩
end Ms
end Go.Proofs.Ytkgnmcekeeannaa
