import Derived.Test.YtkgnmcekeeannabRows
import Derived.Test.YtkgnmcekeeannabW53
import Derived.ProofKit
import Derived.OpenShut
import Derived.ShutString
import Derived.SizedLaws
import Derived.Deep.Slices
/-
  The lists that the law Serves takes, opened.
-/
namespace Go.Proofs.Ytkgnmcekeeannab
open Go.ChangeShapes Go.WideShapes Go.ChangeAt Go.RowKit Go.Deep
namespace Sn
open Bs
set_option linter.unusedVariables false

theorem cellsJI : Try.prog.cellsOf 3 = 1 := by kernel_rfl
theorem cellsJS : Try.prog.cellsOf 9 = 1 := by kernel_rfl
theorem bytesJI : Try.prog.bytesOf 3 = 8 := by kernel_rfl
theorem bytesJS : Try.prog.bytesOf 9 = 16 := by kernel_rfl
section
variable {H : Type} {enc : TypeId × Value → H} {w : World} {base : Nat} {spare : Nat → Bool} {held : Bool}
set_option maxRecDepth 100000 in
theorem open_strs {n : Nat} {cs : List Value} {x : DataW H × List MemPlace} (h : DataW.trod enc Try.prog w base spare held n 45 cs = some x) :
    ∃ (ao : Option Addr) (len cap : Nat) (xs : Nat → ByteArray), cs = [.slice ao len cap] ∧ StrsAt w ao len xs ∧ (∀ W', (x.1.weights Try.prog 45).all (· ≤ W') = true → len * 16 ≤ W') := by
  rcases open_slice Try.underlying45 h with ⟨hcs, hx⟩ | ⟨a, len, cap, m, k, D, Pl, hcs, hb, hl, hm, hmm, hx, hel⟩
  · exact ⟨none, 0, 0, fun _ => ⟨#[]⟩, hcs, .inl rfl, fun _ _ => by omega⟩
  · have hlm : len ≤ m := by rw [hmm]; split <;> omega
    have each : ∀ i, i < len → ∃ t : ByteArray, w.cell? (a.add i) = some (.string t) ∧ t.size ≤ maxLen := by
      intro i hi
      obtain ⟨cs', h1, h2⟩ := hel i (by omega)
      rw [cellsJS] at h1
      obtain ⟨hcl, _, hc⟩ := World.cells?_some h1
      obtain ⟨s, hs, ey, hsz⟩ := DataW.trod_string Try.underlying9 h2
      subst hs
      have c0 := hc 0 (by decide)
      rw [add_add] at c0
      exact ⟨s, by simpa using c0, hsz⟩
    have inh : Inhabited ByteArray := ⟨⟨#[]⟩⟩
    obtain ⟨xs, hxs⟩ := choose_lt each
    refine ⟨some a, len, cap, xs, hcs, ?_, ?_⟩
    · by_cases h0 : len = 0
      · exact .inl h0
      · right
        obtain ⟨b, off, spot⟩ := a
        have hspot : spot = none := by simpa [Addr.add] using World.cell?_spot (hxs 0 (by omega)).1
        subst hspot
        have hblk : b < w.heap.size := by
          have h := (hxs 0 (by omega)).1
          rw [add_eq] at h
          unfold World.cell? at h
          by_cases e : b < w.heap.size
          · exact e
          · have hn : w.heap[b]? = none := by simp; omega
            simp only [hn] at h
            cases h
        refine ⟨b, off, rfl, hblk, fun i hi => ?_⟩
        have := hxs i hi
        rw [add_eq] at this
        exact this
    · intro W' hW
      rw [hx] at hW
      simp only [DataW.weights, Try.underlying45, List.all_cons, Bool.and_eq_true, decide_eq_true_eq, List.length_map, List.length_range, bytesJS] at hW
      have := hW.1
      omega
set_option maxRecDepth 100000 in
theorem open_kints {n : Nat} {cs : List Value} {x : DataW H × List MemPlace} (h : DataW.trod enc Try.prog w base spare held n 54 cs = some x) :
    ∃ (ao : Option Addr) (len cap : Nat), cs = [.slice ao len cap] ∧ IntsAt w ao len ∧ (∀ W', (x.1.weights Try.prog 54).all (· ≤ W') = true → len * 8 ≤ W') := by
  rcases open_slice Try.underlying54 h with ⟨hcs, hx⟩ | ⟨a, len, cap, m, k, D, Pl, hcs, hb, hl, hm, hmm, hx, hel⟩
  · exact ⟨none, 0, 0, hcs, .inl rfl, fun _ _ => by omega⟩
  · have hlm : len ≤ m := by rw [hmm]; split <;> omega
    have each : ∀ i, i < len → ∃ t : Int, w.cell? (a.add i) = some (.int .i64 t) := by
      intro i hi
      obtain ⟨cs', h1, h2⟩ := hel i (by omega)
      rw [cellsJI] at h1
      obtain ⟨hcl, _, hc⟩ := World.cells?_some h1
      obtain ⟨s, hs, _⟩ := DataW.trod_int Try.underlying3 h2
      subst hs
      have c0 := hc 0 (by decide)
      rw [add_add] at c0
      exact ⟨s, by simpa using c0⟩
    refine ⟨some a, len, cap, hcs, ?_, ?_⟩
    · by_cases h0 : len = 0
      · exact .inl h0
      · right
        obtain ⟨b, off, spot⟩ := a
        obtain ⟨t0, ht0⟩ := each 0 (by omega)
        have hspot : spot = none := by simpa [Addr.add] using World.cell?_spot ht0
        subst hspot
        have hblk : b < w.heap.size := by
          have h := ht0
          rw [add_eq] at h
          unfold World.cell? at h
          by_cases e : b < w.heap.size
          · exact e
          · have hn : w.heap[b]? = none := by simp; omega
            simp only [hn] at h
            cases h
        refine ⟨b, off, rfl, hblk, fun i hi => ?_⟩
        obtain ⟨t, ht⟩ := each i hi
        rw [add_eq] at ht
        exact ⟨t, ht⟩
    · intro W' hW
      rw [hx] at hW
      simp only [DataW.weights, Try.underlying54, List.all_cons, Bool.and_eq_true, decide_eq_true_eq, List.length_map, List.length_range, bytesJI] at hW
      have := hW.1
      omega
end
end Sn
end Go.Proofs.Ytkgnmcekeeannab
