import Derived.Test.YtkgnmcekeeannabMx
import Derived.ProofKit
import Derived.OpenShut
import Derived.ShutString
import Derived.SizedLaws
import Derived.Deep.Slices
/-
  A message that came in, opened: its cells and its items.
-/
namespace Go.Proofs.Ytkgnmcekeeannab
open Go.ChangeShapes Go.WideShapes Go.ChangeAt Go.RowKit Go.Deep
namespace Ms
open Bs
set_option linter.unusedVariables false

theorem cellsItem : Try.prog.cellsOf 106 = 3 := by kernel_rfl
theorem cellsInt : Try.prog.cellsOf 3 = 1 := by kernel_rfl
theorem cellsStr : Try.prog.cellsOf 9 = 1 := by kernel_rfl
theorem cellsItems : Try.prog.cellsOf 22 = 1 := by kernel_rfl
theorem cellsMsg : Try.prog.cellsOf 24 = 8 := by kernel_rfl
theorem bytesItem : Try.prog.bytesOf 106 = 24 := by kernel_rfl

section
variable {H : Type} {enc : TypeId × Value → H} {w : World} {base : Nat} {spare : Nat → Bool} {held : Bool}

set_option maxRecDepth 100000 in
theorem open_item {n : Nat} {cs : List Value} {x : DataW H × List MemPlace} (h : DataW.trod enc Try.prog w base spare held n 106 cs = some x) : ∃ t : It, cs = [.int .i64 t.o, .int .i64 t.b, .int .i64 t.c] := by
  obtain ⟨xs, k, _, _, hl, hxl, hf⟩ := DataW.trod_struct Try.underlying106 h
  rw [cellsItem] at hl
  match cs, hl, xs, hxl with
  | [v0, v1, v2], _, [y0, y1, y2], _ =>
    have g0 := hf 0 _ rfl
    have g1 := hf 1 _ rfl
    have g2 := hf 2 _ rfl
    simp [cellsInt] at g0 g1 g2
    obtain ⟨a, ha, _⟩ := DataW.trod_int Try.underlying3 g0
    obtain ⟨b, hb, _⟩ := DataW.trod_int Try.underlying3 g1
    obtain ⟨c, hc, _⟩ := DataW.trod_int Try.underlying3 g2
    simp at ha hb hc
    exact ⟨⟨a, b, c⟩, by rw [ha, hb, hc]⟩
set_option maxRecDepth 100000 in
theorem open_items {n : Nat} {cs : List Value} {x : DataW H × List MemPlace} (h : DataW.trod enc Try.prog w base spare held n 22 cs = some x) :
    ∃ (ao : Option Addr) (len cap : Nat) (its : Nat → It), cs = [.slice ao len cap] ∧ len ≤ cap ∧ cap ≤ maxLen ∧ ItemsAt w ao len its ∧ (∀ W', (x.1.weights Try.prog 22).all (· ≤ W') = true → len * 24 ≤ W') := by
  rcases open_slice Try.underlying22 h with ⟨hcs, hx⟩ | ⟨a, len, cap, m, k, D, Pl, hcs, hb, hl, hm, hmm, hx, hel⟩
  · exact ⟨none, 0, 0, fun _ => ⟨0, 0, 0⟩, hcs, Nat.le_refl _, by decide, .inl rfl, fun _ _ => by omega⟩
  · have hlm : len ≤ m := by rw [hmm]; split <;> omega
    have each : ∀ i, i < len → ∃ t : It, w.cell? (a.add (i * 3)) = some (.int .i64 t.o) ∧ w.cell? (a.add (i * 3 + 1)) = some (.int .i64 t.b) ∧ w.cell? (a.add (i * 3 + 2)) = some (.int .i64 t.c) := by
      intro i hi
      obtain ⟨cs', h1, h2⟩ := hel i (by omega)
      rw [cellsItem] at h1
      obtain ⟨_, _, hc⟩ := World.cells?_some h1
      obtain ⟨t, rfl⟩ := open_item h2
      have c0 := hc 0 (by decide)
      have c1 := hc 1 (by decide)
      have c2 := hc 2 (by decide)
      rw [add_add] at c0 c1 c2
      exact ⟨t, by simpa using c0, by simpa using c1, by simpa using c2⟩
    have inh : Inhabited It := ⟨⟨0, 0, 0⟩⟩
    obtain ⟨its, hits⟩ := choose_lt each
    refine ⟨some a, len, cap, its, hcs, hl, hm, ?_, ?_⟩
    · by_cases h0 : len = 0
      · exact .inl h0
      · right
        obtain ⟨b, off, spot⟩ := a
        have hspot : spot = none := by simpa [Addr.add] using World.cell?_spot (hits 0 (by omega)).1
        subst hspot
        have hblk : b < w.heap.size := by
          have h := (hits 0 (by omega)).1
          rw [add_eq] at h
          unfold World.cell? at h
          by_cases e : b < w.heap.size
          · exact e
          · have hn : w.heap[b]? = none := by simp; omega
            simp only [hn] at h
            cases h
        refine ⟨b, off, rfl, hblk, fun i hi => ?_⟩
        have := hits i hi
        rw [add_eq, add_eq, add_eq] at this
        simpa [Nat.add_assoc] using this
    · intro W' hW
      rw [hx] at hW
      simp only [DataW.weights, Try.underlying22, List.all_cons, Bool.and_eq_true, decide_eq_true_eq, List.length_map, List.length_range, bytesItem] at hW
      have := hW.1
      omega
set_option maxRecDepth 100000 in
theorem open_msg {n : Nat} {cs : List Value} {x : DataW H × List MemPlace} (h : DataW.trod enc Try.prog w base spare held n 24 cs = some x) :
    ∃ (kd ob bl nu le : Int) (sy : ByteArray) (ao : Option Addr) (len cap : Nat) (its : Nat → It) (os : Int), cs = [.int .i64 kd, .int .i64 ob, .int .i64 bl, .int .i64 nu, .int .i64 le, .string sy, .slice ao len cap, .int .i64 os] ∧ sy.size ≤ maxLen ∧ len ≤ cap ∧ cap ≤ maxLen ∧ ItemsAt w ao len its ∧ (∀ W', (x.1.weights Try.prog 24).all (· ≤ W') = true → len * 24 ≤ W') := by
  obtain ⟨xs, k, _, hx, hl, hxl, hf⟩ := DataW.trod_struct Try.underlying24 h
  rw [cellsMsg] at hl
  match cs, hl, xs, hxl with
  | [v0, v1, v2, v3, v4, v5, v6, v7], _, [y0, y1, y2, y3, y4, y5, y6, y7], _ =>
    have g0 := hf 0 _ rfl
    have g1 := hf 1 _ rfl
    have g2 := hf 2 _ rfl
    have g3 := hf 3 _ rfl
    have g4 := hf 4 _ rfl
    have g5 := hf 5 _ rfl
    have g6 := hf 6 _ rfl
    have g7 := hf 7 _ rfl
    simp [cellsInt, cellsStr, cellsItems] at g0 g1 g2 g3 g4 g5 g6 g7
    obtain ⟨a0, h0, _⟩ := DataW.trod_int Try.underlying3 g0
    obtain ⟨a1, h1, _⟩ := DataW.trod_int Try.underlying3 g1
    obtain ⟨a2, h2, _⟩ := DataW.trod_int Try.underlying3 g2
    obtain ⟨a3, h3, _⟩ := DataW.trod_int Try.underlying3 g3
    obtain ⟨a4, h4, _⟩ := DataW.trod_int Try.underlying3 g4
    obtain ⟨a5, h5, _, hs⟩ := DataW.trod_string Try.underlying9 g5
    obtain ⟨ao, len, cap, its, h6, p1, p2, p3, p4⟩ := open_items g6
    obtain ⟨a7, h7, _⟩ := DataW.trod_int Try.underlying3 g7
    simp at h0 h1 h2 h3 h4 h5 h6 h7
    refine ⟨a0, a1, a2, a3, a4, a5, ao, len, cap, its, a7, by rw [h0, h1, h2, h3, h4, h5, h6, h7], hs, p1, p2, p3, fun W' hW => p4 W' ?_⟩
    rw [hx] at hW
    simp only [DataW.weights, Try.underlying24, DataW.weightsEach, List.map_cons, List.map_nil, List.all_append, Bool.and_eq_true] at hW
    exact hW.2.2.2.2.2.2.1
end
end Ms
end Go.Proofs.Ytkgnmcekeeannab
