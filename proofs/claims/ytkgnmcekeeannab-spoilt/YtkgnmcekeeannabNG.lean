import Derived.Test.YtkgnmcekeeannabNF
namespace Go.Proofs.Ytkgnmcekeeannab
open Go.RowKit Go.Deep
namespace Ms
open Bs
set_option linter.unusedVariables false

set_option maxRecDepth 100000 in
set_option maxHeartbeats 4000000 in
theorem rRead (s : ByteArray) (w : World) (hs : s.size ≤ 1048576) :
    Calls Try.prog 7 #[.string s] w fun e w' => ReadOut s e w w' ∧ Below w.heap.size w w' := by
  obtain ⟨N, hN⟩ : ∃ N, N = w.heap.size := ⟨_, rfl⟩
  have HR := mRead s (w.alloc (mBox 0 0 0 0 0 ⟨#[]⟩ none 0 0 0)) hs
  have B0 : Below N w (w.alloc (mBox 0 0 0 0 0 ⟨#[]⟩ none 0 0 0)) := by rw [hN]; exact (Below.refl _ _).alloc (Nat.le_refl _) _
  have P0 : (w.alloc (mBox 0 0 0 0 0 ⟨#[]⟩ none 0 0 0)).rowIs N 24 8 (mRow 0 0 0 0 0 ⟨#[]⟩ (.slice none 0 0) 0) := mRow_new hN _ _ _ _ _ _ _ _
  have hz : (w.alloc (mBox 0 0 0 0 0 ⟨#[]⟩ none 0 0 0)).heap.size = N + 1 := by simp; omega
  have hN' : w.heap.size = N := hN.symm
  unfold ReadOut at HR
  rw [hz] at HR
  unfold ReadOut
  rw [hN']
  clear hN
  go_enter Try.func7, Try.ntmps7
  go_wp2_with fail
  refine HR.mono ?_
  rintro e w1 ⟨ho, hb1⟩
  have R3 := P0.of_block (hb1.block N (by omega))
  have B3 : Below N w w1 := B0.trans (hb1.mono (by omega))
  have HB8 : Hid (∀ v0 v1 v2 v3 v4 v5 v6 v7, Below N w ((((((((w1.setCell ⟨N, 0, none⟩ v0).setCell ⟨N, 1, none⟩ v1).setCell ⟨N, 2, none⟩ v2).setCell ⟨N, 3, none⟩ v3).setCell ⟨N, 4, none⟩ v4).setCell ⟨N, 5, none⟩ v5).setCell ⟨N, 6, none⟩ v6).setCell ⟨N, 7, none⟩ v7)) := fun v0 v1 v2 v3 v4 v5 v6 v7 =>
    (((((((B3.setCell (Nat.le_refl _) _).setCell (Nat.le_refl _) _).setCell (Nat.le_refl _) _).setCell (Nat.le_refl _) _).setCell (Nat.le_refl _) _).setCell (Nat.le_refl _) _).setCell (Nat.le_refl _) _).setCell (Nat.le_refl _) _
  have y0 : w1.cell? ⟨N, 0, none⟩ = some (.int .i64 0) := R3.cell (by decide)
  have y1 : w1.cell? ⟨N, 1, none⟩ = some (.int .i64 0) := R3.cell (by decide)
  have y2 : w1.cell? ⟨N, 2, none⟩ = some (.int .i64 0) := R3.cell (by decide)
  have y3 : w1.cell? ⟨N, 3, none⟩ = some (.int .i64 0) := R3.cell (by decide)
  have y4 : w1.cell? ⟨N, 4, none⟩ = some (.int .i64 0) := R3.cell (by decide)
  have y5 : w1.cell? ⟨N, 5, none⟩ = some (.string ⟨#[]⟩) := R3.cell (by decide)
  have y6 : w1.cell? ⟨N, 6, none⟩ = some (.slice none 0 0) := R3.cell (by decide)
  have y7 : w1.cell? ⟨N, 7, none⟩ = some (.int .i64 0) := R3.cell (by decide)
  have f0 := R3.frozen 0
  have f1 := R3.frozen 1
  have f2 := R3.frozen 2
  have f3 := R3.frozen 3
  have f4 := R3.frozen 4
  have f5 := R3.frozen 5
  have f6 := R3.frozen 6
  have f7 := R3.frozen 7
  clear HR hb1 R3 B3 B0 P0 hz
  rcases ho with ⟨m, ao, cap, ht, rfl, hown⟩ | ⟨hno, rfl⟩
  · have HT : Hid (Tells s m) := ht
    have HO : Hid (w1.ownsRow (N + 1) 106 3 (.slice ao m.items.length cap) m.items.length (icells (itF m.items) m.items.length)) := hown
    clear ht hown
    go_wp2
    refine bodyPost_ret (v := .tuple #[mVm m ao cap, .int .i64 0]) (by simp [results, Try.results7, go_sem, y0, y1, y2, y3, y4, y5, y6, y7]) rfl ?_
    have hne : (Value.slice ao m.items.length cap).ownBlock ≠ some N := fun e => by have := (HO.out.lt _ e).1; omega
    exact ⟨.inl ⟨m, ao, cap, HT.out, rfl, owns_mono (owns_setCell (owns_setCell (owns_setCell (owns_setCell (owns_setCell (owns_setCell (owns_setCell (owns_setCell HO.out hne) hne) hne) hne) hne) hne) hne) hne) (show N ≤ N + 1 by omega)⟩, HB8.out _ _ _ _ _ _ _ _⟩
  · have HN : Hid (∀ m, ¬ Tells s m) := hno
    clear hno
    go_wp2
    refine bodyPost_ret (v := .tuple #[mV 0 0 0 0 0 ⟨#[]⟩ none 0 0 0, .int .i64 6]) (by simp [results, Try.results7, go_sem, y0, y1, y2, y3, y4, y5, y6, y7]) rfl ?_
    exact ⟨.inr ⟨HN.out, rfl⟩, HB8.out _ _ _ _ _ _ _ _⟩
end Ms
end Go.Proofs.Ytkgnmcekeeannab
