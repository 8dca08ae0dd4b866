import Derived.Test.YtkgnmcekeeannaaZ34
import Derived.Test.YtkgnmcekeeannaaZ31
namespace Go.Proofs.Ytkgnmcekeeannaa
open Go.RowKit Go.Deep
namespace Ms
open Bs
set_option linter.unusedVariables false

set_option maxRecDepth 100000 in
set_option maxHeartbeats 4000000 in
theorem lanGuess (s : ByteArray) (w : World) (hs : s.size ≤ 1048576) :
    Calls Try.prog 72 #[.string s] w fun e w' => GuessOut (gLan s) e w w' ∧ Below w.heap.size w w' := by
  by_cases h4 : s.size < 4
  · have hi : (s.size : Int) < 4 := by omega
    have HG : Hid (gLan s = zeroM) := by unfold Hid gLan; rw [if_pos h4]
    go_enter Try.func72, Try.ntmps72
    go_wp2
    refine bodyPost_ret (v := mV 0 0 0 0 0 ⟨#[]⟩ none 0 0 0) (by simp [results, Try.results72, go_sem]) rfl ?_
    exact ⟨by rw [HG.out]; exact zero_out _ _ _ _ _ _ _ _ _, (Below.refl _ _).alloc (Nat.le_refl _) _⟩
  · have h4' : 4 ≤ s.size := by omega
    have hi : (4 : Int) ≤ (s.size : Int) := by omega
    obtain ⟨d, hd⟩ : ∃ d, d = s.extract 0 (s.size - 2) := ⟨_, rfl⟩
    have hdz : d.size = s.size - 2 := by rw [hd]; exact body_size s h4'
    have hdb : ∀ i, i < s.size - 2 → byt d i = byt s i := fun i hi => by rw [hd]; exact body_byt s i hi
    have hss : ∀ W', (Instr.slice 9 (.string s) none (some (.int .i64 ((s.size : Int) - 2))) none).run Try.prog W' = .ok (.string d) W' := fun W' => by
      rw [hd]
      have h := run_slice_string_to_if (P := Try.prog) W' 9 s .i64 ((s.size : Int) - 2) Try.underlying9
      rw [if_pos (by omega)] at h
      rw [show ((s.size : Int) - 2).toNat = s.size - 2 from by omega] at h
      exact h
    have d0 : 0 < d.size := by omega
    have d1 : 1 < d.size := by omega
    have d1' : (1 : Int) < (d.size : Int) := by omega
    have d0' : (0 : Int) < (d.size : Int) := by omega
    have g0 : byt s 0 = (d[0].toNat : Int) := by rw [← hdb 0 (by omega), byt_get d 0 d0]
    have hdm : d.size ≤ maxLen := by unfold maxLen; omega
    obtain ⟨N, hN⟩ : ∃ N, N = w.heap.size := ⟨_, rfl⟩
    have hN' : w.heap.size = N := hN.symm
    have hz : (w.alloc (mBox 0 0 0 0 0 ⟨#[]⟩ none 0 0 0)).heap.size = N + 1 := by simp; omega
    have B0 : Below N w (w.alloc (mBox 0 0 0 0 0 ⟨#[]⟩ none 0 0 0)) := by rw [hN]; exact (Below.refl _ _).alloc (Nat.le_refl _) _
    have P0 : (w.alloc (mBox 0 0 0 0 0 ⟨#[]⟩ none 0 0 0)).rowIs N 38 8 (mRow 0 0 0 0 0 ⟨#[]⟩ (.slice none 0 0) 0) := mRow_new hN _ _ _ _ _ _ _ _
    have FIN : ∀ w1, Below (N + 1) (w.alloc (mBox 0 0 0 0 0 ⟨#[]⟩ none 0 0 0)) w1 → w1.rowIs N 38 8 (mRow 0 0 0 0 0 ⟨#[]⟩ (.slice none 0 0) 0) ∧ ∀ v0 v1 v2 v3 v4 v5 v6 v7, Below N w ((((((((w1.setCell ⟨N, 0, none⟩ v0).setCell ⟨N, 1, none⟩ v1).setCell ⟨N, 2, none⟩ v2).setCell ⟨N, 3, none⟩ v3).setCell ⟨N, 4, none⟩ v4).setCell ⟨N, 5, none⟩ v5).setCell ⟨N, 6, none⟩ v6).setCell ⟨N, 7, none⟩ v7) := fun w1 hb1 =>
      have B3 : Below N w w1 := B0.trans (hb1.mono (by omega))
      ⟨P0.of_block (hb1.block N (by omega)), fun v0 v1 v2 v3 v4 v5 v6 v7 =>
      (((((((B3.setCell (Nat.le_refl _) _).setCell (Nat.le_refl _) _).setCell (Nat.le_refl _) _).setCell (Nat.le_refl _) _).setCell (Nat.le_refl _) _).setCell (Nat.le_refl _) _).setCell (Nat.le_refl _) _).setCell (Nat.le_refl _) _⟩
    have HF : Hid (∀ w1, Below (N + 1) (w.alloc (mBox 0 0 0 0 0 ⟨#[]⟩ none 0 0 0)) w1 → w1.rowIs N 38 8 (mRow 0 0 0 0 0 ⟨#[]⟩ (.slice none 0 0) 0) ∧ ∀ v0 v1 v2 v3 v4 v5 v6 v7, Below N w ((((((((w1.setCell ⟨N, 0, none⟩ v0).setCell ⟨N, 1, none⟩ v1).setCell ⟨N, 2, none⟩ v2).setCell ⟨N, 3, none⟩ v3).setCell ⟨N, 4, none⟩ v4).setCell ⟨N, 5, none⟩ v5).setCell ⟨N, 6, none⟩ v6).setCell ⟨N, 7, none⟩ v7)) := FIN
    by_cases c68 : byt s 0 = 68
    · have t68 : ((d[0].toNat : Int) == 68) = true := by rw [← g0, c68]; rfl
      by_cases h8 : s.size < 8
      · have HG : Hid (gLan s = zeroM) := by unfold Hid gLan; rw [if_neg h4, if_pos c68, if_pos h8]
        have HI := dataIn_no d (w.alloc (mBox 0 0 0 0 0 ⟨#[]⟩ none 0 0 0)) (by omega)
        rw [hz] at HI
        rw [hN']
        clear hN FIN P0 B0 hz c68 g0 hdb hd
        go_enter Try.func72, Try.ntmps72
        go_wp2_with fail
        refine HI.mono ?_
        rintro e w1 ⟨rfl, hb1⟩
        obtain ⟨R3, hB8⟩ := HF.out w1 hb1
        clear HI hb1
        have y0 : w1.cell? ⟨N, 0, none⟩ = some (.int .i64 0) := R3.cell (by decide)
        have y1 : w1.cell? ⟨N, 1, none⟩ = some (.int .i64 0) := R3.cell (by decide)
        have y2 : w1.cell? ⟨N, 2, none⟩ = some (.int .i64 0) := R3.cell (by decide)
        have y3 : w1.cell? ⟨N, 3, none⟩ = some (.int .i64 0) := R3.cell (by decide)
        have y4 : w1.cell? ⟨N, 4, none⟩ = some (.int .i64 0) := R3.cell (by decide)
        have y5 : w1.cell? ⟨N, 5, none⟩ = some (.string ⟨#[]⟩) := R3.cell (by decide)
        have y6 : w1.cell? ⟨N, 6, none⟩ = some (.slice none 0 0) := R3.cell (by decide)
        have y7 : w1.cell? ⟨N, 7, none⟩ = some (.int .i64 0) := R3.cell (by decide)
        have f0 := R3.frozen 0
        have f1 := R3.frozen 1
        have f2 := R3.frozen 2
        have f3 := R3.frozen 3
        have f4 := R3.frozen 4
        have f5 := R3.frozen 5
        have f6 := R3.frozen 6
        have f7 := R3.frozen 7
        have HB8 := hB8
        clear R3 hB8
        go_wp2
        refine bodyPost_ret (v := mV 0 0 0 0 0 ⟨#[]⟩ none 0 0 0) (by simp [results, Try.results72, go_sem, y0, y1, y2, y3, y4, y5, y6, y7]) rfl ?_
        exact ⟨by rw [HG.out]; exact zero_out _ _ _ _ _ _ _ _ _, HB8 _ _ _ _ _ _ _ _⟩
      · have HG : Hid (gLan s = gData s) := by unfold Hid gLan; rw [if_neg h4, if_pos c68, if_neg h8]
        have HI := dataIn_ok d (w.alloc (mBox 0 0 0 0 0 ⟨#[]⟩ none 0 0 0)) hdm (by omega)
        rw [hz, hdb 1 (by omega), hdb 2 (by omega), hdb 3 (by omega), hdb 4 (by omega), hdb 5 (by omega)] at HI
        have hex : d.extract 6 d.size = s.extract 6 (s.size - 2) := by rw [hd]; exact body_extract s (by omega)
        rw [hex] at HI
        rw [hN']
        clear hN FIN P0 B0 hz c68 g0 hdb hd hex
        obtain ⟨SY, hSY⟩ : ∃ SY, SY = s.extract 6 (s.size - 2) := ⟨_, rfl⟩
        have HSY : Hid (SY = s.extract 6 (s.size - 2)) := hSY
        rw [← hSY] at HI
        clear hSY
        go_enter Try.func72, Try.ntmps72
        go_wp2_with fail
        refine HI.mono ?_
        rintro e w1 ⟨rfl, hb1⟩
        obtain ⟨R3, hB8⟩ := HF.out w1 hb1
        clear HI hb1
        have y0 : w1.cell? ⟨N, 0, none⟩ = some (.int .i64 0) := R3.cell (by decide)
        have y1 : w1.cell? ⟨N, 1, none⟩ = some (.int .i64 0) := R3.cell (by decide)
        have y2 : w1.cell? ⟨N, 2, none⟩ = some (.int .i64 0) := R3.cell (by decide)
        have y3 : w1.cell? ⟨N, 3, none⟩ = some (.int .i64 0) := R3.cell (by decide)
        have y4 : w1.cell? ⟨N, 4, none⟩ = some (.int .i64 0) := R3.cell (by decide)
        have y5 : w1.cell? ⟨N, 5, none⟩ = some (.string ⟨#[]⟩) := R3.cell (by decide)
        have y6 : w1.cell? ⟨N, 6, none⟩ = some (.slice none 0 0) := R3.cell (by decide)
        have y7 : w1.cell? ⟨N, 7, none⟩ = some (.int .i64 0) := R3.cell (by decide)
        have f0 := R3.frozen 0
        have f1 := R3.frozen 1
        have f2 := R3.frozen 2
        have f3 := R3.frozen 3
        have f4 := R3.frozen 4
        have f5 := R3.frozen 5
        have f6 := R3.frozen 6
        have f7 := R3.frozen 7
        have HB8 := hB8
        clear R3 hB8
        go_wp2
        refine bodyPost_ret (v := mV 1 (byt s 1) (byt s 2) (byt s 3) (byt s 4 * 256 + byt s 5) SY none 0 0 0) (by simp [results, Try.results72, go_sem, y0, y1, y2, y3, y4, y5, y6, y7]) rfl ?_
        exact ⟨by rw [HG.out, HSY.out]; exact zero_out _ _ _ _ _ _ _ _ _, HB8 _ _ _ _ _ _ _ _⟩
    · have t68 : ((d[0].toNat : Int) == 68) = false := by rw [← g0]; simpa using c68
      by_cases c82 : byt s 0 = 82
      · have t82 : ((d[0].toNat : Int) == 82) = true := by rw [← g0, c82]; rfl
        have HG : Hid (gLan s = gReq s (min 8 ((s.size - 4) / 3))) := by unfold Hid gLan; rw [if_neg h4, if_neg c68, if_pos c82]
        have HI := itemsIn_any d (w.alloc (mBox 0 0 0 0 0 ⟨#[]⟩ none 0 0 0)) hdm (by omega)
        obtain ⟨K, hK⟩ : ∃ K, K = min 8 ((s.size - 4) / 3) := ⟨_, rfl⟩
        have hK' : min 8 ((d.size - 2) / 3) = K := by rw [hK, hdz]; omega
        have hic : icells (gItem d) K = icells (gItem s) K := icells_congr (fun i hi => by
          have hb : 2 + 3 * i + 2 < s.size - 2 := by omega
          unfold gItem
          rw [hdb _ (by omega), hdb _ (by omega), hdb _ (by omega)])
        rw [hz, hK', hic] at HI
        rw [← hK] at HG
        rw [hN']
        clear hN FIN P0 B0 hz c68 g0 hdb hd hic hK hK'
        go_enter Try.func72, Try.ntmps72
        go_wp2_with fail
        refine HI.mono ?_
        rintro e w1 ⟨ao, cap, rfl, hown, hb1⟩
        obtain ⟨R3, hB8⟩ := HF.out w1 hb1
        have HO : Hid (w1.ownsRow (N + 1) 40 3 (.slice ao K cap) K (icells (gItem s) K)) := hown
        clear HI hb1 hown
        have y0 : w1.cell? ⟨N, 0, none⟩ = some (.int .i64 0) := R3.cell (by decide)
        have y1 : w1.cell? ⟨N, 1, none⟩ = some (.int .i64 0) := R3.cell (by decide)
        have y2 : w1.cell? ⟨N, 2, none⟩ = some (.int .i64 0) := R3.cell (by decide)
        have y3 : w1.cell? ⟨N, 3, none⟩ = some (.int .i64 0) := R3.cell (by decide)
        have y4 : w1.cell? ⟨N, 4, none⟩ = some (.int .i64 0) := R3.cell (by decide)
        have y5 : w1.cell? ⟨N, 5, none⟩ = some (.string ⟨#[]⟩) := R3.cell (by decide)
        have y6 : w1.cell? ⟨N, 6, none⟩ = some (.slice none 0 0) := R3.cell (by decide)
        have y7 : w1.cell? ⟨N, 7, none⟩ = some (.int .i64 0) := R3.cell (by decide)
        have f0 := R3.frozen 0
        have f1 := R3.frozen 1
        have f2 := R3.frozen 2
        have f3 := R3.frozen 3
        have f4 := R3.frozen 4
        have f5 := R3.frozen 5
        have f6 := R3.frozen 6
        have f7 := R3.frozen 7
        have HB8 := hB8
        clear R3 hB8
        go_wp2
        refine bodyPost_ret (v := mV 2 0 0 0 0 ⟨#[]⟩ ao K cap 0) (by simp [results, Try.results72, go_sem, y0, y1, y2, y3, y4, y5, y6, y7]) rfl ?_
        refine ⟨?_, HB8 _ _ _ _ _ _ _ _⟩
        rw [HG.out]
        refine ⟨ao, cap, ?_, ?_⟩
        · show _ = Ending.returned (mV 2 0 0 0 0 ⟨#[]⟩ ao (gItems s K).length cap 0)
          rw [gItems_length]
        · simp only [gReq, gItems_length]
          rw [icells_congr (itF_gItems s K), hN']
          have hne : (Value.slice ao K cap).ownBlock ≠ some N := fun e => by have := (HO.out.lt _ e).1; omega
          exact owns_mono (owns_setCell (owns_setCell (owns_setCell (owns_setCell (owns_setCell (owns_setCell (owns_setCell (owns_setCell HO.out hne) hne) hne) hne) hne) hne) hne) hne) (show N ≤ N + 1 by omega)
      · have t82 : ((d[0].toNat : Int) == 82) = false := by rw [← g0]; simpa using c82
        by_cases c69 : byt s 0 = 69
        · have t69 : ((d[0].toNat : Int) == 69) = true := by rw [← g0, c69]; rfl
          have HG : Hid (gLan s = gEnd s) := by unfold Hid gLan; rw [if_neg h4, if_neg c68, if_neg c82, if_pos c69]
          have w1 : wrap64 (d[1].toNat : Int) = byt s 1 := by rw [wrap_byt d 1 d1]; exact hdb 1 (by omega)
          clear FIN HF P0 B0 hz c68 c82 c69 g0 hdb hd hN'
          go_enter Try.func72, Try.ntmps72
          go_wp2
          refine bodyPost_ret (v := mV 3 0 0 0 0 ⟨#[]⟩ none 0 0 (byt s 1)) (by simp [results, Try.results72, go_sem]) rfl ?_
          exact ⟨by rw [HG.out]; exact zero_out _ _ _ _ _ _ _ _ _, (Below.refl _ _).alloc (Nat.le_refl _) _⟩
        · have t69 : ((d[0].toNat : Int) == 69) = false := by rw [← g0]; simpa using c69
          have HG : Hid (gLan s = zeroM) := by unfold Hid gLan; rw [if_neg h4, if_neg c68, if_neg c82, if_neg c69]
          clear FIN HF P0 B0 hz c68 c82 c69 g0 hdb hd hN'
          go_enter Try.func72, Try.ntmps72
          go_wp2
          refine bodyPost_ret (v := mV 0 0 0 0 0 ⟨#[]⟩ none 0 0 0) (by simp [results, Try.results72, go_sem]) rfl ?_
          exact ⟨by rw [HG.out]; exact zero_out _ _ _ _ _ _ _ _ _, (Below.refl _ _).alloc (Nat.le_refl _) _⟩
end Ms
end Go.Proofs.Ytkgnmcekeeannaa
namespace Go.Proofs.Ytkgnmcekeeannaa
open Go.RowKit Go.Deep
namespace Ms
open Bs
set_option linter.unusedVariables false

set_option maxRecDepth 100000 in
set_option maxHeartbeats 4000000 in
theorem mRead (s : ByteArray) (w : World) (hs : s.size ≤ 1048576) :
    Calls Try.prog 50 #[.string s] w fun e w' => ReadOut s e w w' ∧ Below w.heap.size w w' := by
  obtain ⟨N, hN⟩ : ∃ N, N = w.heap.size := ⟨_, rfl⟩
  have HG := lanGuess s (w.alloc (mBox 0 0 0 0 0 ⟨#[]⟩ none 0 0 0)) hs
  have hgs : (gLan s).sym.size ≤ maxLen := by have := gLan_sym s; unfold maxLen; omega
  have B0 : Below N w (w.alloc (mBox 0 0 0 0 0 ⟨#[]⟩ none 0 0 0)) := by rw [hN]; exact (Below.refl _ _).alloc (Nat.le_refl _) _
  have P0 : (w.alloc (mBox 0 0 0 0 0 ⟨#[]⟩ none 0 0 0)).rowIs N 38 8 (mRow 0 0 0 0 0 ⟨#[]⟩ (.slice none 0 0) 0) := mRow_new hN _ _ _ _ _ _ _ _
  have HTG : Hid (∀ m, Tells s m → gLan s = m) := fun m h => tells_lan h
  have hN' : w.heap.size = N := hN.symm
  unfold ReadOut
  rw [hN']
  clear hN
  go_enter Try.func50, Try.ntmps50
  go_wp2_with fail
  refine HG.mono ?_
  rintro e w1 ⟨⟨ao, cap, rfl, hown⟩, hb1⟩
  clear HG
  have hz : (w.alloc (mBox 0 0 0 0 0 ⟨#[]⟩ none 0 0 0)).heap.size = N + 1 := by simp; omega
  rw [hz] at hown hb1
  have R1 := P0.of_block (hb1.block N (by omega))
  have B1 : Below N w w1 := B0.trans (hb1.mono (by omega))
  have z1 : N + 1 ≤ w1.heap.size := by have := hb1.size; omega
  have HOWN : Hid (w1.ownsRow (N + 1) 40 3 (.slice ao (gLan s).items.length cap) (gLan s).items.length (icells (itF (gLan s).items) (gLan s).items.length)) := hown
  have hn := owns_len hown
  clear P0 B0 hz hb1 hown
  generalize gLan s = g at *
  have B2 : Below N w (w1.alloc (mBox g.kind g.obj g.blk g.num g.len g.sym ao g.items.length cap g.objs)) := B1.alloc (by omega) _
  have R2 := R1.of_block (Below.heap_alloc w1 (mBox g.kind g.obj g.blk g.num g.len g.sym ao g.items.length cap g.objs) N (by omega))
  have O2 : Hid ((w1.alloc (mBox g.kind g.obj g.blk g.num g.len g.sym ao g.items.length cap g.objs)).ownsRow (N + 1) 40 3 (.slice ao g.items.length cap) g.items.length (icells (itF g.items) g.items.length)) := HOWN.out.alloc _
  have HW := mWrite g ao cap (w1.alloc (mBox g.kind g.obj g.blk g.num g.len g.sym ao g.items.length cap g.objs)) hn hgs (owns_items O2.out)
  have RB : (w1.alloc (mBox g.kind g.obj g.blk g.num g.len g.sym ao g.items.length cap g.objs)).rowIs w1.heap.size 38 8 (mRow g.kind g.obj g.blk g.num g.len g.sym (.slice ao g.items.length cap) g.objs) := mRow_new rfl _ _ _ _ _ _ _ _
  have z2 : (w1.alloc (mBox g.kind g.obj g.blk g.num g.len g.sym ao g.items.length cap g.objs)).heap.size = w1.heap.size + 1 := by simp
  clear HOWN R1 B1
  go_wp2_with fail
  refine HW.mono ?_
  rintro e w3 ⟨ho, hb3⟩
  have R3 := R2.of_block (hb3.block N (by omega))
  have RB3 := RB.of_block (hb3.block w1.heap.size (by omega))
  have O3 : Hid (w3.ownsRow (N + 1) 40 3 (.slice ao g.items.length cap) g.items.length (icells (itF g.items) g.items.length)) := owns_below O2.out hb3
  have B3 : Below N w w3 := B2.trans (hb3.mono (by omega))
  clear HW R2 RB O2 B2 hb3 z2
  have y0 : w3.cell? ⟨N, 0, none⟩ = some (.int .i64 0) := R3.cell (by decide)
  have y1 : w3.cell? ⟨N, 1, none⟩ = some (.int .i64 0) := R3.cell (by decide)
  have y2 : w3.cell? ⟨N, 2, none⟩ = some (.int .i64 0) := R3.cell (by decide)
  have y3 : w3.cell? ⟨N, 3, none⟩ = some (.int .i64 0) := R3.cell (by decide)
  have y4 : w3.cell? ⟨N, 4, none⟩ = some (.int .i64 0) := R3.cell (by decide)
  have y5 : w3.cell? ⟨N, 5, none⟩ = some (.string ⟨#[]⟩) := R3.cell (by decide)
  have y6 : w3.cell? ⟨N, 6, none⟩ = some (.slice none 0 0) := R3.cell (by decide)
  have y7 : w3.cell? ⟨N, 7, none⟩ = some (.int .i64 0) := R3.cell (by decide)
  have f0 := R3.frozen 0
  have f1 := R3.frozen 1
  have f2 := R3.frozen 2
  have f3 := R3.frozen 3
  have f4 := R3.frozen 4
  have f5 := R3.frozen 5
  have f6 := R3.frozen 6
  have f7 := R3.frozen 7
  have x0 : w3.cell? ⟨w1.heap.size, 0, none⟩ = some (.int .i64 g.kind) := RB3.cell (by decide)
  have x1 : w3.cell? ⟨w1.heap.size, 1, none⟩ = some (.int .i64 g.obj) := RB3.cell (by decide)
  have x2 : w3.cell? ⟨w1.heap.size, 2, none⟩ = some (.int .i64 g.blk) := RB3.cell (by decide)
  have x3 : w3.cell? ⟨w1.heap.size, 3, none⟩ = some (.int .i64 g.num) := RB3.cell (by decide)
  have x4 : w3.cell? ⟨w1.heap.size, 4, none⟩ = some (.int .i64 g.len) := RB3.cell (by decide)
  have x5 : w3.cell? ⟨w1.heap.size, 5, none⟩ = some (.string g.sym) := RB3.cell (by decide)
  have x6 : w3.cell? ⟨w1.heap.size, 6, none⟩ = some (.slice ao g.items.length cap) := RB3.cell (by decide)
  have x7 : w3.cell? ⟨w1.heap.size, 7, none⟩ = some (.int .i64 g.objs) := RB3.cell (by decide)
  have B8 : ∀ v0 v1 v2 v3 v4 v5 v6 v7, Below N w ((((((((w3.setCell ⟨N, 0, none⟩ v0).setCell ⟨N, 1, none⟩ v1).setCell ⟨N, 2, none⟩ v2).setCell ⟨N, 3, none⟩ v3).setCell ⟨N, 4, none⟩ v4).setCell ⟨N, 5, none⟩ v5).setCell ⟨N, 6, none⟩ v6).setCell ⟨N, 7, none⟩ v7) := fun v0 v1 v2 v3 v4 v5 v6 v7 =>
    (((((((B3.setCell (Nat.le_refl _) _).setCell (Nat.le_refl _) _).setCell (Nat.le_refl _) _).setCell (Nat.le_refl _) _).setCell (Nat.le_refl _) _).setCell (Nat.le_refl _) _).setCell (Nat.le_refl _) _).setCell (Nat.le_refl _) _
  have HB8 : Hid (∀ v0 v1 v2 v3 v4 v5 v6 v7, Below N w ((((((((w3.setCell ⟨N, 0, none⟩ v0).setCell ⟨N, 1, none⟩ v1).setCell ⟨N, 2, none⟩ v2).setCell ⟨N, 3, none⟩ v3).setCell ⟨N, 4, none⟩ v4).setCell ⟨N, 5, none⟩ v5).setCell ⟨N, 6, none⟩ v6).setCell ⟨N, 7, none⟩ v7)) := B8
  clear R3 RB3 B8 B3
  rcases ho with ⟨hok, rfl⟩ | ⟨hno, rfl⟩
  · have HOK : Hid (ok g) := hok
    clear hok
    by_cases ht : s.data.toList = text g
    · have HT : Hid (s = txt (text g)) := by unfold Hid; rw [← ht]; rfl
      have HTE : Hid (s.data.toList = text g) := ht
      have tt : ((txt (text g)).toList == s.toList) = true := by rw [← HT.out]; simp
      clear ht
      generalize txt (text g) = T at *
      go_wp2
      refine bodyPost_ret (v := .tuple #[mVm g ao cap, .int .i64 0]) (by simp [results, Try.results50, go_sem, y0, y1, y2, y3, y4, y5, y6, y7]) rfl ?_
      have hne : (Value.slice ao g.items.length cap).ownBlock ≠ some N := fun e => by have := (O3.out.lt _ e).1; omega
      exact ⟨.inl ⟨g, ao, cap, ⟨HOK.out, HTE.out⟩, rfl, owns_mono (owns_setCell (owns_setCell (owns_setCell (owns_setCell (owns_setCell (owns_setCell (owns_setCell (owns_setCell O3.out hne) hne) hne) hne) hne) hne) hne) hne) (show N ≤ N + 1 by omega)⟩, HB8.out _ _ _ _ _ _ _ _⟩
    · have HN : Hid (∀ m, ¬ Tells s m) := fun m h => by have e := HTG.out m h; rw [e] at ht; exact ht h.2
      have tt : ((txt (text g)).toList == s.toList) = false := by
        rw [beq_eq_false_iff_ne]
        intro e
        rw [ByteArray.toList_eq, ByteArray.toList_eq, txt_data] at e
        exact ht e.symm
      clear ht
      generalize txt (text g) = T at *
      go_wp2
      refine bodyPost_ret (v := .tuple #[mV 0 0 0 0 0 ⟨#[]⟩ none 0 0 0, .int .i64 6]) (by simp [results, Try.results50, go_sem, y0, y1, y2, y3, y4, y5, y6, y7]) rfl ?_
      exact ⟨.inr ⟨HN.out, rfl⟩, HB8.out _ _ _ _ _ _ _ _⟩
  · have HN : Hid (∀ m, ¬ Tells s m) := fun m h => by have e := HTG.out m h; rw [e] at hno; exact hno h.1
    clear hno
    go_wp2
    refine bodyPost_ret (v := .tuple #[mV 0 0 0 0 0 ⟨#[]⟩ none 0 0 0, .int .i64 6]) (by simp [results, Try.results50, go_sem, y0, y1, y2, y3, y4, y5, y6, y7]) rfl ?_
    exact ⟨.inr ⟨HN.out, rfl⟩, HB8.out _ _ _ _ _ _ _ _⟩
end Ms
end Go.Proofs.Ytkgnmcekeeannaa
