import Derived.Test.YtkgnmcekeeannaaGreatY16
import Derived.Test.YtkgnmcekeeannaaGreatY14
namespace Go.Proofs.YtkgnmcekeeannaaGreat
open Go.RowKit Go.Deep
namespace Ms
open Bs
set_option linter.unusedVariables false

set_option maxRecDepth 100000 in
set_option maxHeartbeats 8000000 in
theorem guess_req (s : ByteArray) (w : World) (hs : s.size ≤ 1048576) (h4 : 4 ≤ s.size) (h0 : byt s 0 = 82) :
    Calls Tryz.prog 64 #[.string s] w fun e w' => GuessOut (gReq s ((s.size - 4) / 3)) e w w' ∧ Below w.heap.size w w' := by
  obtain ⟨i0, hi, hz0, hz1, hz2⟩ := info_parts3 infoItem
  have g68 : ((s[0].toNat : Int) == 68) = false := by rw [← byt_get s 0 (by omega), h0]; rfl
  have g82 : ((s[0].toNat : Int) == 82) = true := by rw [← byt_get s 0 (by omega), h0]; rfl
  clear h0
  obtain ⟨N, hN⟩ : ∃ N, N = w.heap.size := ⟨_, rfl⟩
  obtain ⟨K, hK⟩ : ∃ K, K = (s.size - 4) / 3 := ⟨_, rfl⟩
  have hK1 : 2 + 3 * K + 2 ≤ s.size := by omega
  have hK2 : s.size < 2 + 3 * (K + 1) + 2 := by omega
  have HKK : Hid (K = (s.size - 4) / 3) := hK
  rw [← hK]
  clear hK
  have hN' : w.heap.size = N := hN.symm
  have P0 : Hid ((w.alloc (mBox 0 0 0 0 0 ⟨#[]⟩ none 0 0 0)).rowIs N 99 8 (mRow 0 0 0 0 0 ⟨#[]⟩ (.slice none 0 0) 0)) := mRow_new hN _ _ _ _ _ _ _ _
  have P1 : Hid (((w.alloc (mBox 0 0 0 0 0 ⟨#[]⟩ none 0 0 0)).alloc (mBox 2 0 0 0 0 ⟨#[]⟩ none 0 0 0)).rowIs (N + 1) 99 8 (mRow 2 0 0 0 0 ⟨#[]⟩ (.slice none 0 0) 0)) := mRow_new (by simp; omega) _ _ _ _ _ _ _ _
  have P2 : Hid (((w.alloc (mBox 0 0 0 0 0 ⟨#[]⟩ none 0 0 0)).alloc (mBox 2 0 0 0 0 ⟨#[]⟩ none 0 0 0)).rowIs N 99 8 (mRow 0 0 0 0 0 ⟨#[]⟩ (.slice none 0 0) 0)) :=
    P0.out.of_block (Below.heap_alloc _ _ N (by simp; omega))
  have B0 : Below N w ((w.alloc (mBox 0 0 0 0 0 ⟨#[]⟩ none 0 0 0)).alloc (mBox 2 0 0 0 0 ⟨#[]⟩ none 0 0 0)) := by rw [hN]; exact ((Below.refl _ _).alloc (Nat.le_refl _) _).alloc (by simp) _
  have Z0 : N + 2 ≤ ((w.alloc (mBox 0 0 0 0 0 ⟨#[]⟩ none 0 0 0)).alloc (mBox 2 0 0 0 0 ⟨#[]⟩ none 0 0 0)).heap.size := by simp; omega
  unfold GuessOut
  rw [hN']
  clear hN P0
  go_enter Tryz.func64, Tryz.ntmps64
  go_upto_region 3 with fail
  go_cut [9] (fun x wx => x = .bool false ∧ wx = (w.alloc (mBox 0 0 0 0 0 ⟨#[]⟩ none 0 0 0)).alloc (mBox 0 0 0 0 0 ⟨#[]⟩ none 0 0 0))
  case first =>
    clear P1 P2 B0 Z0
    by_cases h9 : 9 ≤ s.size
    · go_wp2
      go_meet
      exact ⟨rfl, rfl⟩
    · have h9' : (s.size : Int) < 9 := by omega
      clear h9
      go_wp2
      go_meet
      exact ⟨rfl, rfl⟩
  case rest =>
    obtain ⟨rfl, rfl⟩ := hcut
    go_wp2
    go_loopw [5] (fun x wr => ∃ (k p : Nat) (ao : Option Addr) (cap : Nat), k ≤ K ∧ p = 2 + 3 * k ∧ x = .int .i64 p ∧ wr.ownsRow (N + 2) 103 3 (.slice ao k cap) k (icells (gItem s) k) ∧ wr.rowIs (N + 1) 99 8 (mRow 2 0 0 0 0 ⟨#[]⟩ (.slice ao k cap) 0) ∧ wr.rowIs N 99 8 (mRow 0 0 0 0 0 ⟨#[]⟩ (.slice none 0 0) 0) ∧ Below N w wr) (fun x _ => s.size - (intOf x).toNat)
    case atStart => exact ⟨0, 2, none, 0, Nat.zero_le _, rfl, rfl, World.ownsRow_nil _ _ _ _, P1.out, P2.out, B0⟩
    case round =>
      clear P1 P2 B0 Z0
      obtain ⟨k, p, ao, cap, hk, hp, rfl, hown, R1, R0, hB⟩ := hrel
      have HP : Hid (p = 2 + 3 * k) := hp
      have zs : N + 2 ≤ wr.heap.size := R1.lt
      by_cases hlt : k < K
      · have b0 : p < s.size := by omega
        have b1 : p + 1 < s.size := by omega
        have b2 : p + 2 < s.size := by omega
        have b3 : (p : Int) + 3 ≤ (s.size : Int) - 2 := by omega
        have b4 : p ≤ 1048576 := by omega
        have kK : k ≤ 1048576 := by omega
        have c6 : wr.cell? ⟨N + 1, 6, none⟩ = some (.slice ao k cap) := R1.cell (by decide)
        have hnb : (Value.slice ao k cap).ownBlock ≠ some (N + 1) := fun e => by have := (hown.lt _ e).1; omega
        have hnb0 : (Value.slice ao k cap).ownBlock ≠ some N := fun e => by have := (hown.lt _ e).1; omega
        have HLT : Hid (k < K) := hlt
        clear hp hlt
        obtain ⟨A, hA⟩ : ∃ A, A = byt s p := ⟨_, rfl⟩
        obtain ⟨A', hA'⟩ : ∃ A, A = byt s (p + 1) := ⟨_, rfl⟩
        obtain ⟨A'', hA''⟩ : ∃ A, A = byt s (p + 2) := ⟨_, rfl⟩
        have HL : Hid (icells (gItem s) k ++ [.int .i64 A, .int .i64 A', .int .i64 A''] = icells (gItem s) (k + 1)) := by
          unfold Hid
          rw [icells_succ, hA, hA', hA'', HP.out]; rfl
        have q0 : wrap64 (s[p].toNat : Int) = A := by rw [hA]; exact wrap_byt s p b0
        obtain ⟨p1, hp1⟩ : ∃ q, q = p + 1 := ⟨_, rfl⟩
        obtain ⟨p2, hp2⟩ : ∃ q, q = p + 2 := ⟨_, rfl⟩
        have e1 : IntKind.i64.wrap ((p : Int) + 1) = (p1 : Int) := by rw [hp1]; exact IntWalk.i64_in _ ⟨by omega, by omega⟩
        have e2 : IntKind.i64.wrap ((p : Int) + 2) = (p2 : Int) := by rw [hp2]; exact IntWalk.i64_in _ ⟨by omega, by omega⟩
        rw [← hp1] at hA' b1
        rw [← hp2] at hA'' b2
        have q1 : wrap64 (s[p1].toNat : Int) = A' := by rw [hA']; exact wrap_byt s p1 b1
        have q2 : wrap64 (s[p2].toNat : Int) = A'' := by rw [hA'']; exact wrap_byt s p2 b2
        have q3 : IntKind.i64.wrap (s[p].toNat : Int) = A := by rw [hA]; exact wrapk_byt s p b0
        have q4 : IntKind.i64.wrap (s[p1].toNat : Int) = A' := by rw [hA']; exact wrapk_byt s p1 b1
        have q5 : IntKind.i64.wrap (s[p2].toNat : Int) = A'' := by rw [hA'']; exact wrapk_byt s p2 b2
        clear hp1 hp2
        have OWN : Hid (wr.ownsRow (N + 2) 103 3 (.slice ao k cap) k (icells (gItem s) k)) := hown
        have HR1 : Hid (wr.rowIs (N + 1) 99 8 (mRow 2 0 0 0 0 ⟨#[]⟩ (.slice ao k cap) 0)) := R1
        clear hA hA' hA'' hown R1
        generalize icells (gItem s) k = XS at *
        go_wp2_with fail
        refine wp_region_any (by kernel_rfl) ?_
        change wpAny _ _ _ _ _ _ _ (World.drew wr)
        obtain ⟨wd, hwd⟩ : ∃ wd, wd = wr.drew := ⟨_, rfl⟩
        have c6d : wd.cell? ⟨N + 1, 6, none⟩ = some (.slice ao k cap) := by rw [hwd]; exact c6
        have OWND : Hid (wd.ownsRow (N + 2) 103 3 (.slice ao k cap) k XS) := by unfold Hid; rw [hwd]; exact OWN.out
        have HR1D : Hid (wd.rowIs (N + 1) 99 8 (mRow 2 0 0 0 0 ⟨#[]⟩ (.slice ao k cap) 0)) := by unfold Hid; rw [hwd]; exact HR1.out
        have R0D : Hid (wd.rowIs N 99 8 (mRow 0 0 0 0 0 ⟨#[]⟩ (.slice none 0 0) 0)) := by unfold Hid; rw [hwd]; exact R0
        have hBD : Below N w wd := by rw [hwd]; exact hB.drew
        have zsD : N + 2 ≤ wd.heap.size := by rw [hwd]; exact zs
        simp only [← hwd]
        clear hwd OWN HR1 R0 hB zs c6
        refine wpAny_take (i := 0) (v := .pointer (some ⟨N + 1, 6, none⟩)) rfl (by kernel_rfl) (by kernel_rfl) (by kernel_rfl) (fun _ _ _ h => h) (Or.inl ⟨by rfl, by intro w; go_simp⟩) ?_
        refine wpAny_take (i := 2) (v := .string s) rfl (by kernel_rfl) (by kernel_rfl) (by kernel_rfl) (fun _ _ _ h => h) (Or.inl ⟨by rfl, by intro w; go_simp⟩) ?_
        refine wpAny_take (i := 3) (v := .int .i64 p) rfl (by kernel_rfl) (by kernel_rfl) (by kernel_rfl) (fun _ _ _ h => h) (Or.inl ⟨by rfl, by intro w; go_simp⟩) ?_
        refine wpAny_take (i := 4) (v := .int .u8 s[p].toNat) rfl (by kernel_rfl) (by kernel_rfl) (by kernel_rfl) (fun _ _ _ h => h) (Or.inl ⟨by rfl, by intro w; go_simp⟩) ?_
        refine wpAny_take (i := 5) (v := .int .i64 A) rfl (by kernel_rfl) (by kernel_rfl) (by kernel_rfl) (fun _ _ _ h => h) (Or.inl ⟨by rfl, by intro w; go_simp⟩) ?_
        refine wpAny_take (i := 6) (v := .string s) rfl (by kernel_rfl) (by kernel_rfl) (by kernel_rfl) (fun _ _ _ h => h) (Or.inl ⟨by rfl, by intro w; go_simp⟩) ?_
        refine wpAny_take (i := 7) (v := .int .i64 p) rfl (by kernel_rfl) (by kernel_rfl) (by kernel_rfl) (fun _ _ _ h => h) (Or.inl ⟨by rfl, by intro w; go_simp⟩) ?_
        refine wpAny_take (i := 8) (v := .int .i64 p1) rfl (by kernel_rfl) (by kernel_rfl) (by kernel_rfl) (fun _ _ _ h => h) (Or.inl ⟨by rfl, by intro w; go_simp⟩) ?_
        refine wpAny_take (i := 9) (v := .int .u8 s[p1].toNat) rfl (by kernel_rfl) (by kernel_rfl) (by kernel_rfl) (fun _ _ _ h => h) (Or.inl ⟨by rfl, by intro w; go_simp⟩) ?_
        refine wpAny_take (i := 10) (v := .int .i64 A') rfl (by kernel_rfl) (by kernel_rfl) (by kernel_rfl) (fun _ _ _ h => h) (Or.inl ⟨by rfl, by intro w; go_simp⟩) ?_
        refine wpAny_take (i := 11) (v := .string s) rfl (by kernel_rfl) (by kernel_rfl) (by kernel_rfl) (fun _ _ _ h => h) (Or.inl ⟨by rfl, by intro w; go_simp⟩) ?_
        refine wpAny_take (i := 12) (v := .int .i64 p) rfl (by kernel_rfl) (by kernel_rfl) (by kernel_rfl) (fun _ _ _ h => h) (Or.inl ⟨by rfl, by intro w; go_simp⟩) ?_
        refine wpAny_take (i := 13) (v := .int .i64 p2) rfl (by kernel_rfl) (by kernel_rfl) (by kernel_rfl) (fun _ _ _ h => h) (Or.inl ⟨by rfl, by intro w; go_simp⟩) ?_
        refine wpAny_take (i := 14) (v := .int .u8 s[p2].toNat) rfl (by kernel_rfl) (by kernel_rfl) (by kernel_rfl) (fun _ _ _ h => h) (Or.inl ⟨by rfl, by intro w; go_simp⟩) ?_
        refine wpAny_take (i := 15) (v := .int .i64 A'') rfl (by kernel_rfl) (by kernel_rfl) (by kernel_rfl) (fun _ _ _ h => h) (Or.inl ⟨by rfl, by intro w; go_simp⟩) ?_
        refine wpAny_take (i := 16) (v := .agg #[.int .i64 A, .int .i64 A', .int .i64 A'']) rfl (by kernel_rfl) (by kernel_rfl) (by kernel_rfl) (fun _ _ _ h => h) (Or.inl ⟨by rfl, by intro w; go_simp⟩) ?_
        have c6a : (wd.alloc (.cells #[.int .i64 A, .int .i64 A', .int .i64 A''] 103)).cell? ⟨N + 1, 6, none⟩ = some (.slice ao k cap) := cell_old (by omega) c6d
        refine wpAny_ready (rs := [1, 17]) (by kernel_rfl) (by simp) ?_
        refine AllReady.cons rfl (fun K hK => ?ord1) (AllReady.cons rfl (fun K hK => ?ord2) AllReady.nil)
        case' ord1 =>
          go_simp
          refine hK _ _ ?_
          clear hK K
          refine wpAny_ready (rs := [17]) (by kernel_rfl) (by simp) ?_
          refine AllReady.cons rfl (fun K hK => ?_) AllReady.nil
          go_simp
          refine hK _ _ ?_
          clear hK K
        case' ord2 =>
          go_simp
          refine hK _ _ ?_
          clear hK K
          refine wpAny_ready (rs := [1]) (by kernel_rfl) (by simp) ?_
          refine AllReady.cons rfl (fun K hK => ?_) AllReady.nil
          go_simp
          refine hK _ _ ?_
          clear hK K
        all_goals
          refine wpAny_ready (rs := [18]) (by kernel_rfl) (by simp) ?_
          refine AllReady.cons rfl (fun K hK => ?_) AllReady.nil
          refine step_append_at rfl (.tmp 59) (.tmp 75) 97 rfl (N + 2) 103 i0 (.agg #[.int .i64 0, .int .i64 0, .int .i64 0]) 3 24 Tryz.underlying97 hi hz0 hz1 hz2 rfl (by decide) (.slice ao k cap) k XS rfl (OWND.out.alloc (.cells #[.int .i64 A, .int .i64 A', .int .i64 A''] 103)) ⟨wd.heap.size, 0, none⟩ 1 1 [.int .i64 A, .int .i64 A', .int .i64 A''] rfl rfl news3 (by intro u hu; simp at hu; rcases hu with rfl | rfl | rfl <;> rfl) (by unfold maxLen; omega) (by omega) (by simp; omega) ?_
          intro v' w1 hown' hgrow hat
          obtain ⟨ao2, cap2, rfl⟩ := owns_form hown'
          have blk : ∀ b, b < wd.heap.size → (Value.slice ao k cap).ownBlock ≠ some b → w1.heap[b]? = wd.heap[b]? := fun b hb hne => (hgrow.block b (by simp; omega) (fun e => hne e.symm)).trans (Below.heap_alloc wd _ b hb)
          have R1' := HR1D.out.of_block (blk (N + 1) (by omega) hnb)
          have R0' := (R0D.out.of_block (blk N (by omega) hnb0)).setOther (a := ⟨N + 1, 6, none⟩) (by show N ≠ N + 1; omega) (.slice ao2 (k + 1) cap2)
          have c6' : w1.cell? ⟨N + 1, 6, none⟩ = some (.slice ao k cap) := R1'.cell (by decide)
          have f6' := R1'.frozen 6
          have B1 : Below N w (w1.setCell ⟨N + 1, 6, none⟩ (.slice ao2 (k + 1) cap2)) := ((hBD.alloc (by omega) _).grown hgrow (by simp; omega) (fun b hb => by have := (OWND.out.lt b hb).1; omega)).setCell (by show N ≤ N + 1; omega) _
          have R1'' := (R1'.set 6 (.slice ao2 (k + 1) cap2)).congr (fun j hj => mRow_set 2 0 0 0 0 ⟨#[]⟩ (.slice ao k cap) (.slice ao2 (k + 1) cap2) 0 j hj)
          have O1 := owns_setCell (b := N + 1) (i := 6) (x := .slice ao2 (k + 1) cap2) hown' (fun e => by have := (hown'.lt _ e).1; omega)
          rw [HL.out] at O1
          have HH : Hid (w1.setCell ⟨N + 1, 6, none⟩ (.slice ao2 (k + 1) cap2) |>.rowIs (N + 1) 99 8 (mRow 2 0 0 0 0 ⟨#[]⟩ (.slice ao2 (k + 1) cap2) 0)) := R1''
          have HO : Hid ((w1.setCell ⟨N + 1, 6, none⟩ (.slice ao2 (k + 1) cap2)).ownsRow (N + 2) 103 3 (.slice ao2 (k + 1) cap2) (k + 1) (icells (gItem s) (k + 1))) := O1
          have HR0 : Hid ((w1.setCell ⟨N + 1, 6, none⟩ (.slice ao2 (k + 1) cap2)).rowIs N 99 8 (mRow 0 0 0 0 0 ⟨#[]⟩ (.slice none 0 0) 0)) := R0'
          clear R1' R1'' R0' O1 blk hgrow hown' hat OWND HR1D R0D hBD c6d c6a
          refine hK _ _ ?_
          clear hK K
          refine wpAny_take (i := 19) (v := .pointer (some ⟨N + 1, 6, none⟩)) rfl (by kernel_rfl) (by kernel_rfl) (by kernel_rfl) (fun _ _ _ h => h) (Or.inl ⟨by rfl, by intro w; go_simp⟩) ?_
          refine wpAny_ready (rs := [20]) (by kernel_rfl) (by simp) ?_
          refine AllReady.cons rfl (fun K hK => ?_) AllReady.nil
          go_simp
          refine hK _ _ ?_
          clear hK K
          refine wpAny_done (by kernel_rfl) ?_ _
          go_wp2
          go_roundw
          case rel => exact ⟨k + 1, p + 3, ao2, cap2, HLT.out, by rw [HP.out]; omega, by go_num, HO.out, HH.out, HR0.out, B1⟩
          case measure => simp [intOf]; omega
      · obtain rfl : k = K := by omega
        have HOWN : Hid (wr.ownsRow (N + 2) 103 3 (.slice ao k cap) k (icells (gItem s) k)) := hown
        have x0 : wr.cell? ⟨N + 1, 0, none⟩ = some (.int .i64 2) := R1.cell (by decide)
        have x1 : wr.cell? ⟨N + 1, 1, none⟩ = some (.int .i64 0) := R1.cell (by decide)
        have x2 : wr.cell? ⟨N + 1, 2, none⟩ = some (.int .i64 0) := R1.cell (by decide)
        have x3 : wr.cell? ⟨N + 1, 3, none⟩ = some (.int .i64 0) := R1.cell (by decide)
        have x4 : wr.cell? ⟨N + 1, 4, none⟩ = some (.int .i64 0) := R1.cell (by decide)
        have x5 : wr.cell? ⟨N + 1, 5, none⟩ = some (.string ⟨#[]⟩) := R1.cell (by decide)
        have x6 : wr.cell? ⟨N + 1, 6, none⟩ = some (.slice ao k cap) := R1.cell (by decide)
        have x7 : wr.cell? ⟨N + 1, 7, none⟩ = some (.int .i64 0) := R1.cell (by decide)
        have y0 : wr.cell? ⟨N, 0, none⟩ = some (.int .i64 0) := R0.cell (by decide)
        have y1 : wr.cell? ⟨N, 1, none⟩ = some (.int .i64 0) := R0.cell (by decide)
        have y2 : wr.cell? ⟨N, 2, none⟩ = some (.int .i64 0) := R0.cell (by decide)
        have y3 : wr.cell? ⟨N, 3, none⟩ = some (.int .i64 0) := R0.cell (by decide)
        have y4 : wr.cell? ⟨N, 4, none⟩ = some (.int .i64 0) := R0.cell (by decide)
        have y5 : wr.cell? ⟨N, 5, none⟩ = some (.string ⟨#[]⟩) := R0.cell (by decide)
        have y6 : wr.cell? ⟨N, 6, none⟩ = some (.slice none 0 0) := R0.cell (by decide)
        have y7 : wr.cell? ⟨N, 7, none⟩ = some (.int .i64 0) := R0.cell (by decide)
        have f0 := R0.frozen 0
        have f1 := R0.frozen 1
        have f2 := R0.frozen 2
        have f3 := R0.frozen 3
        have f4 := R0.frozen 4
        have f5 := R0.frozen 5
        have f6 := R0.frozen 6
        have f7 := R0.frozen 7
        clear hown R1 R0
        go_wp2
        refine bodyPost_ret (v := mV 2 0 0 0 0 ⟨#[]⟩ ao k cap 0) (by simp [results, Tryz.results64, go_sem, y0, y1, y2, y3, y4, y5, y6, y7]) rfl ?_
        refine ⟨⟨ao, cap, ?_, ?_⟩, ?_⟩
        · show _ = Ending.returned (mV 2 0 0 0 0 ⟨#[]⟩ ao (gItems s k).length cap 0)
          rw [gItems_length]
        · simp only [gReq, gItems_length]
          rw [icells_congr (itF_gItems s k)]
          refine owns_mono ?_ (show N ≤ N + 2 by omega)
          have hne : (Value.slice ao k cap).ownBlock ≠ some N := fun e => by have := (HOWN.out.lt _ e).1; omega
          exact owns_setCell (owns_setCell (owns_setCell (owns_setCell (owns_setCell (owns_setCell (owns_setCell (owns_setCell HOWN.out hne) hne) hne) hne) hne) hne) hne) hne
        · exact (((((((hB.setCell (Nat.le_refl _) _).setCell (Nat.le_refl _) _).setCell (Nat.le_refl _) _).setCell (Nat.le_refl _) _).setCell (Nat.le_refl _) _).setCell (Nat.le_refl _) _).setCell (Nat.le_refl _) _).setCell (Nat.le_refl _) _
end Ms
end Go.Proofs.YtkgnmcekeeannaaGreat
namespace Go.Proofs.YtkgnmcekeeannaaGreat
open Go.RowKit Go.Deep
namespace Ms
open Bs
set_option linter.unusedVariables false

theorem refGuess (s : ByteArray) (w : World) (hs : s.size ≤ 1048576) :
    Calls Tryz.prog 64 #[.string s] w fun e w' => GuessOut (gRef s) e w w' ∧ Below w.heap.size w w' := by
  have hm : s.size ≤ maxLen := by unfold maxLen; omega
  unfold gRef
  by_cases h1 : 9 ≤ s.size ∧ byt s 0 = 68
  · rw [if_pos h1]; exact guess_data s w hm h1.1 h1.2
  · rw [if_neg h1]
    by_cases h2 : 4 ≤ s.size ∧ byt s 0 = 82
    · rw [if_pos h2]; exact guess_req s w hs h2.1 h2.2
    · rw [if_neg h2]
      by_cases h3 : s.size = 4 ∧ byt s 0 = 69
      · rw [if_pos h3]; exact guess_end s w h3.1 h3.2
      · rw [if_neg h3]
        by_cases h4 : 4 ≤ s.size
        · exact guess_other s w hm h4 h1 (fun e => h2 ⟨h4, e⟩) h3
        · exact guess_small s w (by omega)
end Ms
end Go.Proofs.YtkgnmcekeeannaaGreat
namespace Go.Proofs.YtkgnmcekeeannaaGreat
open Go.RowKit Go.Deep
namespace Ms
open Bs
set_option linter.unusedVariables false

set_option maxRecDepth 100000 in
set_option maxHeartbeats 4000000 in
theorem refRead (s : ByteArray) (w : World) (hs : s.size ≤ 1048576) :
    Calls Tryz.prog 43 #[.string s] w fun e w' => ReadOut s e w w' ∧ Below w.heap.size w w' := by
  obtain ⟨N, hN⟩ : ∃ N, N = w.heap.size := ⟨_, rfl⟩
  have HG := refGuess s (w.alloc (mBox 0 0 0 0 0 ⟨#[]⟩ none 0 0 0)) hs
  have hgs : (gRef s).sym.size ≤ maxLen := by have := gRef_sym s; unfold maxLen; omega
  have B0 : Below N w (w.alloc (mBox 0 0 0 0 0 ⟨#[]⟩ none 0 0 0)) := by rw [hN]; exact (Below.refl _ _).alloc (Nat.le_refl _) _
  have P0 : (w.alloc (mBox 0 0 0 0 0 ⟨#[]⟩ none 0 0 0)).rowIs N 99 8 (mRow 0 0 0 0 0 ⟨#[]⟩ (.slice none 0 0) 0) := mRow_new hN _ _ _ _ _ _ _ _
  have HTG : Hid (∀ m, Tells s m → gRef s = m) := fun m h => tells_ref h
  have hN' : w.heap.size = N := hN.symm
  unfold ReadOut
  rw [hN']
  clear hN
  go_enter Tryz.func43, Tryz.ntmps43
  go_wp2_with fail
  refine HG.mono ?_
  rintro e w1 ⟨⟨ao, cap, rfl, hown⟩, hb1⟩
  clear HG
  have hz : (w.alloc (mBox 0 0 0 0 0 ⟨#[]⟩ none 0 0 0)).heap.size = N + 1 := by simp; omega
  rw [hz] at hown hb1
  have R1 := P0.of_block (hb1.block N (by omega))
  have B1 : Below N w w1 := B0.trans (hb1.mono (by omega))
  have z1 : N + 1 ≤ w1.heap.size := by have := hb1.size; omega
  have HOWN : Hid (w1.ownsRow (N + 1) 103 3 (.slice ao (gRef s).items.length cap) (gRef s).items.length (icells (itF (gRef s).items) (gRef s).items.length)) := hown
  have hn := owns_len hown
  clear P0 B0 hz hb1 hown
  generalize gRef s = g at *
  have B2 : Below N w (w1.alloc (mBox g.kind g.obj g.blk g.num g.len g.sym ao g.items.length cap g.objs)) := B1.alloc (by omega) _
  have R2 := R1.of_block (Below.heap_alloc w1 (mBox g.kind g.obj g.blk g.num g.len g.sym ao g.items.length cap g.objs) N (by omega))
  have O2 : Hid ((w1.alloc (mBox g.kind g.obj g.blk g.num g.len g.sym ao g.items.length cap g.objs)).ownsRow (N + 1) 103 3 (.slice ao g.items.length cap) g.items.length (icells (itF g.items) g.items.length)) := HOWN.out.alloc _
  have HW := refWrite g ao cap (w1.alloc (mBox g.kind g.obj g.blk g.num g.len g.sym ao g.items.length cap g.objs)) hn hgs (owns_items O2.out)
  have RB : (w1.alloc (mBox g.kind g.obj g.blk g.num g.len g.sym ao g.items.length cap g.objs)).rowIs w1.heap.size 99 8 (mRow g.kind g.obj g.blk g.num g.len g.sym (.slice ao g.items.length cap) g.objs) := mRow_new rfl _ _ _ _ _ _ _ _
  have z2 : (w1.alloc (mBox g.kind g.obj g.blk g.num g.len g.sym ao g.items.length cap g.objs)).heap.size = w1.heap.size + 1 := by simp
  clear HOWN R1 B1
  go_wp2_with fail
  refine HW.mono ?_
  rintro e w3 ⟨ho, hb3⟩
  have R3 := R2.of_block (hb3.block N (by omega))
  have RB3 := RB.of_block (hb3.block w1.heap.size (by omega))
  have O3 : Hid (w3.ownsRow (N + 1) 103 3 (.slice ao g.items.length cap) g.items.length (icells (itF g.items) g.items.length)) := owns_below O2.out hb3
  have B3 : Below N w w3 := B2.trans (hb3.mono (by omega))
  clear HW R2 RB O2 B2 hb3 z2
  have y0 : w3.cell? ⟨N, 0, none⟩ = some (.int .i64 0) := R3.cell (by decide)
  have y1 : w3.cell? ⟨N, 1, none⟩ = some (.int .i64 0) := R3.cell (by decide)
  have y2 : w3.cell? ⟨N, 2, none⟩ = some (.int .i64 0) := R3.cell (by decide)
  have y3 : w3.cell? ⟨N, 3, none⟩ = some (.int .i64 0) := R3.cell (by decide)
  have y4 : w3.cell? ⟨N, 4, none⟩ = some (.int .i64 0) := R3.cell (by decide)
  have y5 : w3.cell? ⟨N, 5, none⟩ = some (.string ⟨#[]⟩) := R3.cell (by decide)
  have y6 : w3.cell? ⟨N, 6, none⟩ = some (.slice none 0 0) := R3.cell (by decide)
  have y7 : w3.cell? ⟨N, 7, none⟩ = some (.int .i64 0) := R3.cell (by decide)
  have f0 := R3.frozen 0
  have f1 := R3.frozen 1
  have f2 := R3.frozen 2
  have f3 := R3.frozen 3
  have f4 := R3.frozen 4
  have f5 := R3.frozen 5
  have f6 := R3.frozen 6
  have f7 := R3.frozen 7
  have x0 : w3.cell? ⟨w1.heap.size, 0, none⟩ = some (.int .i64 g.kind) := RB3.cell (by decide)
  have x1 : w3.cell? ⟨w1.heap.size, 1, none⟩ = some (.int .i64 g.obj) := RB3.cell (by decide)
  have x2 : w3.cell? ⟨w1.heap.size, 2, none⟩ = some (.int .i64 g.blk) := RB3.cell (by decide)
  have x3 : w3.cell? ⟨w1.heap.size, 3, none⟩ = some (.int .i64 g.num) := RB3.cell (by decide)
  have x4 : w3.cell? ⟨w1.heap.size, 4, none⟩ = some (.int .i64 g.len) := RB3.cell (by decide)
  have x5 : w3.cell? ⟨w1.heap.size, 5, none⟩ = some (.string g.sym) := RB3.cell (by decide)
  have x6 : w3.cell? ⟨w1.heap.size, 6, none⟩ = some (.slice ao g.items.length cap) := RB3.cell (by decide)
  have x7 : w3.cell? ⟨w1.heap.size, 7, none⟩ = some (.int .i64 g.objs) := RB3.cell (by decide)
  have B8 : ∀ v0 v1 v2 v3 v4 v5 v6 v7, Below N w ((((((((w3.setCell ⟨N, 0, none⟩ v0).setCell ⟨N, 1, none⟩ v1).setCell ⟨N, 2, none⟩ v2).setCell ⟨N, 3, none⟩ v3).setCell ⟨N, 4, none⟩ v4).setCell ⟨N, 5, none⟩ v5).setCell ⟨N, 6, none⟩ v6).setCell ⟨N, 7, none⟩ v7) := fun v0 v1 v2 v3 v4 v5 v6 v7 =>
    (((((((B3.setCell (Nat.le_refl _) _).setCell (Nat.le_refl _) _).setCell (Nat.le_refl _) _).setCell (Nat.le_refl _) _).setCell (Nat.le_refl _) _).setCell (Nat.le_refl _) _).setCell (Nat.le_refl _) _).setCell (Nat.le_refl _) _
  have HB8 : Hid (∀ v0 v1 v2 v3 v4 v5 v6 v7, Below N w ((((((((w3.setCell ⟨N, 0, none⟩ v0).setCell ⟨N, 1, none⟩ v1).setCell ⟨N, 2, none⟩ v2).setCell ⟨N, 3, none⟩ v3).setCell ⟨N, 4, none⟩ v4).setCell ⟨N, 5, none⟩ v5).setCell ⟨N, 6, none⟩ v6).setCell ⟨N, 7, none⟩ v7)) := B8
  clear R3 RB3 B8 B3
  rcases ho with ⟨hok, rfl⟩ | ⟨hno, rfl⟩
  · have HOK : Hid (ok g) := hok
    clear hok
    by_cases ht : s.data.toList = text g
    · have HT : Hid (s = txt (text g)) := by unfold Hid; rw [← ht]; rfl
      have HTE : Hid (s.data.toList = text g) := ht
      have tt : ((txt (text g)).toList == s.toList) = true := by rw [← HT.out]; simp
      clear ht
      generalize txt (text g) = T at *
      go_wp2
      refine bodyPost_ret (v := .tuple #[mVm g ao cap, .int .i64 0]) (by simp [results, Tryz.results43, go_sem, y0, y1, y2, y3, y4, y5, y6, y7]) rfl ?_
      have hne : (Value.slice ao g.items.length cap).ownBlock ≠ some N := fun e => by have := (O3.out.lt _ e).1; omega
      exact ⟨.inl ⟨g, ao, cap, ⟨HOK.out, HTE.out⟩, rfl, owns_mono (owns_setCell (owns_setCell (owns_setCell (owns_setCell (owns_setCell (owns_setCell (owns_setCell (owns_setCell O3.out hne) hne) hne) hne) hne) hne) hne) hne) (show N ≤ N + 1 by omega)⟩, HB8.out _ _ _ _ _ _ _ _⟩
    · have HN : Hid (∀ m, ¬ Tells s m) := fun m h => by have e := HTG.out m h; rw [e] at ht; exact ht h.2
      have tt : ((txt (text g)).toList == s.toList) = false := by
        rw [beq_eq_false_iff_ne]
        intro e
        rw [ByteArray.toList_eq, ByteArray.toList_eq, txt_data] at e
        exact ht e.symm
      clear ht
      generalize txt (text g) = T at *
      go_wp2
      refine bodyPost_ret (v := .tuple #[mV 0 0 0 0 0 ⟨#[]⟩ none 0 0 0, .int .i64 6]) (by simp [results, Tryz.results43, go_sem, y0, y1, y2, y3, y4, y5, y6, y7]) rfl ?_
      exact ⟨.inr ⟨HN.out, rfl⟩, HB8.out _ _ _ _ _ _ _ _⟩
  · have HN : Hid (∀ m, ¬ Tells s m) := fun m h => by have e := HTG.out m h; rw [e] at hno; exact hno h.1
    clear hno
    go_wp2
    refine bodyPost_ret (v := .tuple #[mV 0 0 0 0 0 ⟨#[]⟩ none 0 0 0, .int .i64 6]) (by simp [results, Tryz.results43, go_sem, y0, y1, y2, y3, y4, y5, y6, y7]) rfl ?_
    exact ⟨.inr ⟨HN.out, rfl⟩, HB8.out _ _ _ _ _ _ _ _⟩
end Ms
end Go.Proofs.YtkgnmcekeeannaaGreat
namespace Go.Proofs.YtkgnmcekeeannaaGreat
open Go.RowKit Go.Deep
namespace Sn
open Bs
open Ms (txt text ok M It mV mVm mBox mRow mRow_new itF itOK ItemsAt Tells ReadOut refRead owns_setCell owns_items icells)
set_option linter.unusedVariables false

theorem least_or_none (l : List Db) : (∃ i, i < l.length ∧ (∀ j, j < i → (l.getD j ⟨0, 0, 0, 0⟩).owes = 0) ∧ 0 < (l.getD i ⟨0, 0, 0, 0⟩).owes) ∨ ∀ j, j < l.length → (l.getD j ⟨0, 0, 0, 0⟩).owes = 0 := by
  have key : ∀ n, n ≤ l.length → (∃ i, i < n ∧ (∀ j, j < i → (l.getD j ⟨0, 0, 0, 0⟩).owes = 0) ∧ 0 < (l.getD i ⟨0, 0, 0, 0⟩).owes) ∨ ∀ j, j < n → (l.getD j ⟨0, 0, 0, 0⟩).owes = 0 := by
    intro n
    induction n with
    | zero => intro _; exact .inr (fun j hj => by omega)
    | succ n ih =>
      intro hn
      rcases ih (by omega) with ⟨i, h1, h2⟩ | h
      · exact .inl ⟨i, by omega, h2⟩
      · by_cases e : (l.getD n ⟨0, 0, 0, 0⟩).owes = 0
        · exact .inr (fun j hj => by
            by_cases e2 : j = n
            · rw [e2]; exact e
            · exact h j (by omega))
        · exact .inl ⟨n, by omega, h, by omega⟩
  exact key l.length (Nat.le_refl _)
theorem refNext (s : St) (P : Nat) (F : Nat → Prop) (w : World) (hs : SOk2 s) (hA : SndAt w P s F) :
    Calls Tryz.prog 22 #[.pointer (some ⟨P, 0, none⟩)] w fun e w' => e = .returned (.string (nxt s).2) ∧ SndAt w' P (nxt s).1 (grow F w w') ∧ Touch w w' F := by
  obtain ⟨ao, co, ad, cd, hI⟩ := hA
  rcases least_or_none s.debts with ⟨i, h1, h2, h3⟩ | h
  · rw [nxt_owed (owing_some h1 h2 h3)]
    exact next_owed s P F w hs ao co ad cd i h1 h2 h3 hI
  · rw [nxt_rest (owing_none h)]
    exact next_rest s P F w hs ao co ad cd h hI

/-! ### Hear -/
def mixD (f : Db → Db) (l : List Db) (i : Nat) : List Db := (l.take i).map f ++ l.drop i
theorem mixD_zero (f : Db → Db) (l : List Db) : mixD f l 0 = l := by simp [mixD]
theorem mixD_all (f : Db → Db) (l : List Db) : mixD f l l.length = l.map f := by simp [mixD]
theorem mixD_length (f : Db → Db) (l : List Db) (i : Nat) (h : i ≤ l.length) : (mixD f l i).length = l.length := by simp [mixD]; omega
theorem mixD_at (f : Db → Db) (l : List Db) (i : Nat) (h : i < l.length) (d0 : Db) : (mixD f l i).getD i d0 = l.getD i d0 := by
  have e : (List.map f (List.take i l)).length = i := by simp; omega
  rw [mixD, List.getD_eq_getElem?_getD, List.getD_eq_getElem?_getD, List.getElem?_append_right (by omega), e, Nat.sub_self, List.getElem?_drop, Nat.add_zero]
theorem mixD_succ (f : Db → Db) (l : List Db) (i : Nat) (h : i < l.length) (d0 : Db) : (mixD f l i).set i (f (l.getD i d0)) = mixD f l (i + 1) := by
  have e : (List.map f (List.take i l)).length = i := by simp; omega
  have hg : l.getD i d0 = l[i] := by simp [List.getD_eq_getElem?_getD, h]
  rw [hg]
  unfold mixD
  rw [List.set_append, if_neg (by omega), e, Nat.sub_self, List.drop_eq_getElem_cons h, List.set_cons_zero, List.take_succ_eq_append_getElem h, List.map_append, List.append_assoc]
  rfl
theorem mixD_same (f : Db → Db) (l : List Db) (i : Nat) (h : i < l.length) (d0 : Db) (hf : f (l.getD i d0) = l.getD i d0) : mixD f l (i + 1) = mixD f l i := by
  rw [← mixD_succ f l i h d0, hf]
  have hg : (mixD f l i).getD i d0 = l.getD i d0 := mixD_at f l i h d0
  rw [← hg]
  have hl : i < (mixD f l i).length := by rw [mixD_length f l i (by omega)]; exact h
  apply List.ext_getElem?
  intro j
  by_cases ej : i = j
  · subst ej
    rw [List.getElem?_set_self hl]
    simp [List.getD_eq_getElem?_getD, hl]
  · rw [List.getElem?_set_ne ej]
theorem due_ob (s : St) (t : It) (d : Db) : (due s t d).o = d.o ∧ (due s t d).b = d.b := by
  unfold due
  split
  · exact ⟨rfl, rfl⟩
  · simp only []
    split <;> split <;> exact ⟨rfl, rfl⟩
/-- dues up to item j -/
def duesTo (s : St) (l : List It) (j : Nat) : List Db := (l.take j).foldl (fun ds t => ds.map (due s t)) s.debts
theorem duesTo_zero (s : St) (l : List It) : duesTo s l 0 = s.debts := rfl
theorem duesTo_all (s : St) (l : List It) : duesTo s l l.length = dues s l := by unfold duesTo dues; rw [List.take_length]
theorem duesTo_succ (s : St) (l : List It) (j : Nat) (h : j < l.length) : duesTo s l (j + 1) = (duesTo s l j).map (due s (itF l j)) := by
  have e : itF l j = l[j] := by simp [itF, List.getD_eq_getElem?_getD, h]
  unfold duesTo
  rw [List.take_succ_eq_append_getElem h, List.foldl_append, e]
  rfl
/-- the blocks are the same ones -/
def SameB (s : St) (l : List Db) : Prop := l.length = s.debts.length ∧ ∀ i, i < s.debts.length → (l.getD i ⟨0, 0, 0, 0⟩).o = (debtOf s i).o ∧ (l.getD i ⟨0, 0, 0, 0⟩).b = (debtOf s i).b
theorem SameB.map {s : St} {l : List Db} (h : SameB s l) (t : It) : SameB s (l.map (due s t)) := by
  refine ⟨by rw [List.length_map]; exact h.1, fun i hi => ?_⟩
  have hl : i < l.length := by rw [h.1]; exact hi
  have e : (l.map (due s t)).getD i ⟨0, 0, 0, 0⟩ = due s t (l.getD i ⟨0, 0, 0, 0⟩) := by simp [List.getD_eq_getElem?_getD, hl]
  rw [e, (due_ob s t _).1, (due_ob s t _).2]
  exact h.2 i hi
theorem SameB.duesTo (s : St) (l : List It) : ∀ j, j ≤ l.length → SameB s (duesTo s l j)
  | 0, _ => ⟨rfl, fun i _ => ⟨rfl, rfl⟩⟩
  | j + 1, h => by rw [duesTo_succ s l j (by omega)]; exact (SameB.duesTo s l j (by omega)).map _
end Sn
end Go.Proofs.YtkgnmcekeeannaaGreat
