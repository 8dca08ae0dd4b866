import Derived.Test.YtkgnmcekeeannaaZ23
namespace Go.Proofs.Ytkgnmcekeeannaa
open Go.RowKit Go.Deep
namespace Ms
open Bs
set_option linter.unusedVariables false

set_option maxRecDepth 100000 in
set_option maxHeartbeats 8000000 in
theorem guess_req (s : ByteArray) (w : World) (hs : s.size ≤ 1048576) (h4 : 4 ≤ s.size) (h0 : byt s 0 = 82) :
    Calls Try.prog 51 #[.string s] w fun e w' => GuessOut (gReq s ((s.size - 4) / 3)) e w w' ∧ Below w.heap.size w w' := by
  obtain ⟨i0, hi, hz0, hz1, hz2⟩ := info_parts3 infoItem
  have g68 : ((s[0].toNat : Int) == 68) = false := by rw [← byt_get s 0 (by omega), h0]; rfl
  have g82 : ((s[0].toNat : Int) == 82) = true := by rw [← byt_get s 0 (by omega), h0]; rfl
  clear h0
  obtain ⟨N, hN⟩ : ∃ N, N = w.heap.size := ⟨_, rfl⟩
  obtain ⟨K, hK⟩ : ∃ K, K = (s.size - 4) / 3 := ⟨_, rfl⟩
  have hK1 : 2 + 3 * K + 2 ≤ s.size := by omega
  have hK2 : s.size < 2 + 3 * (K + 1) + 2 := by omega
  have HKK : Hid (K = (s.size - 4) / 3) := hK
  rw [← hK]
  clear hK
  have hN' : w.heap.size = N := hN.symm
  have P0 : Hid ((w.alloc (mBox 0 0 0 0 0 ⟨#[]⟩ none 0 0 0)).rowIs N 38 8 (mRow 0 0 0 0 0 ⟨#[]⟩ (.slice none 0 0) 0)) := mRow_new hN _ _ _ _ _ _ _ _
  have P1 : Hid (((w.alloc (mBox 0 0 0 0 0 ⟨#[]⟩ none 0 0 0)).alloc (mBox 2 0 0 0 0 ⟨#[]⟩ none 0 0 0)).rowIs (N + 1) 38 8 (mRow 2 0 0 0 0 ⟨#[]⟩ (.slice none 0 0) 0)) := mRow_new (by simp; omega) _ _ _ _ _ _ _ _
  have P2 : Hid (((w.alloc (mBox 0 0 0 0 0 ⟨#[]⟩ none 0 0 0)).alloc (mBox 2 0 0 0 0 ⟨#[]⟩ none 0 0 0)).rowIs N 38 8 (mRow 0 0 0 0 0 ⟨#[]⟩ (.slice none 0 0) 0)) :=
    P0.out.of_block (Below.heap_alloc _ _ N (by simp; omega))
  have B0 : Below N w ((w.alloc (mBox 0 0 0 0 0 ⟨#[]⟩ none 0 0 0)).alloc (mBox 2 0 0 0 0 ⟨#[]⟩ none 0 0 0)) := by rw [hN]; exact ((Below.refl _ _).alloc (Nat.le_refl _) _).alloc (by simp) _
  have Z0 : N + 2 ≤ ((w.alloc (mBox 0 0 0 0 0 ⟨#[]⟩ none 0 0 0)).alloc (mBox 2 0 0 0 0 ⟨#[]⟩ none 0 0 0)).heap.size := by simp; omega
  unfold GuessOut
  rw [hN']
  clear hN P0
  go_enter Try.func51, Try.ntmps51
  go_upto_region 3 with fail
  go_cut [9] (fun x wx => x = .bool false ∧ wx = (w.alloc (mBox 0 0 0 0 0 ⟨#[]⟩ none 0 0 0)).alloc (mBox 0 0 0 0 0 ⟨#[]⟩ none 0 0 0))
  case first =>
    clear P1 P2 B0 Z0
    by_cases h9 : 9 ≤ s.size
    · go_wp2
      go_meet
      exact ⟨rfl, rfl⟩
    · have h9' : (s.size : Int) < 9 := by omega
      clear h9
      go_wp2
      go_meet
      exact ⟨rfl, rfl⟩
  case rest =>
    obtain ⟨rfl, rfl⟩ := hcut
    go_wp2
    go_loopw [5] (fun x wr => ∃ (k p : Nat) (ao : Option Addr) (cap : Nat), k ≤ K ∧ p = 2 + 3 * k ∧ x = .int .i64 p ∧ wr.ownsRow (N + 2) 40 3 (.slice ao k cap) k (icells (gItem s) k) ∧ wr.rowIs (N + 1) 38 8 (mRow 2 0 0 0 0 ⟨#[]⟩ (.slice ao k cap) 0) ∧ wr.rowIs N 38 8 (mRow 0 0 0 0 0 ⟨#[]⟩ (.slice none 0 0) 0) ∧ Below N w wr) (fun x _ => s.size - (intOf x).toNat)
    case atStart => exact ⟨0, 2, none, 0, Nat.zero_le _, rfl, rfl, World.ownsRow_nil _ _ _ _, P1.out, P2.out, B0⟩
    case round =>
      clear P1 P2 B0 Z0
      obtain ⟨k, p, ao, cap, hk, hp, rfl, hown, R1, R0, hB⟩ := hrel
      have HP : Hid (p = 2 + 3 * k) := hp
      have zs : N + 2 ≤ wr.heap.size := R1.lt
      by_cases hlt : k < K
      · have b0 : p < s.size := by omega
        have b1 : p + 1 < s.size := by omega
        have b2 : p + 2 < s.size := by omega
        have b3 : (p : Int) + 3 ≤ (s.size : Int) - 2 := by omega
        have b4 : p ≤ 1048576 := by omega
        have kK : k ≤ 1048576 := by omega
        have c6 : wr.cell? ⟨N + 1, 6, none⟩ = some (.slice ao k cap) := R1.cell (by decide)
        have hnb : (Value.slice ao k cap).ownBlock ≠ some (N + 1) := fun e => by have := (hown.lt _ e).1; omega
        have hnb0 : (Value.slice ao k cap).ownBlock ≠ some N := fun e => by have := (hown.lt _ e).1; omega
        have HLT : Hid (k < K) := hlt
        clear hp hlt
        obtain ⟨A, hA⟩ : ∃ A, A = byt s p := ⟨_, rfl⟩
        obtain ⟨A', hA'⟩ : ∃ A, A = byt s (p + 1) := ⟨_, rfl⟩
        obtain ⟨A'', hA''⟩ : ∃ A, A = byt s (p + 2) := ⟨_, rfl⟩
        have HL : Hid (icells (gItem s) k ++ [.int .i64 A, .int .i64 A', .int .i64 A''] = icells (gItem s) (k + 1)) := by
          unfold Hid
          rw [icells_succ, hA, hA', hA'', HP.out]; rfl
        have q0 : wrap64 (s[p].toNat : Int) = A := by rw [hA]; exact wrap_byt s p b0
        obtain ⟨p1, hp1⟩ : ∃ q, q = p + 1 := ⟨_, rfl⟩
        obtain ⟨p2, hp2⟩ : ∃ q, q = p + 2 := ⟨_, rfl⟩
        have e1 : IntKind.i64.wrap ((p : Int) + 1) = (p1 : Int) := by rw [hp1]; exact IntWalk.i64_in _ ⟨by omega, by omega⟩
        have e2 : IntKind.i64.wrap ((p : Int) + 2) = (p2 : Int) := by rw [hp2]; exact IntWalk.i64_in _ ⟨by omega, by omega⟩
        rw [← hp1] at hA' b1
        rw [← hp2] at hA'' b2
        have q1 : wrap64 (s[p1].toNat : Int) = A' := by rw [hA']; exact wrap_byt s p1 b1
        have q2 : wrap64 (s[p2].toNat : Int) = A'' := by rw [hA'']; exact wrap_byt s p2 b2
        have q3 : IntKind.i64.wrap (s[p].toNat : Int) = A := by rw [hA]; exact wrapk_byt s p b0
        have q4 : IntKind.i64.wrap (s[p1].toNat : Int) = A' := by rw [hA']; exact wrapk_byt s p1 b1
        have q5 : IntKind.i64.wrap (s[p2].toNat : Int) = A'' := by rw [hA'']; exact wrapk_byt s p2 b2
        clear hp1 hp2
        have OWN : Hid (wr.ownsRow (N + 2) 40 3 (.slice ao k cap) k (icells (gItem s) k)) := hown
        have HR1 : Hid (wr.rowIs (N + 1) 38 8 (mRow 2 0 0 0 0 ⟨#[]⟩ (.slice ao k cap) 0)) := R1
        clear hA hA' hA'' hown R1
        generalize icells (gItem s) k = XS at *
        go_wp2_with fail
        refine wp_region_any (by kernel_rfl) ?_
        change wpAny _ _ _ _ _ _ _ (World.drew wr)
        obtain ⟨wd, hwd⟩ : ∃ wd, wd = wr.drew := ⟨_, rfl⟩
        have c6d : wd.cell? ⟨N + 1, 6, none⟩ = some (.slice ao k cap) := by rw [hwd]; exact c6
        have OWND : Hid (wd.ownsRow (N + 2) 40 3 (.slice ao k cap) k XS) := by unfold Hid; rw [hwd]; exact OWN.out
        have HR1D : Hid (wd.rowIs (N + 1) 38 8 (mRow 2 0 0 0 0 ⟨#[]⟩ (.slice ao k cap) 0)) := by unfold Hid; rw [hwd]; exact HR1.out
        have R0D : Hid (wd.rowIs N 38 8 (mRow 0 0 0 0 0 ⟨#[]⟩ (.slice none 0 0) 0)) := by unfold Hid; rw [hwd]; exact R0
        have hBD : Below N w wd := by rw [hwd]; exact hB.drew
        have zsD : N + 2 ≤ wd.heap.size := by rw [hwd]; exact zs
        simp only [← hwd]
        clear hwd OWN HR1 R0 hB zs c6
        refine wpAny_take (i := 0) (v := .pointer (some ⟨N + 1, 6, none⟩)) rfl (by kernel_rfl) (by kernel_rfl) (by kernel_rfl) (fun _ _ _ h => h) (Or.inl ⟨by rfl, by intro w; go_simp⟩) ?_
        refine wpAny_take (i := 2) (v := .string s) rfl (by kernel_rfl) (by kernel_rfl) (by kernel_rfl) (fun _ _ _ h => h) (Or.inl ⟨by rfl, by intro w; go_simp⟩) ?_
        refine wpAny_take (i := 3) (v := .int .i64 p) rfl (by kernel_rfl) (by kernel_rfl) (by kernel_rfl) (fun _ _ _ h => h) (Or.inl ⟨by rfl, by intro w; go_simp⟩) ?_
        refine wpAny_take (i := 4) (v := .int .u8 s[p].toNat) rfl (by kernel_rfl) (by kernel_rfl) (by kernel_rfl) (fun _ _ _ h => h) (Or.inl ⟨by rfl, by intro w; go_simp⟩) ?_
        refine wpAny_take (i := 5) (v := .int .i64 A) rfl (by kernel_rfl) (by kernel_rfl) (by kernel_rfl) (fun _ _ _ h => h) (Or.inl ⟨by rfl, by intro w; go_simp⟩) ?_
        refine wpAny_take (i := 6) (v := .string s) rfl (by kernel_rfl) (by kernel_rfl) (by kernel_rfl) (fun _ _ _ h => h) (Or.inl ⟨by rfl, by intro w; go_simp⟩) ?_
        refine wpAny_take (i := 7) (v := .int .i64 p) rfl (by kernel_rfl) (by kernel_rfl) (by kernel_rfl) (fun _ _ _ h => h) (Or.inl ⟨by rfl, by intro w; go_simp⟩) ?_
        refine wpAny_take (i := 8) (v := .int .i64 p1) rfl (by kernel_rfl) (by kernel_rfl) (by kernel_rfl) (fun _ _ _ h => h) (Or.inl ⟨by rfl, by intro w; go_simp⟩) ?_
        refine wpAny_take (i := 9) (v := .int .u8 s[p1].toNat) rfl (by kernel_rfl) (by kernel_rfl) (by kernel_rfl) (fun _ _ _ h => h) (Or.inl ⟨by rfl, by intro w; go_simp⟩) ?_
        refine wpAny_take (i := 10) (v := .int .i64 A') rfl (by kernel_rfl) (by kernel_rfl) (by kernel_rfl) (fun _ _ _ h => h) (Or.inl ⟨by rfl, by intro w; go_simp⟩) ?_
        refine wpAny_take (i := 11) (v := .string s) rfl (by kernel_rfl) (by kernel_rfl) (by kernel_rfl) (fun _ _ _ h => h) (Or.inl ⟨by rfl, by intro w; go_simp⟩) ?_
        refine wpAny_take (i := 12) (v := .int .i64 p) rfl (by kernel_rfl) (by kernel_rfl) (by kernel_rfl) (fun _ _ _ h => h) (Or.inl ⟨by rfl, by intro w; go_simp⟩) ?_
        refine wpAny_take (i := 13) (v := .int .i64 p2) rfl (by kernel_rfl) (by kernel_rfl) (by kernel_rfl) (fun _ _ _ h => h) (Or.inl ⟨by rfl, by intro w; go_simp⟩) ?_
        refine wpAny_take (i := 14) (v := .int .u8 s[p2].toNat) rfl (by kernel_rfl) (by kernel_rfl) (by kernel_rfl) (fun _ _ _ h => h) (Or.inl ⟨by rfl, by intro w; go_simp⟩) ?_
        refine wpAny_take (i := 15) (v := .int .i64 A'') rfl (by kernel_rfl) (by kernel_rfl) (by kernel_rfl) (fun _ _ _ h => h) (Or.inl ⟨by rfl, by intro w; go_simp⟩) ?_
        refine wpAny_take (i := 16) (v := .agg #[.int .i64 A, .int .i64 A', .int .i64 A'']) rfl (by kernel_rfl) (by kernel_rfl) (by kernel_rfl) (fun _ _ _ h => h) (Or.inl ⟨by rfl, by intro w; go_simp⟩) ?_
        have c6a : (wd.alloc (.cells #[.int .i64 A, .int .i64 A', .int .i64 A''] 40)).cell? ⟨N + 1, 6, none⟩ = some (.slice ao k cap) := cell_old (by omega) c6d
        refine wpAny_ready (rs := [1, 17]) (by kernel_rfl) (by simp) ?_
        refine AllReady.cons rfl (fun K hK => ?ord1) (AllReady.cons rfl (fun K hK => ?ord2) AllReady.nil)
        case' ord1 =>
          go_simp
          refine hK _ _ ?_
          clear hK K
          refine wpAny_ready (rs := [17]) (by kernel_rfl) (by simp) ?_
          refine AllReady.cons rfl (fun K hK => ?_) AllReady.nil
          go_simp
          refine hK _ _ ?_
          clear hK K
        case' ord2 =>
          go_simp
          refine hK _ _ ?_
          clear hK K
          refine wpAny_ready (rs := [1]) (by kernel_rfl) (by simp) ?_
          refine AllReady.cons rfl (fun K hK => ?_) AllReady.nil
          go_simp
          refine hK _ _ ?_
          clear hK K
        all_goals
          refine wpAny_ready (rs := [18]) (by kernel_rfl) (by simp) ?_
          refine AllReady.cons rfl (fun K hK => ?_) AllReady.nil
          refine step_append_at rfl (.tmp 59) (.tmp 75) 36 rfl (N + 2) 40 i0 (.agg #[.int .i64 0, .int .i64 0, .int .i64 0]) 3 24 Try.underlying36 hi hz0 hz1 hz2 rfl (by decide) (.slice ao k cap) k XS rfl (OWND.out.alloc (.cells #[.int .i64 A, .int .i64 A', .int .i64 A''] 40)) ⟨wd.heap.size, 0, none⟩ 1 1 [.int .i64 A, .int .i64 A', .int .i64 A''] rfl rfl news3 (by intro u hu; simp at hu; rcases hu with rfl | rfl | rfl <;> rfl) (by unfold maxLen; omega) (by omega) (by simp; omega) ?_
          intro v' w1 hown' hgrow hat
          obtain ⟨ao2, cap2, rfl⟩ := owns_form hown'
          have blk : ∀ b, b < wd.heap.size → (Value.slice ao k cap).ownBlock ≠ some b → w1.heap[b]? = wd.heap[b]? := fun b hb hne => (hgrow.block b (by simp; omega) (fun e => hne e.symm)).trans (Below.heap_alloc wd _ b hb)
          have R1' := HR1D.out.of_block (blk (N + 1) (by omega) hnb)
          have R0' := (R0D.out.of_block (blk N (by omega) hnb0)).setOther (a := ⟨N + 1, 6, none⟩) (by show N ≠ N + 1; omega) (.slice ao2 (k + 1) cap2)
          have c6' : w1.cell? ⟨N + 1, 6, none⟩ = some (.slice ao k cap) := R1'.cell (by decide)
          have f6' := R1'.frozen 6
          have B1 : Below N w (w1.setCell ⟨N + 1, 6, none⟩ (.slice ao2 (k + 1) cap2)) := ((hBD.alloc (by omega) _).grown hgrow (by simp; omega) (fun b hb => by have := (OWND.out.lt b hb).1; omega)).setCell (by show N ≤ N + 1; omega) _
          have R1'' := (R1'.set 6 (.slice ao2 (k + 1) cap2)).congr (fun j hj => mRow_set 2 0 0 0 0 ⟨#[]⟩ (.slice ao k cap) (.slice ao2 (k + 1) cap2) 0 j hj)
          have O1 := owns_setCell (b := N + 1) (i := 6) (x := .slice ao2 (k + 1) cap2) hown' (fun e => by have := (hown'.lt _ e).1; omega)
          rw [HL.out] at O1
          have HH : Hid (w1.setCell ⟨N + 1, 6, none⟩ (.slice ao2 (k + 1) cap2) |>.rowIs (N + 1) 38 8 (mRow 2 0 0 0 0 ⟨#[]⟩ (.slice ao2 (k + 1) cap2) 0)) := R1''
          have HO : Hid ((w1.setCell ⟨N + 1, 6, none⟩ (.slice ao2 (k + 1) cap2)).ownsRow (N + 2) 40 3 (.slice ao2 (k + 1) cap2) (k + 1) (icells (gItem s) (k + 1))) := O1
          have HR0 : Hid ((w1.setCell ⟨N + 1, 6, none⟩ (.slice ao2 (k + 1) cap2)).rowIs N 38 8 (mRow 0 0 0 0 0 ⟨#[]⟩ (.slice none 0 0) 0)) := R0'
          clear R1' R1'' R0' O1 blk hgrow hown' hat OWND HR1D R0D hBD c6d c6a
          refine hK _ _ ?_
          clear hK K
          refine wpAny_take (i := 19) (v := .pointer (some ⟨N + 1, 6, none⟩)) rfl (by kernel_rfl) (by kernel_rfl) (by kernel_rfl) (fun _ _ _ h => h) (Or.inl ⟨by rfl, by intro w; go_simp⟩) ?_
          refine wpAny_ready (rs := [20]) (by kernel_rfl) (by simp) ?_
          refine AllReady.cons rfl (fun K hK => ?_) AllReady.nil
          go_simp
          refine hK _ _ ?_
          clear hK K
          refine wpAny_done (by kernel_rfl) ?_ _
          go_wp2
          go_roundw
          case rel => exact ⟨k + 1, p + 3, ao2, cap2, HLT.out, by rw [HP.out]; omega, by go_num, HO.out, HH.out, HR0.out, B1⟩
          case measure => simp [intOf]; omega
      · obtain rfl : k = K := by omega
        have HOWN : Hid (wr.ownsRow (N + 2) 40 3 (.slice ao k cap) k (icells (gItem s) k)) := hown
        have x0 : wr.cell? ⟨N + 1, 0, none⟩ = some (.int .i64 2) := R1.cell (by decide)
        have x1 : wr.cell? ⟨N + 1, 1, none⟩ = some (.int .i64 0) := R1.cell (by decide)
        have x2 : wr.cell? ⟨N + 1, 2, none⟩ = some (.int .i64 0) := R1.cell (by decide)
        have x3 : wr.cell? ⟨N + 1, 3, none⟩ = some (.int .i64 0) := R1.cell (by decide)
        have x4 : wr.cell? ⟨N + 1, 4, none⟩ = some (.int .i64 0) := R1.cell (by decide)
        have x5 : wr.cell? ⟨N + 1, 5, none⟩ = some (.string ⟨#[]⟩) := R1.cell (by decide)
        have x6 : wr.cell? ⟨N + 1, 6, none⟩ = some (.slice ao k cap) := R1.cell (by decide)
        have x7 : wr.cell? ⟨N + 1, 7, none⟩ = some (.int .i64 0) := R1.cell (by decide)
        have y0 : wr.cell? ⟨N, 0, none⟩ = some (.int .i64 0) := R0.cell (by decide)
        have y1 : wr.cell? ⟨N, 1, none⟩ = some (.int .i64 0) := R0.cell (by decide)
        have y2 : wr.cell? ⟨N, 2, none⟩ = some (.int .i64 0) := R0.cell (by decide)
        have y3 : wr.cell? ⟨N, 3, none⟩ = some (.int .i64 0) := R0.cell (by decide)
        have y4 : wr.cell? ⟨N, 4, none⟩ = some (.int .i64 0) := R0.cell (by decide)
        have y5 : wr.cell? ⟨N, 5, none⟩ = some (.string ⟨#[]⟩) := R0.cell (by decide)
        have y6 : wr.cell? ⟨N, 6, none⟩ = some (.slice none 0 0) := R0.cell (by decide)
        have y7 : wr.cell? ⟨N, 7, none⟩ = some (.int .i64 0) := R0.cell (by decide)
        have f0 := R0.frozen 0
        have f1 := R0.frozen 1
        have f2 := R0.frozen 2
        have f3 := R0.frozen 3
        have f4 := R0.frozen 4
        have f5 := R0.frozen 5
        have f6 := R0.frozen 6
        have f7 := R0.frozen 7
        clear hown R1 R0
        go_wp2
        refine bodyPost_ret (v := mV 2 0 0 0 0 ⟨#[]⟩ ao k cap 0) (by simp [results, Try.results51, go_sem, y0, y1, y2, y3, y4, y5, y6, y7]) rfl ?_
        refine ⟨⟨ao, cap, ?_, ?_⟩, ?_⟩
        · show _ = Ending.returned (mV 2 0 0 0 0 ⟨#[]⟩ ao (gItems s k).length cap 0)
          rw [gItems_length]
        · simp only [gReq, gItems_length]
          rw [icells_congr (itF_gItems s k)]
          refine owns_mono ?_ (show N ≤ N + 2 by omega)
          have hne : (Value.slice ao k cap).ownBlock ≠ some N := fun e => by have := (HOWN.out.lt _ e).1; omega
          exact owns_setCell (owns_setCell (owns_setCell (owns_setCell (owns_setCell (owns_setCell (owns_setCell (owns_setCell HOWN.out hne) hne) hne) hne) hne) hne) hne) hne
        · exact (((((((hB.setCell (Nat.le_refl _) _).setCell (Nat.le_refl _) _).setCell (Nat.le_refl _) _).setCell (Nat.le_refl _) _).setCell (Nat.le_refl _) _).setCell (Nat.le_refl _) _).setCell (Nat.le_refl _) _).setCell (Nat.le_refl _) _
end Ms
end Go.Proofs.Ytkgnmcekeeannaa
namespace Go.Proofs.Ytkgnmcekeeannaa
open Go.RowKit Go.Deep
namespace Ms
open Bs
set_option linter.unusedVariables false

theorem refGuess (s : ByteArray) (w : World) (hs : s.size ≤ 1048576) :
    Calls Try.prog 51 #[.string s] w fun e w' => GuessOut (gRef s) e w w' ∧ Below w.heap.size w w' := by
  have hm : s.size ≤ maxLen := by unfold maxLen; omega
  unfold gRef
  by_cases h1 : 9 ≤ s.size ∧ byt s 0 = 68
  · rw [if_pos h1]; exact guess_data s w hm h1.1 h1.2
  · rw [if_neg h1]
    by_cases h2 : 4 ≤ s.size ∧ byt s 0 = 82
    · rw [if_pos h2]; exact guess_req s w hs h2.1 h2.2
    · rw [if_neg h2]
      by_cases h3 : s.size = 4 ∧ byt s 0 = 69
      · rw [if_pos h3]; exact guess_end s w h3.1 h3.2
      · rw [if_neg h3]
        by_cases h4 : 4 ≤ s.size
        · exact guess_other s w hm h4 h1 (fun e => h2 ⟨h4, e⟩) h3
        · exact guess_small s w (by omega)
end Ms
end Go.Proofs.Ytkgnmcekeeannaa
