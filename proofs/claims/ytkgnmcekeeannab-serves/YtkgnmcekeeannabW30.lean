import Derived.Test.YtkgnmcekeeannabW03
import Derived.StillTailTactics
namespace Go.Proofs.Ytkgnmcekeeannab
open Go.RowKit Go.Deep
namespace Ms
open Bs
set_option linter.unusedVariables false

theorem or_low (a b : Nat) (ha : a < 256) (hb : b < 256) : bits .or .i64 ((a : Int) * 256) (b : Int) = (a : Int) * 256 + b := by
  have hx : a * 256 ||| b = a * 256 + b := by
    have h := Nat.two_pow_add_eq_or_of_lt (i := 8) (b := b) (by omega) a
    rw [← Nat.mul_comm] at h
    exact h.symm
  have e : (a : Int) * 256 = ((a * 256 : Nat) : Int) := by omega
  rw [e]
  show IntKind.i64.wrap ((BitVec.ofInt 64 ((a * 256 : Nat) : Int) ||| BitVec.ofInt 64 (b : Int)).toNat : Int) = _
  rw [BitVec.toNat_or, ofInt_u64 (a * 256) (by omega), ofInt_u64 b (by omega), hx, IntKind.wrap_i64]
  omega
set_option maxRecDepth 100000 in
set_option maxHeartbeats 4000000 in
theorem dataIn_ok (d : ByteArray) (w : World) (hs : d.size ≤ maxLen) (h6 : 6 ≤ d.size) :
    Calls Try.prog 65 #[.string d] w fun e w' => e = .returned (mV 1 (byt d 1) (byt d 2) (byt d 3) (byt d 4 * 256 + byt d 5) (d.extract 6 d.size) none 0 0 0) ∧ Below w.heap.size w w' := by
  unfold maxLen at hs
  have i1 : (1 : Int) < (d.size : Int) := by omega
  have i2 : (2 : Int) < (d.size : Int) := by omega
  have i3 : (3 : Int) < (d.size : Int) := by omega
  have i4 : (4 : Int) < (d.size : Int) := by omega
  have i5 : (5 : Int) < (d.size : Int) := by omega
  have i6 : (6 : Int) ≤ (d.size : Int) := by omega
  have j1 : 1 < d.size := by omega
  have j2 : 2 < d.size := by omega
  have j3 : 3 < d.size := by omega
  have j4 : 4 < d.size := by omega
  have j5 : 5 < d.size := by omega
  have o1 : bits .or .i64 (byt d 4 * 256) (byt d 5) = byt d 4 * 256 + byt d 5 := by
    rw [byt_get d 4 j4, byt_get d 5 j5]; exact or_low _ _ (UInt8.toNat_lt _) (UInt8.toNat_lt _)
  have r4 := byt_range d 4
  have o23 : IntKind.i64.wrap (byt d 4 * 256) = byt d 4 * 256 ∧ wrap64 (byt d 4 * 256) = byt d 4 * 256 := ⟨IntWalk.i64_in _ ⟨by omega, by omega⟩, wrap_small _ (by omega) (by omega)⟩
  obtain ⟨o2, o3⟩ := o23
  clear r4
  have k1 := wrapk_byt d 1 j1
  have k2 := wrapk_byt d 2 j2
  have k3 := wrapk_byt d 3 j3
  have k4 := wrapk_byt d 4 j4
  have k5 := wrapk_byt d 5 j5
  have m1 := wrap_byt d 1 j1
  have m2 := wrap_byt d 2 j2
  have m3 := wrap_byt d 3 j3
  have m4 := wrap_byt d 4 j4
  have m5 := wrap_byt d 5 j5
  go_enter Try.func65, Try.ntmps65
  go_wp2_with fail
  refine wp_region_still_tail 20 (by kernel_rfl) (by kernel_rfl) ?_
  change wpStill _ _ (World.drew _) (fun a' => wpList _ _ _ _ a' (World.drew _)) _ _
  simp only [List.take_succ_cons, List.take_zero, List.drop_succ_cons, List.drop_zero]
  repeat still_step
  refine wpStill_nil ?_
  go_wp2
  refine bodyPost_ret (v := mV 1 (byt d 1) (byt d 2) (byt d 3) (byt d 4 * 256 + byt d 5) (d.extract 6 d.size) none 0 0 0) (by simp [results, Try.results65, go_sem]) rfl ?_
  exact ⟨rfl, ((Below.refl _ _).alloc (Nat.le_refl _) _).drew⟩
set_option maxHeartbeats 1000000 in
theorem dataIn_no (d : ByteArray) (w : World) (h6 : d.size < 6) :
    Calls Try.prog 65 #[.string d] w fun e w' => e = .returned (mV 0 0 0 0 0 ⟨#[]⟩ none 0 0 0) ∧ Below w.heap.size w w' := by
  have hi : (d.size : Int) < 6 := by omega
  go_enter Try.func65, Try.ntmps65
  go_wp2
  refine bodyPost_ret (v := mV 0 0 0 0 0 ⟨#[]⟩ none 0 0 0) (by simp [results, Try.results65, go_sem]) rfl ?_
  exact ⟨rfl, (Below.refl _ _).alloc (Nat.le_refl _) _⟩

set_option maxRecDepth 100000 in
set_option maxHeartbeats 4000000 in
theorem itemsIn_any (d : ByteArray) (w : World) (hs : d.size ≤ maxLen) (h2 : 2 ≤ d.size) :
    Calls Try.prog 66 #[.string d] w fun e w' => ∃ ao cap, e = .returned (.slice ao (min 8 ((d.size - 2) / 3)) cap) ∧ w'.ownsRow w.heap.size 106 3 (.slice ao (min 8 ((d.size - 2) / 3)) cap) (min 8 ((d.size - 2) / 3)) (icells (gItem d) (min 8 ((d.size - 2) / 3))) ∧ Below w.heap.size w w' := by
  obtain ⟨i0, hi, hz0, hz1, hz2⟩ := info_parts3 infoItem
  unfold maxLen at hs
  obtain ⟨N, hN⟩ : ∃ N, N = w.heap.size := ⟨_, rfl⟩
  obtain ⟨K, hK⟩ : ∃ K, K = min 8 ((d.size - 2) / 3) := ⟨_, rfl⟩
  have hK1 : 2 + 3 * K ≤ d.size := by omega
  have hK8 : K ≤ 8 := by omega
  have hK2 : K = 8 ∨ d.size < 2 + 3 * (K + 1) := by omega
  rw [← hK]
  clear hK
  have hN' : w.heap.size = N := hN.symm
  have B0 : Below N w (w.alloc (.cells #[] 106)) := by rw [hN]; exact (Below.refl _ _).alloc (Nat.le_refl _) _
  have O0 : Hid ((w.alloc (.cells #[] 106)).ownsRow N 106 3 (.slice (some ⟨N, 0, none⟩) 0 0) 0 (icells (gItem d) 0)) := by
    unfold Hid
    have h := owns_new (w := w) (base := N) (e := 106) (size := 3) (n := 0) (c := #[]) (by omega) (by decide) rfl
    rw [← hN] at h
    exact h
  rw [hN']
  clear hN
  go_enter Try.func66, Try.ntmps66
  go_wp2
  go_loopw [3, 4] (fun v x wr => ∃ (k p : Nat) (ao : Option Addr) (cap : Nat), k ≤ K ∧ p = 2 + 3 * k ∧ x = .int .i64 p ∧ v = .slice ao k cap ∧ wr.ownsRow N 106 3 (.slice ao k cap) k (icells (gItem d) k) ∧ Below N w wr) (fun _ x _ => d.size - (intOf x).toNat)
  case atStart => exact ⟨0, 2, _, _, Nat.zero_le _, rfl, rfl, rfl, O0.out, B0⟩
  case round =>
    clear B0 O0
    obtain ⟨k, p, ao, cap, hk, hp, rfl, rfl, hown, hB⟩ := hrel
    have HP : Hid (p = 2 + 3 * k) := hp
    have zs : N ≤ wr.heap.size := by have := hB.size; omega
    by_cases hlt : k < K
    · have b0 : p < d.size := by omega
      have b1 : p + 1 < d.size := by omega
      have b2 : p + 2 < d.size := by omega
      have b3 : (p : Int) + 3 ≤ (d.size : Int) := by omega
      have b4 : p ≤ 1048576 := by omega
      have k8 : (k : Int) < 8 := by omega
      have HLT : Hid (k < K) := hlt
      clear hp hlt
      obtain ⟨A, hA⟩ : ∃ A, A = byt d p := ⟨_, rfl⟩
      obtain ⟨A', hA'⟩ : ∃ A, A = byt d (p + 1) := ⟨_, rfl⟩
      obtain ⟨A'', hA''⟩ : ∃ A, A = byt d (p + 2) := ⟨_, rfl⟩
      have HL : Hid (icells (gItem d) k ++ [.int .i64 A, .int .i64 A', .int .i64 A''] = icells (gItem d) (k + 1)) := by
        unfold Hid
        rw [icells_succ, hA, hA', hA'', HP.out]; rfl
      obtain ⟨p1, hp1⟩ : ∃ q, q = p + 1 := ⟨_, rfl⟩
      obtain ⟨p2, hp2⟩ : ∃ q, q = p + 2 := ⟨_, rfl⟩
      have e1 : IntKind.i64.wrap ((p : Int) + 1) = (p1 : Int) := by rw [hp1]; exact IntWalk.i64_in _ ⟨by omega, by omega⟩
      have e2 : IntKind.i64.wrap ((p : Int) + 2) = (p2 : Int) := by rw [hp2]; exact IntWalk.i64_in _ ⟨by omega, by omega⟩
      rw [← hp1] at hA' b1
      rw [← hp2] at hA'' b2
      have q0 : wrap64 (d[p].toNat : Int) = A := by rw [hA]; exact wrap_byt d p b0
      have q1 : wrap64 (d[p1].toNat : Int) = A' := by rw [hA']; exact wrap_byt d p1 b1
      have q2 : wrap64 (d[p2].toNat : Int) = A'' := by rw [hA'']; exact wrap_byt d p2 b2
      have q3 : IntKind.i64.wrap (d[p].toNat : Int) = A := by rw [hA]; exact wrapk_byt d p b0
      have q4 : IntKind.i64.wrap (d[p1].toNat : Int) = A' := by rw [hA']; exact wrapk_byt d p1 b1
      have q5 : IntKind.i64.wrap (d[p2].toNat : Int) = A'' := by rw [hA'']; exact wrapk_byt d p2 b2
      clear hp1 hp2
      have OWN : Hid (wr.ownsRow N 106 3 (.slice ao k cap) k (icells (gItem d) k)) := hown
      clear hA hA' hA'' hown
      generalize icells (gItem d) k = XS at *
      go_wp2_with fail
      refine wp_region_any (by kernel_rfl) ?_
      change wpAny _ _ _ _ _ _ _ (World.drew wr)
      refine wpAny_take (i := 0) (v := .string d) rfl (by kernel_rfl) (by kernel_rfl) (by kernel_rfl) (fun _ _ _ h => h) (Or.inl ⟨by rfl, by intro w; go_simp⟩) ?_
      refine wpAny_take (i := 1) (v := .int .i64 p) rfl (by kernel_rfl) (by kernel_rfl) (by kernel_rfl) (fun _ _ _ h => h) (Or.inl ⟨by rfl, by intro w; go_simp⟩) ?_
      refine wpAny_take (i := 2) (v := .int .u8 d[p].toNat) rfl (by kernel_rfl) (by kernel_rfl) (by kernel_rfl) (fun _ _ _ h => h) (Or.inl ⟨by rfl, by intro w; go_simp⟩) ?_
      refine wpAny_take (i := 3) (v := .int .i64 A) rfl (by kernel_rfl) (by kernel_rfl) (by kernel_rfl) (fun _ _ _ h => h) (Or.inl ⟨by rfl, by intro w; go_simp⟩) ?_
      refine wpAny_take (i := 4) (v := .string d) rfl (by kernel_rfl) (by kernel_rfl) (by kernel_rfl) (fun _ _ _ h => h) (Or.inl ⟨by rfl, by intro w; go_simp⟩) ?_
      refine wpAny_take (i := 5) (v := .int .i64 p) rfl (by kernel_rfl) (by kernel_rfl) (by kernel_rfl) (fun _ _ _ h => h) (Or.inl ⟨by rfl, by intro w; go_simp⟩) ?_
      refine wpAny_take (i := 6) (v := .int .i64 p1) rfl (by kernel_rfl) (by kernel_rfl) (by kernel_rfl) (fun _ _ _ h => h) (Or.inl ⟨by rfl, by intro w; go_simp⟩) ?_
      refine wpAny_take (i := 7) (v := .int .u8 d[p1].toNat) rfl (by kernel_rfl) (by kernel_rfl) (by kernel_rfl) (fun _ _ _ h => h) (Or.inl ⟨by rfl, by intro w; go_simp⟩) ?_
      refine wpAny_take (i := 8) (v := .int .i64 A') rfl (by kernel_rfl) (by kernel_rfl) (by kernel_rfl) (fun _ _ _ h => h) (Or.inl ⟨by rfl, by intro w; go_simp⟩) ?_
      refine wpAny_take (i := 9) (v := .string d) rfl (by kernel_rfl) (by kernel_rfl) (by kernel_rfl) (fun _ _ _ h => h) (Or.inl ⟨by rfl, by intro w; go_simp⟩) ?_
      refine wpAny_take (i := 10) (v := .int .i64 p) rfl (by kernel_rfl) (by kernel_rfl) (by kernel_rfl) (fun _ _ _ h => h) (Or.inl ⟨by rfl, by intro w; go_simp⟩) ?_
      refine wpAny_take (i := 11) (v := .int .i64 p2) rfl (by kernel_rfl) (by kernel_rfl) (by kernel_rfl) (fun _ _ _ h => h) (Or.inl ⟨by rfl, by intro w; go_simp⟩) ?_
      refine wpAny_take (i := 12) (v := .int .u8 d[p2].toNat) rfl (by kernel_rfl) (by kernel_rfl) (by kernel_rfl) (fun _ _ _ h => h) (Or.inl ⟨by rfl, by intro w; go_simp⟩) ?_
      refine wpAny_take (i := 13) (v := .int .i64 A'') rfl (by kernel_rfl) (by kernel_rfl) (by kernel_rfl) (fun _ _ _ h => h) (Or.inl ⟨by rfl, by intro w; go_simp⟩) ?_
      refine wpAny_take (i := 14) (v := .agg #[.int .i64 A, .int .i64 A', .int .i64 A'']) rfl (by kernel_rfl) (by kernel_rfl) (by kernel_rfl) (fun _ _ _ h => h) (Or.inl ⟨by rfl, by intro w; go_simp⟩) ?_
      refine wpAny_ready (rs := [15]) (by kernel_rfl) (by simp) ?_
      refine AllReady.cons rfl (fun K hK => ?_) AllReady.nil
      go_simp
      refine hK _ _ ?_
      clear hK K
      refine wpAny_ready (rs := [16]) (by kernel_rfl) (by simp) ?_
      refine AllReady.cons rfl (fun K hK => ?_) AllReady.nil
      go_simp
      refine hK _ _ ?_
      clear hK K
      refine wpAny_done (by kernel_rfl) ?_ _
      have OWND : Hid ((wr.alloc (.cells #[.int .i64 A, .int .i64 A', .int .i64 A''] 106)).drew.ownsRow N 106 3 (.slice ao k cap) k XS) := owns_drew (OWN.out.alloc _)
      have hBD : Below N w (wr.alloc (.cells #[.int .i64 A, .int .i64 A', .int .i64 A''] 106)).drew := (hB.alloc (by omega) _).drew
      have c0 : (wr.alloc (.cells #[.int .i64 A, .int .i64 A', .int .i64 A''] 106)).drew.cell? ⟨wr.heap.size, 0, none⟩ = some (.int .i64 A) := cell_new (w := wr) rfl rfl
      have c1 : (wr.alloc (.cells #[.int .i64 A, .int .i64 A', .int .i64 A''] 106)).drew.cell? ⟨wr.heap.size, 1, none⟩ = some (.int .i64 A') := cell_new (w := wr) rfl rfl
      have c2 : (wr.alloc (.cells #[.int .i64 A, .int .i64 A', .int .i64 A''] 106)).drew.cell? ⟨wr.heap.size, 2, none⟩ = some (.int .i64 A'') := cell_new (w := wr) rfl rfl
      generalize (wr.alloc (.cells #[.int .i64 A, .int .i64 A', .int .i64 A''] 106)).drew = wd at *
      have zsD : N ≤ wd.heap.size := by have := hBD.size; omega
      clear OWN hB
      go_wp2_with (at_builtin; refine wpList_append_own_at _ rfl _ _ 22 rfl N 106 i0 (.agg #[.int .i64 0, .int .i64 0, .int .i64 0]) 3 24 Try.underlying22 hi hz0 hz1 hz2 rfl (by decide) (.slice ao k cap) k XS rfl (OWND.out.alloc _) ⟨wd.heap.size, 0, none⟩ 1 1 [.int .i64 A, .int .i64 A', .int .i64 A''] rfl rfl news3 (by intro u hu; simp at hu; rcases hu with rfl | rfl | rfl <;> rfl) (by unfold maxLen; omega) (by omega) (by simp; omega) ?_)
      intro v' w1 hown' hgrow _ hat
      obtain ⟨ao2, cap2, rfl⟩ := owns_form hown'
      have B1 := below_append hBD zsD OWND.out hgrow
      rw [HL.out] at hown'
      have HO : Hid (w1.ownsRow N 106 3 (.slice ao2 (k + 1) cap2) (k + 1) (icells (gItem d) (k + 1))) := hown'
      clear hown' hgrow hat hBD OWND c0 c1 c2
      go_wp2
      go_roundw
      case rel => exact ⟨k + 1, p + 3, ao2, cap2, HLT.out, by rw [HP.out]; omega, by go_num, rfl, HO.out, B1⟩
      case measure => simp [intOf]; omega
    · have hb : k = K := by omega
      subst hb
      have HO : Hid (wr.ownsRow N 106 3 (.slice ao k cap) k (icells (gItem d) k)) := hown
      clear hown
      by_cases hc : (p : Int) + 3 ≤ (d.size : Int)
      · have k8 : ¬ (k : Int) < 8 := by omega
        have p3 : p ≤ 100 := by omega
        go_wp2
        go_ret
        exact ⟨ao, cap, rfl, HO.out, hB⟩
      · have p3 : p ≤ 100 := by omega
        go_wp2
        go_ret
        exact ⟨ao, cap, rfl, HO.out, hB⟩
theorem body_size (s : ByteArray) (h4 : 4 ≤ s.size) : (s.extract 0 (s.size - 2)).size = s.size - 2 := by simp
theorem body_byt (s : ByteArray) (i : Nat) (h : i < s.size - 2) : byt (s.extract 0 (s.size - 2)) i = byt s i := by
  unfold byt
  rw [Lib.extract_data, List.drop_zero, List.getD_eq_getElem?_getD, List.getD_eq_getElem?_getD, List.getElem?_take, if_pos (by omega)]
theorem body_extract (s : ByteArray) (h4 : 8 ≤ s.size) : (s.extract 0 (s.size - 2)).extract 6 (s.extract 0 (s.size - 2)).size = s.extract 6 (s.size - 2) := by
  apply bytes_ext
  rw [body_size s (by omega), Lib.extract_data, Lib.extract_data, Lib.extract_data, List.drop_zero, List.drop_take]
  rw [List.take_take]
  congr 1
  omega
end Ms
end Go.Proofs.Ytkgnmcekeeannab
namespace Go.Proofs.Ytkgnmcekeeannab
open Go.RowKit Go.Deep
namespace Ms
open Bs
set_option linter.unusedVariables false

set_option maxRecDepth 100000 in
set_option maxHeartbeats 4000000 in
theorem lanGuess (s : ByteArray) (w : World) (hs : s.size ≤ 1048576) :
    Calls Try.prog 47 #[.string s] w fun e w' => GuessOut (gLan s) e w w' ∧ Below w.heap.size w w' := by
  by_cases h4 : s.size < 4
  · have hi : (s.size : Int) < 4 := by omega
    have HG : Hid (gLan s = zeroM) := by unfold Hid gLan; rw [if_pos h4]
    go_enter Try.func47, Try.ntmps47
    go_wp2
    refine bodyPost_ret (v := mV 0 0 0 0 0 ⟨#[]⟩ none 0 0 0) (by simp [results, Try.results47, go_sem]) rfl ?_
    exact ⟨by rw [HG.out]; exact zero_out _ _ _ _ _ _ _ _ _, (Below.refl _ _).alloc (Nat.le_refl _) _⟩
  · have h4' : 4 ≤ s.size := by omega
    have hi : (4 : Int) ≤ (s.size : Int) := by omega
    obtain ⟨d, hd⟩ : ∃ d, d = s.extract 0 (s.size - 2) := ⟨_, rfl⟩
    have hdz : d.size = s.size - 2 := by rw [hd]; exact body_size s h4'
    have hdb : ∀ i, i < s.size - 2 → byt d i = byt s i := fun i hi => by rw [hd]; exact body_byt s i hi
    have hss : ∀ W', (Instr.slice 9 (.string s) none (some (.int .i64 ((s.size : Int) - 2))) none).run Try.prog W' = .ok (.string d) W' := fun W' => by
      rw [hd]
      have h := run_slice_string_to_if (P := Try.prog) W' 9 s .i64 ((s.size : Int) - 2) Try.underlying9
      rw [if_pos (by omega)] at h
      rw [show ((s.size : Int) - 2).toNat = s.size - 2 from by omega] at h
      exact h
    have d0 : 0 < d.size := by omega
    have d1 : 1 < d.size := by omega
    have d1' : (1 : Int) < (d.size : Int) := by omega
    have d0' : (0 : Int) < (d.size : Int) := by omega
    have g0 : byt s 0 = (d[0].toNat : Int) := by rw [← hdb 0 (by omega), byt_get d 0 d0]
    have hdm : d.size ≤ maxLen := by unfold maxLen; omega
    obtain ⟨N, hN⟩ : ∃ N, N = w.heap.size := ⟨_, rfl⟩
    have hN' : w.heap.size = N := hN.symm
    have hz : (w.alloc (mBox 0 0 0 0 0 ⟨#[]⟩ none 0 0 0)).heap.size = N + 1 := by simp; omega
    have B0 : Below N w (w.alloc (mBox 0 0 0 0 0 ⟨#[]⟩ none 0 0 0)) := by rw [hN]; exact (Below.refl _ _).alloc (Nat.le_refl _) _
    have P0 : (w.alloc (mBox 0 0 0 0 0 ⟨#[]⟩ none 0 0 0)).rowIs N 24 8 (mRow 0 0 0 0 0 ⟨#[]⟩ (.slice none 0 0) 0) := mRow_new hN _ _ _ _ _ _ _ _
    have FIN : ∀ w1, Below (N + 1) (w.alloc (mBox 0 0 0 0 0 ⟨#[]⟩ none 0 0 0)) w1 → w1.rowIs N 24 8 (mRow 0 0 0 0 0 ⟨#[]⟩ (.slice none 0 0) 0) ∧ ∀ v0 v1 v2 v3 v4 v5 v6 v7, Below N w ((((((((w1.setCell ⟨N, 0, none⟩ v0).setCell ⟨N, 1, none⟩ v1).setCell ⟨N, 2, none⟩ v2).setCell ⟨N, 3, none⟩ v3).setCell ⟨N, 4, none⟩ v4).setCell ⟨N, 5, none⟩ v5).setCell ⟨N, 6, none⟩ v6).setCell ⟨N, 7, none⟩ v7) := fun w1 hb1 =>
      have B3 : Below N w w1 := B0.trans (hb1.mono (by omega))
      ⟨P0.of_block (hb1.block N (by omega)), fun v0 v1 v2 v3 v4 v5 v6 v7 =>
      (((((((B3.setCell (Nat.le_refl _) _).setCell (Nat.le_refl _) _).setCell (Nat.le_refl _) _).setCell (Nat.le_refl _) _).setCell (Nat.le_refl _) _).setCell (Nat.le_refl _) _).setCell (Nat.le_refl _) _).setCell (Nat.le_refl _) _⟩
    have HF : Hid (∀ w1, Below (N + 1) (w.alloc (mBox 0 0 0 0 0 ⟨#[]⟩ none 0 0 0)) w1 → w1.rowIs N 24 8 (mRow 0 0 0 0 0 ⟨#[]⟩ (.slice none 0 0) 0) ∧ ∀ v0 v1 v2 v3 v4 v5 v6 v7, Below N w ((((((((w1.setCell ⟨N, 0, none⟩ v0).setCell ⟨N, 1, none⟩ v1).setCell ⟨N, 2, none⟩ v2).setCell ⟨N, 3, none⟩ v3).setCell ⟨N, 4, none⟩ v4).setCell ⟨N, 5, none⟩ v5).setCell ⟨N, 6, none⟩ v6).setCell ⟨N, 7, none⟩ v7)) := FIN
    by_cases c68 : byt s 0 = 68
    · have t68 : ((d[0].toNat : Int) == 68) = true := by rw [← g0, c68]; rfl
      by_cases h8 : s.size < 8
      · have HG : Hid (gLan s = zeroM) := by unfold Hid gLan; rw [if_neg h4, if_pos c68, if_pos h8]
        have HI := dataIn_no d (w.alloc (mBox 0 0 0 0 0 ⟨#[]⟩ none 0 0 0)) (by omega)
        rw [hz] at HI
        rw [hN']
        clear hN FIN P0 B0 hz c68 g0 hdb hd
        go_enter Try.func47, Try.ntmps47
        go_wp2_with fail
        refine HI.mono ?_
        rintro e w1 ⟨rfl, hb1⟩
        obtain ⟨R3, hB8⟩ := HF.out w1 hb1
        clear HI hb1
        have y0 : w1.cell? ⟨N, 0, none⟩ = some (.int .i64 0) := R3.cell (by decide)
        have y1 : w1.cell? ⟨N, 1, none⟩ = some (.int .i64 0) := R3.cell (by decide)
        have y2 : w1.cell? ⟨N, 2, none⟩ = some (.int .i64 0) := R3.cell (by decide)
        have y3 : w1.cell? ⟨N, 3, none⟩ = some (.int .i64 0) := R3.cell (by decide)
        have y4 : w1.cell? ⟨N, 4, none⟩ = some (.int .i64 0) := R3.cell (by decide)
        have y5 : w1.cell? ⟨N, 5, none⟩ = some (.string ⟨#[]⟩) := R3.cell (by decide)
        have y6 : w1.cell? ⟨N, 6, none⟩ = some (.slice none 0 0) := R3.cell (by decide)
        have y7 : w1.cell? ⟨N, 7, none⟩ = some (.int .i64 0) := R3.cell (by decide)
        have f0 := R3.frozen 0
        have f1 := R3.frozen 1
        have f2 := R3.frozen 2
        have f3 := R3.frozen 3
        have f4 := R3.frozen 4
        have f5 := R3.frozen 5
        have f6 := R3.frozen 6
        have f7 := R3.frozen 7
        have HB8 := hB8
        clear R3 hB8
        go_wp2
        refine bodyPost_ret (v := mV 0 0 0 0 0 ⟨#[]⟩ none 0 0 0) (by simp [results, Try.results47, go_sem, y0, y1, y2, y3, y4, y5, y6, y7]) rfl ?_
        exact ⟨by rw [HG.out]; exact zero_out _ _ _ _ _ _ _ _ _, HB8 _ _ _ _ _ _ _ _⟩
      · have HG : Hid (gLan s = gData s) := by unfold Hid gLan; rw [if_neg h4, if_pos c68, if_neg h8]
        have HI := dataIn_ok d (w.alloc (mBox 0 0 0 0 0 ⟨#[]⟩ none 0 0 0)) hdm (by omega)
        rw [hz, hdb 1 (by omega), hdb 2 (by omega), hdb 3 (by omega), hdb 4 (by omega), hdb 5 (by omega)] at HI
        have hex : d.extract 6 d.size = s.extract 6 (s.size - 2) := by rw [hd]; exact body_extract s (by omega)
        rw [hex] at HI
        rw [hN']
        clear hN FIN P0 B0 hz c68 g0 hdb hd hex
        obtain ⟨SY, hSY⟩ : ∃ SY, SY = s.extract 6 (s.size - 2) := ⟨_, rfl⟩
        have HSY : Hid (SY = s.extract 6 (s.size - 2)) := hSY
        rw [← hSY] at HI
        clear hSY
        go_enter Try.func47, Try.ntmps47
        go_wp2_with fail
        refine HI.mono ?_
        rintro e w1 ⟨rfl, hb1⟩
        obtain ⟨R3, hB8⟩ := HF.out w1 hb1
        clear HI hb1
        have y0 : w1.cell? ⟨N, 0, none⟩ = some (.int .i64 0) := R3.cell (by decide)
        have y1 : w1.cell? ⟨N, 1, none⟩ = some (.int .i64 0) := R3.cell (by decide)
        have y2 : w1.cell? ⟨N, 2, none⟩ = some (.int .i64 0) := R3.cell (by decide)
        have y3 : w1.cell? ⟨N, 3, none⟩ = some (.int .i64 0) := R3.cell (by decide)
        have y4 : w1.cell? ⟨N, 4, none⟩ = some (.int .i64 0) := R3.cell (by decide)
        have y5 : w1.cell? ⟨N, 5, none⟩ = some (.string ⟨#[]⟩) := R3.cell (by decide)
        have y6 : w1.cell? ⟨N, 6, none⟩ = some (.slice none 0 0) := R3.cell (by decide)
        have y7 : w1.cell? ⟨N, 7, none⟩ = some (.int .i64 0) := R3.cell (by decide)
        have f0 := R3.frozen 0
        have f1 := R3.frozen 1
        have f2 := R3.frozen 2
        have f3 := R3.frozen 3
        have f4 := R3.frozen 4
        have f5 := R3.frozen 5
        have f6 := R3.frozen 6
        have f7 := R3.frozen 7
        have HB8 := hB8
        clear R3 hB8
        go_wp2
        refine bodyPost_ret (v := mV 1 (byt s 1) (byt s 2) (byt s 3) (byt s 4 * 256 + byt s 5) SY none 0 0 0) (by simp [results, Try.results47, go_sem, y0, y1, y2, y3, y4, y5, y6, y7]) rfl ?_
        exact ⟨by rw [HG.out, HSY.out]; exact zero_out _ _ _ _ _ _ _ _ _, HB8 _ _ _ _ _ _ _ _⟩
    · have t68 : ((d[0].toNat : Int) == 68) = false := by rw [← g0]; simpa using c68
      by_cases c82 : byt s 0 = 82
      · have t82 : ((d[0].toNat : Int) == 82) = true := by rw [← g0, c82]; rfl
        have HG : Hid (gLan s = gReq s (min 8 ((s.size - 4) / 3))) := by unfold Hid gLan; rw [if_neg h4, if_neg c68, if_pos c82]
        have HI := itemsIn_any d (w.alloc (mBox 0 0 0 0 0 ⟨#[]⟩ none 0 0 0)) hdm (by omega)
        obtain ⟨K, hK⟩ : ∃ K, K = min 8 ((s.size - 4) / 3) := ⟨_, rfl⟩
        have hK' : min 8 ((d.size - 2) / 3) = K := by rw [hK, hdz]; omega
        have hic : icells (gItem d) K = icells (gItem s) K := icells_congr (fun i hi => by
          have hb : 2 + 3 * i + 2 < s.size - 2 := by omega
          unfold gItem
          rw [hdb _ (by omega), hdb _ (by omega), hdb _ (by omega)])
        rw [hz, hK', hic] at HI
        rw [← hK] at HG
        rw [hN']
        clear hN FIN P0 B0 hz c68 g0 hdb hd hic hK hK'
        go_enter Try.func47, Try.ntmps47
        go_wp2_with fail
        refine HI.mono ?_
        rintro e w1 ⟨ao, cap, rfl, hown, hb1⟩
        obtain ⟨R3, hB8⟩ := HF.out w1 hb1
        have HO : Hid (w1.ownsRow (N + 1) 106 3 (.slice ao K cap) K (icells (gItem s) K)) := hown
        clear HI hb1 hown
        have y0 : w1.cell? ⟨N, 0, none⟩ = some (.int .i64 0) := R3.cell (by decide)
        have y1 : w1.cell? ⟨N, 1, none⟩ = some (.int .i64 0) := R3.cell (by decide)
        have y2 : w1.cell? ⟨N, 2, none⟩ = some (.int .i64 0) := R3.cell (by decide)
        have y3 : w1.cell? ⟨N, 3, none⟩ = some (.int .i64 0) := R3.cell (by decide)
        have y4 : w1.cell? ⟨N, 4, none⟩ = some (.int .i64 0) := R3.cell (by decide)
        have y5 : w1.cell? ⟨N, 5, none⟩ = some (.string ⟨#[]⟩) := R3.cell (by decide)
        have y6 : w1.cell? ⟨N, 6, none⟩ = some (.slice none 0 0) := R3.cell (by decide)
        have y7 : w1.cell? ⟨N, 7, none⟩ = some (.int .i64 0) := R3.cell (by decide)
        have f0 := R3.frozen 0
        have f1 := R3.frozen 1
        have f2 := R3.frozen 2
        have f3 := R3.frozen 3
        have f4 := R3.frozen 4
        have f5 := R3.frozen 5
        have f6 := R3.frozen 6
        have f7 := R3.frozen 7
        have HB8 := hB8
        clear R3 hB8
        go_wp2
        refine bodyPost_ret (v := mV 2 0 0 0 0 ⟨#[]⟩ ao K cap 0) (by simp [results, Try.results47, go_sem, y0, y1, y2, y3, y4, y5, y6, y7]) rfl ?_
        refine ⟨?_, HB8 _ _ _ _ _ _ _ _⟩
        rw [HG.out]
        refine ⟨ao, cap, ?_, ?_⟩
        · show _ = Ending.returned (mV 2 0 0 0 0 ⟨#[]⟩ ao (gItems s K).length cap 0)
          rw [gItems_length]
        · simp only [gReq, gItems_length]
          rw [icells_congr (itF_gItems s K), hN']
          have hne : (Value.slice ao K cap).ownBlock ≠ some N := fun e => by have := (HO.out.lt _ e).1; omega
          exact owns_mono (owns_setCell (owns_setCell (owns_setCell (owns_setCell (owns_setCell (owns_setCell (owns_setCell (owns_setCell HO.out hne) hne) hne) hne) hne) hne) hne) hne) (show N ≤ N + 1 by omega)
      · have t82 : ((d[0].toNat : Int) == 82) = false := by rw [← g0]; simpa using c82
        by_cases c69 : byt s 0 = 69
        · have t69 : ((d[0].toNat : Int) == 69) = true := by rw [← g0, c69]; rfl
          have HG : Hid (gLan s = gEnd s) := by unfold Hid gLan; rw [if_neg h4, if_neg c68, if_neg c82, if_pos c69]
          have w1 : wrap64 (d[1].toNat : Int) = byt s 1 := by rw [wrap_byt d 1 d1]; exact hdb 1 (by omega)
          clear FIN HF P0 B0 hz c68 c82 c69 g0 hdb hd hN'
          go_enter Try.func47, Try.ntmps47
          go_wp2
          refine bodyPost_ret (v := mV 3 0 0 0 0 ⟨#[]⟩ none 0 0 (byt s 1)) (by simp [results, Try.results47, go_sem]) rfl ?_
          exact ⟨by rw [HG.out]; exact zero_out _ _ _ _ _ _ _ _ _, (Below.refl _ _).alloc (Nat.le_refl _) _⟩
        · have t69 : ((d[0].toNat : Int) == 69) = false := by rw [← g0]; simpa using c69
          have HG : Hid (gLan s = zeroM) := by unfold Hid gLan; rw [if_neg h4, if_neg c68, if_neg c82, if_neg c69]
          clear FIN HF P0 B0 hz c68 c82 c69 g0 hdb hd hN'
          go_enter Try.func47, Try.ntmps47
          go_wp2
          refine bodyPost_ret (v := mV 0 0 0 0 0 ⟨#[]⟩ none 0 0 0) (by simp [results, Try.results47, go_sem]) rfl ?_
          exact ⟨by rw [HG.out]; exact zero_out _ _ _ _ _ _ _ _ _, (Below.refl _ _).alloc (Nat.le_refl _) _⟩
end Ms
end Go.Proofs.Ytkgnmcekeeannab
