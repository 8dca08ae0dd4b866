import Derived.Test.YtkgnmcekeeannaaGreatY45
import Derived.Deep.RegionHeld3
import Derived.StillTailTactics
/-
  One step of the law's game: a message that was on its way comes.
-/
namespace Go.Proofs.YtkgnmcekeeannaaGreat
open Go.RowKit Go.Deep
namespace Sn
open Bs
open Ms (Tells)
set_option linter.unusedVariables false
section
variable {B : Nat} {w0 w w1 : World} {Q : Nat} {P R P' R' : Nat → Nat}
set_option maxRecDepth 100000 in
set_option maxHeartbeats 4000000 in
theorem hears_give (c : Nat) (A Bv : Int) (tx : ByteArray) (b1 : -9223372036854775808 ≤ Bv) (b2 : Bv ≤ 9223372036854775807) (htx : tx.size ≤ 1048576) (hc : c ≤ 1048576) (g1 : -9223372036854775808 ≤ A) (g2 : A ≤ 9223372036854775807) (h : GS6 B w0 w Q P R P' R' c) :
    Calls Tryz.prog 12 #[.pointer (some ⟨Q, 0, none⟩), .agg #[.int .i64 6, .int .i64 A, .int .i64 Bv, .string tx]] w fun e w' => e = .returned (.bool true) ∧ GS6 B w0 w' Q P R P' R' (c + 1) := by
  obtain ⟨C, S, V, on, bk, s, l, r, hM, hK⟩ := h
  obtain ⟨i, hi, HPk⟩ := pickAll Bv 3 b1 b2 (by omega) (by omega)
  have HK : Hid (Gk c on bk s l r) := hK
  have HRO : Hid (ROk (r i)) := (hK.rok i hi).ok (by omega)
  have HTW : Hid (TW (r i)) := hK.tw i hi
  have HRC : Hid (ROkC (r i) c) := hK.rok i hi
  have B0 : Below w.heap.size w (w.alloc (.cells #[.int .i64 6, .int .i64 A, .int .i64 Bv, .string tx] 32)) := (Below.refl _ _).alloc (Nat.le_refl _) _
  have o0 : (w.alloc (.cells #[.int .i64 6, .int .i64 A, .int .i64 Bv, .string tx] 32)).cell? ⟨w.heap.size, 0, none⟩ = some (.int .i64 6) := cell_new rfl rfl
  have o1 : (w.alloc (.cells #[.int .i64 6, .int .i64 A, .int .i64 Bv, .string tx] 32)).cell? ⟨w.heap.size, 1, none⟩ = some (.int .i64 A) := cell_new rfl rfl
  have o2 : (w.alloc (.cells #[.int .i64 6, .int .i64 A, .int .i64 Bv, .string tx] 32)).cell? ⟨w.heap.size, 2, none⟩ = some (.int .i64 Bv) := cell_new rfl rfl
  have o3 : (w.alloc (.cells #[.int .i64 6, .int .i64 A, .int .i64 Bv, .string tx] 32)).cell? ⟨w.heap.size, 3, none⟩ = some (.string tx) := cell_new rfl rfl
  have nW : w.heap.size < (w.alloc (.cells #[.int .i64 6, .int .i64 A, .int .i64 Bv, .string tx] 32)).heap.size := by simp
  have M1 := hM.above B0
  obtain ⟨C1, hC1⟩ : ∃ C1 : Nat → Nat, C1 = fun b => if w.heap.size ≤ b then 0 else C b := ⟨_, rfl⟩
  rw [← hC1] at M1
  have n0 : C1 w.heap.size = 0 := by rw [hC1]; simp
  obtain ⟨W, hW⟩ : ∃ W, W = w.alloc (.cells #[.int .i64 6, .int .i64 A, .int .i64 Bv, .string tx] 32) := ⟨_, rfl⟩
  rw [← hW] at o0 o1 o2 o3 nW M1
  obtain ⟨N, hN⟩ : ∃ N, N = w.heap.size := ⟨_, rfl⟩
  clear hC1 hK hM B0
  obtain ⟨ga, ca, eV2, gal, hga⟩ := M1.ptr (i := 2) (n := 3) (by omega) rfl (by omega)
  obtain ⟨gb, cb, eV3, gbl, hgb⟩ := M1.ptr (i := 3) (n := 3) (by omega) rfl (by omega)
  have a0 : W.cell? ⟨Q, 2, none⟩ = some (.slice (some ⟨ga, 0, none⟩) 3 ca) := by rw [← eV2]; exact M1.cells 2 (by omega)
  have a1 : W.cell? ⟨Q, 3, none⟩ = some (.slice (some ⟨gb, 0, none⟩) 3 cb) := by rw [← eV3]; exact M1.cells 3 (by omega)
  have a2 := hga i _ (three_ptr P' hi)
  have a3 := hgb i _ (three_ptr R' hi)
  have HM1 : Hid (Gm B w0 W C1 Q S V on bk P R P' R' s l r r) := M1
  clear M1 hga hgb eV2 eV3
  go_enter Tryz.func12, Tryz.ntmps12
  go_wp2_with fail
  simp only [← hW]
  refine (HPk _).mono ?_
  rintro e w1 ⟨rfl, rfl⟩
  clear HPk hW
  rw [← hN] at o0 o1 o2 o3 nW n0 ⊢
  clear hN
  have O4 := HM1.out.wm.own 4 (by omega)
  have e4 : (xs6 P R P' R' on bk 4).length = on.length := by simp [xs6, strs]
  rw [e4] at O4
  obtain ⟨a4, c4, hV4⟩ := owns_form O4
  have d4 : w1.cell? ⟨Q, 4, none⟩ = some (.slice a4 on.length c4) := by rw [← hV4]; exact HM1.out.cells 4 (by omega)
  have hol := HK.out.onl
  by_cases h0 : on.length = 0
  · have HF : Hid (GS6 B w0 w1 Q P R P' R' (c + 1)) := ⟨_, _, _, _, _, _, _, _, HM1.out, HK.out.mono (by omega)⟩
    rw [h0] at d4
    clear HM1 O4 hV4 h0 e4
    go_wp2
    go_ret
    exact ⟨rfl, HF.out⟩
  · obtain ⟨k, hk, HPA⟩ := pickAll A on.length g1 g2 (by omega) (by omega)
    obtain ⟨go, cap, eV, gol, hgo⟩ := HM1.out.ptr (i := 4) (n := on.length) (by omega) e4.symm (by omega)
    have ea : a4 = some ⟨go, 0, none⟩ := by rw [hV4] at eV; injection eV
    subst ea
    have d5 : w1.cell? ⟨go, k, none⟩ = some (.string on[k]) := hgo k _ (by simp [xs6, strs, hk])
    have HTXx : on[k].size ≤ 1048576 := HK.out.ons _ (List.getElem_mem hk)
    obtain ⟨TX, hTX⟩ : ∃ TX, TX = on[k] := ⟨_, rfl⟩
    rw [← hTX] at d5 HTXx
    have t0 : ((on.length : Int) == 0) = false := by simpa using h0
    obtain ⟨n, hn⟩ : ∃ n, n = on.length := ⟨_, rfl⟩
    rw [← hn] at d4 hk hol t0 HPA
    clear O4 hV4 eV e4 hgo h0 hTX hn
    have HM2 : Hid (Gm B w0 w1.drew (fun b => if w1.heap.size ≤ b then 0 else C1 b) Q S V on bk P R P' R' s l r r) := HM1.out.above (Below.refl _ _).drew
    have HPC : Calls Tryz.prog 18 #[.int .i64 A, .int .i64 n] w1.drew fun e w' => e = .returned (.int .i64 k) ∧ w' = w1.drew ∧ w'.cell? ⟨Q, 4, none⟩ = some (.slice (some ⟨go, 0, none⟩) n c4) ∧ w'.cell? ⟨N, 1, none⟩ = some (.int .i64 A) ∧ w'.cell? ⟨go, k, none⟩ = some (.string TX) := by
      refine (HPA w1.drew).mono ?_
      rintro e w' ⟨rfl, rfl⟩
      exact ⟨rfl, rfl, d4, o1, d5⟩
    go_wp2_with fail
    go_region_held3 (fun w' => w' = w1.drew ∧ w'.cell? ⟨Q, 4, none⟩ = some (.slice (some ⟨go, 0, none⟩) n c4) ∧ w'.cell? ⟨N, 1, none⟩ = some (.int .i64 A) ∧ w'.cell? ⟨go, k, none⟩ = some (.string TX)) (go_keep)
      (first | (go_at_call 18; refine HPC.mono ?_; rintro e w5 ⟨rfl, rfl, k0, k1, k2⟩))
    clear HPA HPC HM1 k0 k1 k2 d4 d5
    obtain ⟨C9, hC9⟩ : ∃ C9 : Nat → Nat, C9 = fun b => if w1.heap.size ≤ b then 0 else C1 b := ⟨_, rfl⟩
    rw [← hC9] at HM2
    generalize w1.drew = w9 at *
    have HM9 : Hid (Gm B w0 w9 C9 Q S V on bk P R P' R' s l r r) := HM2
    clear hC9 HM2
    have H1 := rHearR (r i) TX (P' i) (fun b => C9 b = 2 * i + 6) w9 HTXx HRO.out (HM9.out.rl i hi)
    have HRF := fun (C2 : Nat → Nat) (W2 : World) (h : RcvAt W2 (R' i) (r i) (fun b => C2 b = 2 * i + 7)) => refHearR (r i) TX (R' i) (fun b => C2 b = 2 * i + 7) W2 HTXx h HRO.out.nok (by have := HRO.out.kn; omega) HRO.out.hl
    go_wp2_with fail
    refine H1.mono ?_
    rintro e w2 ⟨ho, t2⟩
    rcases ho with ⟨m, h3, rfl, hl2⟩ | ⟨h3, rfl, hl2⟩
    · have M2 := HM9.out.recvL hi t2 hl2
      have H2 := HRF _ w2 (M2.rr i hi)
      have HM2 : Hid (Gm B w0 w2 (paint C9 (2 * i + 6) w9.heap.size) Q S V on bk P R P' R' s l (upv r i ((r i).hear m).1) r) := M2
      have HO' : Hid (ROkC ((r i).hear m).1 (c + 1)) := HRC.out.hear h3.1
      have HT' : Hid (TW ((r i).hear m).1) := HTW.out.hear HRO.out h3.1
      have H3 : Hid (Tells TX m) := h3
      have HX : Hid (∀ m', Tells TX m' → (r i).hear m' = (r i).hear m) := fun m' h5 => by rw [show m' = m by rw [← Ms.tells_lan h5, Ms.tells_lan h3]]
      clear H1 HRF hl2 t2 M2 HM9 a0 a1 a2 a3 o0 o1 o2 o3 h3
      go_wp2_with fail
      refine H2.mono ?_
      rintro e w3 ⟨hr, t3⟩
      rcases hr with ⟨m', h5, rfl, hr3⟩ | ⟨h5, _, _⟩
      · rw [HX.out m' h5] at hr3
        have HF : Hid (GS6 B w0 w3 Q P R P' R' (c + 1)) := ⟨_, _, _, _, _, _, _, _, HM2.out.recvR hi t3 hr3, HK.out.recv HO'.out HT'.out⟩
        have HE : Hid (((r i).hear m').2 = ((r i).hear m).2) := by unfold Hid; rw [HX.out m' h5]
        rw [HX.out m' h5]
        clear H2 hr3 t3 HM2 h5 HX
        go_wp2
        go_ret
        exact ⟨by simp, HF.out⟩
      · exact absurd H3.out (h5 m)
    · have M2 := HM9.out.recvL hi t2 hl2
      rw [upv_id] at M2
      have H2 := HRF _ w2 (M2.rr i hi)
      have HM2 : Hid (Gm B w0 w2 (paint C9 (2 * i + 6) w9.heap.size) Q S V on bk P R P' R' s l r r) := M2
      have H3 : Hid (∀ m, ¬ Tells TX m) := h3
      clear H1 HRF hl2 t2 M2 HM9 a0 a1 a2 a3 o0 o1 o2 o3 h3
      go_wp2_with fail
      refine H2.mono ?_
      rintro e w3 ⟨hr, t3⟩
      rcases hr with ⟨m', h5, _, _⟩ | ⟨_, rfl, hr3⟩
      · exact absurd h5 (H3.out m')
      · have m3 := HM2.out.recvR hi t3 hr3
        rw [upv_id] at m3
        have HF : Hid (GS6 B w0 w3 Q P R P' R' (c + 1)) := ⟨_, _, _, _, _, _, _, _, m3, HK.out.mono (by omega)⟩
        clear H2 hr3 t3 HM2 m3
        go_wp2
        go_ret
        exact ⟨by simp, HF.out⟩
end
end Sn
end Go.Proofs.YtkgnmcekeeannaaGreat
