import Derived.Test.YtkgnmcekeeannaaGreatY29
import Derived.Deep.RegionHeld3
/-
  The law's game begins: sending.
-/
namespace Go.Proofs.YtkgnmcekeeannaaGreat
open Go.RowKit Go.Deep
namespace Sn
open Bs
set_option linter.unusedVariables false

def SendingOut (g : Nat → Int) (e : Ending) (w w' : World) : Prop :=
  (e = .returned (.tuple #[.pointer none, .bool true]) ∧ Below w.heap.size w w') ∨
  (∃ Q C va vb ps qs, e = .returned (.tuple #[.pointer (some ⟨Q, 0, none⟩), .bool true]) ∧ SG w.heap.size w w' w.heap.size Q 2 true g C va vb ps qs ∧ ps.length = 2 ∧ qs.length = 2)
theorem sg_zero (g : Nat → Int) (w : World) : ∃ C, SG w.heap.size w ((w.alloc (.cells #[.int .i64 (g 0), .int .i64 (g 1), .int .i64 (g 2), .int .i64 (g 3), .int .i64 (g 4), .int .i64 (g 5)] 30)).alloc (.cells #[.slice none 0 0, .slice none 0 0, .slice none 0 0, .slice none 0 0, .slice none 0 0, .slice none 0 0] 47)) w.heap.size (w.heap.size + 1) 0 true g C (.slice none 0 0) (.slice none 0 0) [] [] := by
  have B1 : Below w.heap.size w (w.alloc (.cells #[.int .i64 (g 0), .int .i64 (g 1), .int .i64 (g 2), .int .i64 (g 3), .int .i64 (g 4), .int .i64 (g 5)] 30)) := (Below.refl _ _).alloc (Nat.le_refl _) _
  refine ⟨fun b => if b = w.heap.size + 1 then 5 else 0, ?_, ?_, B1.alloc (by simp) _, fun b hb => by simp; omega, by simp; omega, by simp, fun _ j hj => by omega, fun _ j hj => by omega⟩
  · refine ⟨?_, World.ownsRow_nil _ _ _ _, World.ownsRow_nil _ _ _ _, World.ownsRow_nil _ _ _ _, by simp, by simp [Value.ownBlock], by simp [Value.ownBlock], by simp [Value.ownBlock], by simp [Value.ownBlock], by simp [Value.ownBlock], by simp [Value.ownBlock], by simp [Value.ownBlock], by simp [Value.ownBlock], by simp [Value.ownBlock]⟩
    have h := World.rowIs_alloc (w.alloc (.cells #[.int .i64 (g 0), .int .i64 (g 1), .int .i64 (g 2), .int .i64 (g 3), .int .i64 (g 4), .int .i64 (g 5)] 30)) #[.slice none 0 0, .slice none 0 0, .slice none 0 0, .slice none 0 0, .slice none 0 0, .slice none 0 0] 47 (wRow (.slice none 0 0) (.slice none 0 0) (.slice none 0 0)) (fun i hi => by
      match i, hi with
      | 0, _ => rfl
      | 1, _ => rfl
      | 2, _ => rfl
      | 3, _ => rfl
      | 4, _ => rfl
      | 5, _ => rfl)
    simpa using h
  · have h := World.rowIs_alloc w #[.int .i64 (g 0), .int .i64 (g 1), .int .i64 (g 2), .int .i64 (g 3), .int .i64 (g 4), .int .i64 (g 5)] 30 (arrF g) (fun i hi => by
      match i, hi with
      | 0, _ => rfl
      | 1, _ => rfl
      | 2, _ => rfl
      | 3, _ => rfl
      | 4, _ => rfl
      | 5, _ => rfl)
    exact h.alloc _

set_option maxRecDepth 100000 in
set_option maxHeartbeats 8000000 in
theorem sending_any (g : Nat → Int) (w : World) :
    Calls Tryz.prog 8 #[.agg #[.int .i64 (g 0), .int .i64 (g 1), .int .i64 (g 2), .int .i64 (g 3), .int .i64 (g 4), .int .i64 (g 5)]] w fun e w' => SendingOut g e w w' := by
  obtain ⟨C0, h0⟩ := sg_zero g w
  have H0 : Hid (SG w.heap.size w ((w.alloc (.cells #[.int .i64 (g 0), .int .i64 (g 1), .int .i64 (g 2), .int .i64 (g 3), .int .i64 (g 4), .int .i64 (g 5)] 30)).alloc (.cells #[.slice none 0 0, .slice none 0 0, .slice none 0 0, .slice none 0 0, .slice none 0 0, .slice none 0 0] 47)) w.heap.size (w.heap.size + 1) 0 true g C0 (.slice none 0 0) (.slice none 0 0) [] []) := h0
  clear h0
  obtain ⟨i1, hi1, hz10, hz11, hz12⟩ := info_parts3 infoPL
  obtain ⟨i2, hi2, hz20, hz21, hz22⟩ := info_parts3 infoPR
  go_enter Tryz.func8, Tryz.ntmps8
  go_wp2
  go_loopw [5, 6] (fun x y wr => ∃ (k : Nat) (gv : Bool) (C : Nat → Nat) (va vb : Value) (ps qs : List (Option Nat)), k ≤ 2 ∧ x = .bool gv ∧ y = .int .i64 k ∧ SG w.heap.size w wr w.heap.size (w.heap.size + 1) k gv g C va vb ps qs ∧ ps.length = k ∧ qs.length = k) (fun _ y _ => 2 - (intOf y).toNat)
  case atStart => exact ⟨0, true, C0, _, _, [], [], by omega, rfl, rfl, H0.out, rfl, rfl⟩
  case round =>
    clear H0
    obtain ⟨k, gv, C, va, vb, ps, qs, hk, rfl, rfl, hS, hp, hq⟩ := hrel
    have HS : Hid (SG w.heap.size w wr w.heap.size (w.heap.size + 1) k gv g C va vb ps qs) := hS
    have HP : Hid (ps.length = k) := hp
    have HQ : Hid (qs.length = k) := hq
    clear hS
    by_cases hlt : k < 2
    · have y0 : wr.cell? ⟨w.heap.size, k * 3, none⟩ = some (.int .i64 (g (k * 3))) := HS.out.arr.cell (by omega)
      have y1 : wr.cell? ⟨w.heap.size, k * 3 + 1, none⟩ = some (.int .i64 (g (k * 3 + 1))) := HS.out.arr.cell (by omega)
      have y2 : wr.cell? ⟨w.heap.size, k * 3 + 2, none⟩ = some (.int .i64 (g (k * 3 + 2))) := HS.out.arr.cell (by omega)
      have HSd : Hid (SG w.heap.size w wr.drew w.heap.size (w.heap.size + 1) k gv g C va vb ps qs) := HS.out.drew
      have cjL : ∀ j, j < k → 2 * k + 1 ≠ 2 * j + 1 ∧ 2 * k + 1 ≠ 2 * j + 2 := fun j hj => by omega
      have cjR : ∀ j, j < k → 2 * k + 2 ≠ 2 * j + 1 ∧ 2 * k + 2 ≠ 2 * j + 2 := fun j hj => by omega
      have HcL : Hid (∀ j, j < k → 2 * k + 1 ≠ 2 * j + 1 ∧ 2 * k + 1 ≠ 2 * j + 2) := cjL
      have HcR : Hid (∀ j, j < k → 2 * k + 2 ≠ 2 * j + 1 ∧ 2 * k + 2 ≠ 2 * j + 2) := cjR
      clear cjL cjR
      by_cases hE : rightE (g (k * 3)) (g (k * 3 + 1)) (g (k * 3 + 2)) = 0
      · obtain ⟨n, hn, e1, e2, e3⟩ := rightE_zero _ _ _ hE
        rw [e1] at y0
        rw [e2] at y1
        rw [e3] at y2
        have HN : Hid n.ok := hn
        have HAR : Hid (g (k * 3) = n.size ∧ g (k * 3 + 1) = n.block ∧ g (k * 3 + 2) = n.spare) := ⟨e1, e2, e3⟩
        have HRT : Hid (rightE (g (k * 3)) (g (k * 3 + 1)) (g (k * 3 + 2)) = 0) := hE
        have HL : Calls Tryz.prog 14 #[.int .i64 n.size, .int .i64 n.block, .int .i64 n.spare] wr.drew fun e w' => ∃ P, e = .returned (.tuple #[.pointer (some ⟨P, 0, none⟩), .int .i64 0]) ∧ w'.cell? ⟨w.heap.size, k * 3, none⟩ = some (.int .i64 n.size) ∧ w'.cell? ⟨w.heap.size, k * 3 + 1, none⟩ = some (.int .i64 n.block) ∧ w'.cell? ⟨w.heap.size, k * 3 + 2, none⟩ = some (.int .i64 n.spare) ∧ Hid (LndAt w' P (LS.fresh n) (fun b => paint C (2 * k + 1) wr.drew.heap.size b = 2 * k + 1) ∧ SG w.heap.size w w' w.heap.size (w.heap.size + 1) k gv g (paint C (2 * k + 1) wr.drew.heap.size) va vb ps qs) := by
          refine (newL n hn wr.drew).mono ?_
          rintro e w' ⟨P, rfl, hl, hb⟩
          have s1 := HSd.out.touch (c := 2 * k + 1) (Touch.of_below hb) (by omega) (by omega) HcL.out
          refine ⟨P, rfl, ?_, ?_, ?_, hl.mono (fun b hb' _ => paint_new hb'.1), s1⟩
          · rw [← e1]; exact s1.arr.cell (by omega)
          · rw [← e2]; exact s1.arr.cell (by omega)
          · rw [← e3]; exact s1.arr.cell (by omega)
        clear e1 e2 e3 hE HS HSd hn
        go_wp2_with fail
        go_region_held3 (fun w' => w'.cell? ⟨w.heap.size, k * 3, none⟩ = some (.int .i64 n.size) ∧ w'.cell? ⟨w.heap.size, k * 3 + 1, none⟩ = some (.int .i64 n.block) ∧ w'.cell? ⟨w.heap.size, k * 3 + 2, none⟩ = some (.int .i64 n.spare)) (go_keep)
          (first | (go_at_call 14; refine HL.mono ?_; rintro e w1 ⟨P, rfl, x0, x1, x2, HS1⟩))
        clear HL y0 y1 y2
        obtain ⟨C1, hC1⟩ : ∃ C1, C1 = paint C (2 * k + 1) wr.drew.heap.size := ⟨_, rfl⟩
        rw [← hC1] at HS1
        clear hC1
        have HR : Calls Tryz.prog 15 #[.int .i64 n.size, .int .i64 n.block, .int .i64 n.spare] w1.drew fun e w' => ∃ R, e = .returned (.tuple #[.pointer (some ⟨R, 0, none⟩), .int .i64 0]) ∧ w'.cell? ⟨w.heap.size, k * 3, none⟩ = some (.int .i64 n.size) ∧ w'.cell? ⟨w.heap.size, k * 3 + 1, none⟩ = some (.int .i64 n.block) ∧ w'.cell? ⟨w.heap.size, k * 3 + 2, none⟩ = some (.int .i64 n.spare) ∧ Hid (∃ C2, Fresh w' C2 k (some P) (some R) ∧ SG w.heap.size w w' w.heap.size (w.heap.size + 1) k gv g C2 va vb ps qs) := by
          refine (newR n HN.out w1.drew).mono ?_
          rintro e w' ⟨R, rfl, hl, hb⟩
          have s1 := HS1.out.2.drew.touch (c := 2 * k + 2) (Touch.of_below hb) (by omega) (by omega) HcR.out
          have l1 : LndAt w1.drew P (LS.fresh n) (fun b => C1 b = 2 * k + 1) := by obtain ⟨ao, co, D, h⟩ := HS1.out.1; exact ⟨ao, co, D, h.drew⟩
          refine ⟨R, rfl, ?_, ?_, ?_, _, ⟨P, R, n, rfl, rfl, HN.out, stay_l (by omega) l1 (Touch.of_below hb), hl.mono (fun b hb' _ => paint_new hb'.1)⟩, s1⟩
          · rw [← HAR.out.1]; exact s1.arr.cell (by omega)
          · rw [← HAR.out.2.1]; exact s1.arr.cell (by omega)
          · rw [← HAR.out.2.2]; exact s1.arr.cell (by omega)
        clear HS1
        go_wp2_with fail
        go_region_held3 (fun w' => w'.cell? ⟨w.heap.size, k * 3, none⟩ = some (.int .i64 n.size) ∧ w'.cell? ⟨w.heap.size, k * 3 + 1, none⟩ = some (.int .i64 n.block) ∧ w'.cell? ⟨w.heap.size, k * 3 + 2, none⟩ = some (.int .i64 n.spare)) (go_keep)
          (first | (go_at_call 15; refine HR.mono ?_; rintro e w2 ⟨R, rfl, z0, z1, z2, HS2⟩))
        clear HR x0 x1 x2 z0 z1 z2 HAR
        have HFR : Hid (∃ C2, (gv = true → Fresh w2 C2 k (some P) (some R)) ∧ SG w.heap.size w w2 w.heap.size (w.heap.size + 1) k gv g C2 va vb ps qs) := by obtain ⟨C2, f, s⟩ := HS2.out; exact ⟨C2, fun _ => f, s⟩
        clear HS2
        cases gv with
        | true =>
          obtain ⟨C2, hF, hS⟩ := HFR.out
          have c0 : w2.cell? ⟨w.heap.size + 1, 0, none⟩ = some va := hS.wm.row.cell (by decide)
          have OWA : Hid (w2.ownsRow 0 49 1 va k (ptrs ps)) := by unfold Hid; rw [← HP.out]; exact hS.wm.a
          have HS3 : Hid (SG w.heap.size w w2 w.heap.size (w.heap.size + 1) k true g C2 va vb ps qs) := hS
          have HF3 : Hid (true = true → Fresh w2 C2 k (some P) (some R)) := hF
          have hQl := hS.wm.row.lt
          clear hF hS HFR hp hq
          generalize hXS : ptrs ps = XS at *
          have HXS : Hid (ptrs ps = XS) := hXS
          clear hXS
          go_wp2_with (at_builtin; refine wpList_append_own_at _ rfl _ _ 42 rfl 0 49 i1 (.pointer none) 1 8 Tryz.underlying42 hi1 hz10 hz11 hz12 rfl (by decide) va k XS rfl (OWA.out.alloc _) ⟨w2.heap.size, 0, none⟩ 1 1 [.pointer (some ⟨P, 0, none⟩)] rfl rfl Cod.one_news (by intro u hu; simp at hu; subst hu; rfl) (by unfold maxLen; omega) (by omega) (Nat.zero_le _) ?_)
          intro v' w3 hown' hgrow _ hat
          obtain ⟨ao2, co2, rfl⟩ := owns_form hown'
          rw [← HXS.out] at hown'
          have hown2 := hown'
          rw [← HP.out] at hown2
          obtain ⟨s3, t3⟩ := SG.more (x := some P) HS3.out (by rw [HP.out]; exact Nat.le_refl _) hown2 hgrow (by rw [HP.out]; simpa using hat) hk
          rw [HP.out] at s3 t3
          have R4 := HS3.out.wm.row.of_block (grown_block hgrow HS3.out.wm.row.lt HS3.out.wm.aq)
          have c0' : w3.cell? ⟨w.heap.size + 1, 0, none⟩ = some va := R4.cell (by decide)
          have f0' := R4.frozen 0
          have hQ3 : w.heap.size + 1 < w3.heap.size := R4.lt
          obtain ⟨C3, hC3⟩ : ∃ C3, C3 = paint C2 5 w2.heap.size := ⟨_, rfl⟩
          have HF4 : Hid (true = true → Fresh (w3.setCell ⟨w.heap.size + 1, 0, none⟩ (.slice ao2 (k + 1) co2)) C3 k (some P) (some R)) := fun h => by rw [hC3]; exact (HF3.out (by first | exact h | trivial)).touch t3 (by omega) (by omega)
          rw [← hC3] at s3
          have HS4 : Hid (SG w.heap.size w (w3.setCell ⟨w.heap.size + 1, 0, none⟩ (.slice ao2 (k + 1) co2)) w.heap.size (w.heap.size + 1) k true g C3 (.slice ao2 (k + 1) co2) vb (ps ++ [some P]) qs) := s3
          clear hown' hown2 hgrow hat s3 t3 R4 c0 OWA HS3 HF3 hC3 hQl HXS
          go_upto_region 12 with fail
          clear c0' f0'
          generalize w3.setCell ⟨w.heap.size + 1, 0, none⟩ (.slice ao2 (k + 1) co2) = w4 at *
          have c1 : w4.cell? ⟨w.heap.size + 1, 1, none⟩ = some vb := HS4.out.wm.row.cell (by decide)
          have OWB : Hid (w4.ownsRow 0 52 1 vb k (ptrs qs)) := by unfold Hid; rw [← HQ.out]; exact HS4.out.wm.b
          generalize hXS : ptrs qs = YS at *
          have HYS : Hid (ptrs qs = YS) := hXS
          clear hXS
          go_wp2_with (at_builtin; refine wpList_append_own_at _ rfl _ _ 43 rfl 0 52 i2 (.pointer none) 1 8 Tryz.underlying43 hi2 hz20 hz21 hz22 rfl (by decide) vb k YS rfl (OWB.out.alloc _) ⟨w4.heap.size, 0, none⟩ 1 1 [.pointer (some ⟨R, 0, none⟩)] rfl rfl Cod.one_news (by intro u hu; simp at hu; subst hu; rfl) (by unfold maxLen; omega) (by omega) (Nat.zero_le _) ?_)
          intro v' w5 hown' hgrow _ hat
          obtain ⟨ao3, co3, rfl⟩ := owns_form hown'
          rw [← HYS.out] at hown'
          have hown2 := hown'
          rw [← HQ.out] at hown2
          obtain ⟨s5, t5⟩ := SG.more' (x := some R) HS4.out (by rw [HQ.out]; exact Nat.le_refl _) hown2 hgrow (by rw [HQ.out]; simpa using hat) hk
          rw [HQ.out] at s5 t5
          have R5 := HS4.out.wm.row.of_block (grown_block hgrow HS4.out.wm.row.lt HS4.out.wm.bq)
          have c1' : w5.cell? ⟨w.heap.size + 1, 1, none⟩ = some vb := R5.cell (by decide)
          have f1' := R5.frozen 1
          have HS5 : Hid (∃ C5, SG w.heap.size w (w5.setCell ⟨w.heap.size + 1, 1, none⟩ (.slice ao3 (k + 1) co3)) w.heap.size (w.heap.size + 1) (k + 1) true g C5 (.slice ao2 (k + 1) co2) (.slice ao3 (k + 1) co3) (ps ++ [some P]) (qs ++ [some R])) :=
            ⟨_, s5.join HP.out HQ.out (fun h => ⟨h, (HF4.out (by first | exact h | trivial)).touch t5 (by omega) (by omega), HRT.out⟩)⟩
          clear hown' hown2 hgrow hat s5 t5 R5 c1 OWB HS4 HF4 HYS
          go_wp2
          go_roundw
          case rel =>
            obtain ⟨C5, s5⟩ := HS5.out
            exact ⟨k + 1, true, C5, _, _, _, _, by omega, by simp, by go_num, s5, by simp [HP.out], by simp [HQ.out]⟩
          case measure => simp [intOf]; omega
        | false =>
          obtain ⟨C2, hF, hS⟩ := HFR.out
          have c0 : w2.cell? ⟨w.heap.size + 1, 0, none⟩ = some va := hS.wm.row.cell (by decide)
          have OWA : Hid (w2.ownsRow 0 49 1 va k (ptrs ps)) := by unfold Hid; rw [← HP.out]; exact hS.wm.a
          have HS3 : Hid (SG w.heap.size w w2 w.heap.size (w.heap.size + 1) k false g C2 va vb ps qs) := hS
          have HF3 : Hid (false = true → Fresh w2 C2 k (some P) (some R)) := hF
          have hQl := hS.wm.row.lt
          clear hF hS HFR hp hq
          generalize hXS : ptrs ps = XS at *
          have HXS : Hid (ptrs ps = XS) := hXS
          clear hXS
          go_wp2_with (at_builtin; refine wpList_append_own_at _ rfl _ _ 42 rfl 0 49 i1 (.pointer none) 1 8 Tryz.underlying42 hi1 hz10 hz11 hz12 rfl (by decide) va k XS rfl (OWA.out.alloc _) ⟨w2.heap.size, 0, none⟩ 1 1 [.pointer (some ⟨P, 0, none⟩)] rfl rfl Cod.one_news (by intro u hu; simp at hu; subst hu; rfl) (by unfold maxLen; omega) (by omega) (Nat.zero_le _) ?_)
          intro v' w3 hown' hgrow _ hat
          obtain ⟨ao2, co2, rfl⟩ := owns_form hown'
          rw [← HXS.out] at hown'
          have hown2 := hown'
          rw [← HP.out] at hown2
          obtain ⟨s3, t3⟩ := SG.more (x := some P) HS3.out (by rw [HP.out]; exact Nat.le_refl _) hown2 hgrow (by rw [HP.out]; simpa using hat) hk
          rw [HP.out] at s3 t3
          have R4 := HS3.out.wm.row.of_block (grown_block hgrow HS3.out.wm.row.lt HS3.out.wm.aq)
          have c0' : w3.cell? ⟨w.heap.size + 1, 0, none⟩ = some va := R4.cell (by decide)
          have f0' := R4.frozen 0
          have hQ3 : w.heap.size + 1 < w3.heap.size := R4.lt
          obtain ⟨C3, hC3⟩ : ∃ C3, C3 = paint C2 5 w2.heap.size := ⟨_, rfl⟩
          have HF4 : Hid (false = true → Fresh (w3.setCell ⟨w.heap.size + 1, 0, none⟩ (.slice ao2 (k + 1) co2)) C3 k (some P) (some R)) := fun h => by rw [hC3]; exact (HF3.out (by first | exact h | trivial)).touch t3 (by omega) (by omega)
          rw [← hC3] at s3
          have HS4 : Hid (SG w.heap.size w (w3.setCell ⟨w.heap.size + 1, 0, none⟩ (.slice ao2 (k + 1) co2)) w.heap.size (w.heap.size + 1) k false g C3 (.slice ao2 (k + 1) co2) vb (ps ++ [some P]) qs) := s3
          clear hown' hown2 hgrow hat s3 t3 R4 c0 OWA HS3 HF3 hC3 hQl HXS
          go_upto_region 12 with fail
          clear c0' f0'
          generalize w3.setCell ⟨w.heap.size + 1, 0, none⟩ (.slice ao2 (k + 1) co2) = w4 at *
          have c1 : w4.cell? ⟨w.heap.size + 1, 1, none⟩ = some vb := HS4.out.wm.row.cell (by decide)
          have OWB : Hid (w4.ownsRow 0 52 1 vb k (ptrs qs)) := by unfold Hid; rw [← HQ.out]; exact HS4.out.wm.b
          generalize hXS : ptrs qs = YS at *
          have HYS : Hid (ptrs qs = YS) := hXS
          clear hXS
          go_wp2_with (at_builtin; refine wpList_append_own_at _ rfl _ _ 43 rfl 0 52 i2 (.pointer none) 1 8 Tryz.underlying43 hi2 hz20 hz21 hz22 rfl (by decide) vb k YS rfl (OWB.out.alloc _) ⟨w4.heap.size, 0, none⟩ 1 1 [.pointer (some ⟨R, 0, none⟩)] rfl rfl Cod.one_news (by intro u hu; simp at hu; subst hu; rfl) (by unfold maxLen; omega) (by omega) (Nat.zero_le _) ?_)
          intro v' w5 hown' hgrow _ hat
          obtain ⟨ao3, co3, rfl⟩ := owns_form hown'
          rw [← HYS.out] at hown'
          have hown2 := hown'
          rw [← HQ.out] at hown2
          obtain ⟨s5, t5⟩ := SG.more' (x := some R) HS4.out (by rw [HQ.out]; exact Nat.le_refl _) hown2 hgrow (by rw [HQ.out]; simpa using hat) hk
          rw [HQ.out] at s5 t5
          have R5 := HS4.out.wm.row.of_block (grown_block hgrow HS4.out.wm.row.lt HS4.out.wm.bq)
          have c1' : w5.cell? ⟨w.heap.size + 1, 1, none⟩ = some vb := R5.cell (by decide)
          have f1' := R5.frozen 1
          have HS5 : Hid (∃ C5, SG w.heap.size w (w5.setCell ⟨w.heap.size + 1, 1, none⟩ (.slice ao3 (k + 1) co3)) w.heap.size (w.heap.size + 1) (k + 1) false g C5 (.slice ao2 (k + 1) co2) (.slice ao3 (k + 1) co3) (ps ++ [some P]) (qs ++ [some R])) :=
            ⟨_, s5.join HP.out HQ.out (fun h => ⟨h, (HF4.out (by first | exact h | trivial)).touch t5 (by omega) (by omega), HRT.out⟩)⟩
          clear hown' hown2 hgrow hat s5 t5 R5 c1 OWB HS4 HF4 HYS
          go_wp2
          go_roundw
          case rel =>
            obtain ⟨C5, s5⟩ := HS5.out
            exact ⟨k + 1, false, C5, _, _, _, _, by omega, by simp, by go_num, s5, by simp [HP.out], by simp [HQ.out]⟩
          case measure => simp [intOf]; omega
      · obtain ⟨a, ha⟩ : ∃ a, a = g (k * 3) := ⟨_, rfl⟩
        obtain ⟨b, hb⟩ : ∃ a, a = g (k * 3 + 1) := ⟨_, rfl⟩
        obtain ⟨c, hc⟩ : ∃ a, a = g (k * 3 + 2) := ⟨_, rfl⟩
        rw [← ha] at y0
        rw [← hb] at y1
        rw [← hc] at y2
        rw [← ha, ← hb, ← hc] at hE
        have HAR : Hid (a = g (k * 3) ∧ b = g (k * 3 + 1) ∧ c = g (k * 3 + 2)) := ⟨ha, hb, hc⟩
        have HE : Hid (rightE a b c ≠ 0) := hE
        have HL : Calls Tryz.prog 14 #[.int .i64 a, .int .i64 b, .int .i64 c] wr.drew fun e w' => e = .returned (.tuple #[.pointer none, .int .i64 (rightE a b c)]) ∧ w'.cell? ⟨w.heap.size, k * 3, none⟩ = some (.int .i64 a) ∧ w'.cell? ⟨w.heap.size, k * 3 + 1, none⟩ = some (.int .i64 b) ∧ w'.cell? ⟨w.heap.size, k * 3 + 2, none⟩ = some (.int .i64 c) ∧ Hid (SG w.heap.size w w' w.heap.size (w.heap.size + 1) k gv g (paint C (2 * k + 1) wr.drew.heap.size) va vb ps qs) := by
          refine (badL a b c hE wr.drew).mono ?_
          rintro e w' ⟨rfl, hb'⟩
          have s1 := HSd.out.touch (c := 2 * k + 1) (Touch.of_below hb') (by omega) (by omega) HcL.out
          refine ⟨rfl, ?_, ?_, ?_, s1⟩
          · rw [ha]; exact s1.arr.cell (by omega)
          · rw [hb]; exact s1.arr.cell (by omega)
          · rw [hc]; exact s1.arr.cell (by omega)
        clear ha hb hc hE HS HSd
        generalize hEE : rightE a b c = E at *
        have HEE : Hid (rightE a b c = E) := hEE
        clear hEE
        go_wp2_with fail
        go_region_held3 (fun w' => w'.cell? ⟨w.heap.size, k * 3, none⟩ = some (.int .i64 a) ∧ w'.cell? ⟨w.heap.size, k * 3 + 1, none⟩ = some (.int .i64 b) ∧ w'.cell? ⟨w.heap.size, k * 3 + 2, none⟩ = some (.int .i64 c)) (go_keep)
          (first | (go_at_call 14; refine HL.mono ?_; rintro e w1 ⟨rfl, x0, x1, x2, HS1⟩))
        clear HL y0 y1 y2
        obtain ⟨C1, hC1⟩ : ∃ C1, C1 = paint C (2 * k + 1) wr.drew.heap.size := ⟨_, rfl⟩
        rw [← hC1] at HS1
        clear hC1
        have HR : Calls Tryz.prog 15 #[.int .i64 a, .int .i64 b, .int .i64 c] w1.drew fun e w' => e = .returned (.tuple #[.pointer none, .int .i64 E]) ∧ w'.cell? ⟨w.heap.size, k * 3, none⟩ = some (.int .i64 a) ∧ w'.cell? ⟨w.heap.size, k * 3 + 1, none⟩ = some (.int .i64 b) ∧ w'.cell? ⟨w.heap.size, k * 3 + 2, none⟩ = some (.int .i64 c) ∧ Hid (∃ C2, SG w.heap.size w w' w.heap.size (w.heap.size + 1) k gv g C2 va vb ps qs) := by
          refine (badR a b c (by rw [HEE.out]; exact HE.out) w1.drew).mono ?_
          rintro e w' ⟨rfl, hb'⟩
          have s1 := HS1.out.drew.touch (c := 2 * k + 2) (Touch.of_below hb') (by omega) (by omega) HcR.out
          refine ⟨by rw [HEE.out], ?_, ?_, ?_, _, s1⟩
          · rw [HAR.out.1]; exact s1.arr.cell (by omega)
          · rw [HAR.out.2.1]; exact s1.arr.cell (by omega)
          · rw [HAR.out.2.2]; exact s1.arr.cell (by omega)
        clear HS1
        go_wp2_with fail
        go_region_held3 (fun w' => w'.cell? ⟨w.heap.size, k * 3, none⟩ = some (.int .i64 a) ∧ w'.cell? ⟨w.heap.size, k * 3 + 1, none⟩ = some (.int .i64 b) ∧ w'.cell? ⟨w.heap.size, k * 3 + 2, none⟩ = some (.int .i64 c)) (go_keep)
          (first | (go_at_call 15; refine HR.mono ?_; rintro e w2 ⟨rfl, z0, z1, z2, HS2⟩))
        clear HR x0 x1 x2 z0 z1 z2 HAR
        have HFR : Hid (∃ C2, (false = true → Fresh w2 C2 k none none) ∧ SG w.heap.size w w2 w.heap.size (w.heap.size + 1) k gv g C2 va vb ps qs) := by obtain ⟨C2, s⟩ := HS2.out; exact ⟨C2, fun h => absurd h (by decide), s⟩
        clear HS2
        cases gv with
        | true =>
          obtain ⟨C2, hF, hS⟩ := HFR.out
          have c0 : w2.cell? ⟨w.heap.size + 1, 0, none⟩ = some va := hS.wm.row.cell (by decide)
          have OWA : Hid (w2.ownsRow 0 49 1 va k (ptrs ps)) := by unfold Hid; rw [← HP.out]; exact hS.wm.a
          have HS3 : Hid (SG w.heap.size w w2 w.heap.size (w.heap.size + 1) k true g C2 va vb ps qs) := hS
          have HF3 : Hid (false = true → Fresh w2 C2 k (none) (none)) := hF
          have hQl := hS.wm.row.lt
          clear hF hS HFR hp hq
          generalize hXS : ptrs ps = XS at *
          have HXS : Hid (ptrs ps = XS) := hXS
          clear hXS
          go_wp2_with (at_builtin; refine wpList_append_own_at _ rfl _ _ 42 rfl 0 49 i1 (.pointer none) 1 8 Tryz.underlying42 hi1 hz10 hz11 hz12 rfl (by decide) va k XS rfl (OWA.out.alloc _) ⟨w2.heap.size, 0, none⟩ 1 1 [.pointer none] rfl rfl Cod.one_news (by intro u hu; simp at hu; subst hu; rfl) (by unfold maxLen; omega) (by omega) (Nat.zero_le _) ?_)
          intro v' w3 hown' hgrow _ hat
          obtain ⟨ao2, co2, rfl⟩ := owns_form hown'
          rw [← HXS.out] at hown'
          have hown2 := hown'
          rw [← HP.out] at hown2
          obtain ⟨s3, t3⟩ := SG.more (x := none) HS3.out (by rw [HP.out]; exact Nat.le_refl _) hown2 hgrow (by rw [HP.out]; simpa using hat) hk
          rw [HP.out] at s3 t3
          have R4 := HS3.out.wm.row.of_block (grown_block hgrow HS3.out.wm.row.lt HS3.out.wm.aq)
          have c0' : w3.cell? ⟨w.heap.size + 1, 0, none⟩ = some va := R4.cell (by decide)
          have f0' := R4.frozen 0
          have hQ3 : w.heap.size + 1 < w3.heap.size := R4.lt
          obtain ⟨C3, hC3⟩ : ∃ C3, C3 = paint C2 5 w2.heap.size := ⟨_, rfl⟩
          have HF4 : Hid (false = true → Fresh (w3.setCell ⟨w.heap.size + 1, 0, none⟩ (.slice ao2 (k + 1) co2)) C3 k (none) (none)) := fun h => by rw [hC3]; exact (HF3.out (by first | exact h | trivial)).touch t3 (by omega) (by omega)
          rw [← hC3] at s3
          have HS4 : Hid (SG w.heap.size w (w3.setCell ⟨w.heap.size + 1, 0, none⟩ (.slice ao2 (k + 1) co2)) w.heap.size (w.heap.size + 1) k true g C3 (.slice ao2 (k + 1) co2) vb (ps ++ [none]) qs) := s3
          clear hown' hown2 hgrow hat s3 t3 R4 c0 OWA HS3 HF3 hC3 hQl HXS
          go_upto_region 12 with fail
          clear c0' f0'
          generalize w3.setCell ⟨w.heap.size + 1, 0, none⟩ (.slice ao2 (k + 1) co2) = w4 at *
          have c1 : w4.cell? ⟨w.heap.size + 1, 1, none⟩ = some vb := HS4.out.wm.row.cell (by decide)
          have OWB : Hid (w4.ownsRow 0 52 1 vb k (ptrs qs)) := by unfold Hid; rw [← HQ.out]; exact HS4.out.wm.b
          generalize hXS : ptrs qs = YS at *
          have HYS : Hid (ptrs qs = YS) := hXS
          clear hXS
          go_wp2_with (at_builtin; refine wpList_append_own_at _ rfl _ _ 43 rfl 0 52 i2 (.pointer none) 1 8 Tryz.underlying43 hi2 hz20 hz21 hz22 rfl (by decide) vb k YS rfl (OWB.out.alloc _) ⟨w4.heap.size, 0, none⟩ 1 1 [.pointer none] rfl rfl Cod.one_news (by intro u hu; simp at hu; subst hu; rfl) (by unfold maxLen; omega) (by omega) (Nat.zero_le _) ?_)
          intro v' w5 hown' hgrow _ hat
          obtain ⟨ao3, co3, rfl⟩ := owns_form hown'
          rw [← HYS.out] at hown'
          have hown2 := hown'
          rw [← HQ.out] at hown2
          obtain ⟨s5, t5⟩ := SG.more' (x := none) HS4.out (by rw [HQ.out]; exact Nat.le_refl _) hown2 hgrow (by rw [HQ.out]; simpa using hat) hk
          rw [HQ.out] at s5 t5
          have R5 := HS4.out.wm.row.of_block (grown_block hgrow HS4.out.wm.row.lt HS4.out.wm.bq)
          have c1' : w5.cell? ⟨w.heap.size + 1, 1, none⟩ = some vb := R5.cell (by decide)
          have f1' := R5.frozen 1
          have HS5 : Hid (∃ C5, SG w.heap.size w (w5.setCell ⟨w.heap.size + 1, 1, none⟩ (.slice ao3 (k + 1) co3)) w.heap.size (w.heap.size + 1) (k + 1) false g C5 (.slice ao2 (k + 1) co2) (.slice ao3 (k + 1) co3) (ps ++ [none]) (qs ++ [none])) :=
            ⟨_, s5.join HP.out HQ.out (fun h => absurd h (by decide))⟩
          clear hown' hown2 hgrow hat s5 t5 R5 c1 OWB HS4 HF4 HYS
          go_wp2
          go_roundw
          case rel =>
            obtain ⟨C5, s5⟩ := HS5.out
            exact ⟨k + 1, false, C5, _, _, _, _, by omega, by simp, by go_num, s5, by simp [HP.out], by simp [HQ.out]⟩
          case measure => simp [intOf]; omega
        | false =>
          obtain ⟨C2, hF, hS⟩ := HFR.out
          have c0 : w2.cell? ⟨w.heap.size + 1, 0, none⟩ = some va := hS.wm.row.cell (by decide)
          have OWA : Hid (w2.ownsRow 0 49 1 va k (ptrs ps)) := by unfold Hid; rw [← HP.out]; exact hS.wm.a
          have HS3 : Hid (SG w.heap.size w w2 w.heap.size (w.heap.size + 1) k false g C2 va vb ps qs) := hS
          have HF3 : Hid (false = true → Fresh w2 C2 k (none) (none)) := hF
          have hQl := hS.wm.row.lt
          clear hF hS HFR hp hq
          generalize hXS : ptrs ps = XS at *
          have HXS : Hid (ptrs ps = XS) := hXS
          clear hXS
          go_wp2_with (at_builtin; refine wpList_append_own_at _ rfl _ _ 42 rfl 0 49 i1 (.pointer none) 1 8 Tryz.underlying42 hi1 hz10 hz11 hz12 rfl (by decide) va k XS rfl (OWA.out.alloc _) ⟨w2.heap.size, 0, none⟩ 1 1 [.pointer none] rfl rfl Cod.one_news (by intro u hu; simp at hu; subst hu; rfl) (by unfold maxLen; omega) (by omega) (Nat.zero_le _) ?_)
          intro v' w3 hown' hgrow _ hat
          obtain ⟨ao2, co2, rfl⟩ := owns_form hown'
          rw [← HXS.out] at hown'
          have hown2 := hown'
          rw [← HP.out] at hown2
          obtain ⟨s3, t3⟩ := SG.more (x := none) HS3.out (by rw [HP.out]; exact Nat.le_refl _) hown2 hgrow (by rw [HP.out]; simpa using hat) hk
          rw [HP.out] at s3 t3
          have R4 := HS3.out.wm.row.of_block (grown_block hgrow HS3.out.wm.row.lt HS3.out.wm.aq)
          have c0' : w3.cell? ⟨w.heap.size + 1, 0, none⟩ = some va := R4.cell (by decide)
          have f0' := R4.frozen 0
          have hQ3 : w.heap.size + 1 < w3.heap.size := R4.lt
          obtain ⟨C3, hC3⟩ : ∃ C3, C3 = paint C2 5 w2.heap.size := ⟨_, rfl⟩
          have HF4 : Hid (false = true → Fresh (w3.setCell ⟨w.heap.size + 1, 0, none⟩ (.slice ao2 (k + 1) co2)) C3 k (none) (none)) := fun h => by rw [hC3]; exact (HF3.out (by first | exact h | trivial)).touch t3 (by omega) (by omega)
          rw [← hC3] at s3
          have HS4 : Hid (SG w.heap.size w (w3.setCell ⟨w.heap.size + 1, 0, none⟩ (.slice ao2 (k + 1) co2)) w.heap.size (w.heap.size + 1) k false g C3 (.slice ao2 (k + 1) co2) vb (ps ++ [none]) qs) := s3
          clear hown' hown2 hgrow hat s3 t3 R4 c0 OWA HS3 HF3 hC3 hQl HXS
          go_upto_region 12 with fail
          clear c0' f0'
          generalize w3.setCell ⟨w.heap.size + 1, 0, none⟩ (.slice ao2 (k + 1) co2) = w4 at *
          have c1 : w4.cell? ⟨w.heap.size + 1, 1, none⟩ = some vb := HS4.out.wm.row.cell (by decide)
          have OWB : Hid (w4.ownsRow 0 52 1 vb k (ptrs qs)) := by unfold Hid; rw [← HQ.out]; exact HS4.out.wm.b
          generalize hXS : ptrs qs = YS at *
          have HYS : Hid (ptrs qs = YS) := hXS
          clear hXS
          go_wp2_with (at_builtin; refine wpList_append_own_at _ rfl _ _ 43 rfl 0 52 i2 (.pointer none) 1 8 Tryz.underlying43 hi2 hz20 hz21 hz22 rfl (by decide) vb k YS rfl (OWB.out.alloc _) ⟨w4.heap.size, 0, none⟩ 1 1 [.pointer none] rfl rfl Cod.one_news (by intro u hu; simp at hu; subst hu; rfl) (by unfold maxLen; omega) (by omega) (Nat.zero_le _) ?_)
          intro v' w5 hown' hgrow _ hat
          obtain ⟨ao3, co3, rfl⟩ := owns_form hown'
          rw [← HYS.out] at hown'
          have hown2 := hown'
          rw [← HQ.out] at hown2
          obtain ⟨s5, t5⟩ := SG.more' (x := none) HS4.out (by rw [HQ.out]; exact Nat.le_refl _) hown2 hgrow (by rw [HQ.out]; simpa using hat) hk
          rw [HQ.out] at s5 t5
          have R5 := HS4.out.wm.row.of_block (grown_block hgrow HS4.out.wm.row.lt HS4.out.wm.bq)
          have c1' : w5.cell? ⟨w.heap.size + 1, 1, none⟩ = some vb := R5.cell (by decide)
          have f1' := R5.frozen 1
          have HS5 : Hid (∃ C5, SG w.heap.size w (w5.setCell ⟨w.heap.size + 1, 1, none⟩ (.slice ao3 (k + 1) co3)) w.heap.size (w.heap.size + 1) (k + 1) false g C5 (.slice ao2 (k + 1) co2) (.slice ao3 (k + 1) co3) (ps ++ [none]) (qs ++ [none])) :=
            ⟨_, s5.join HP.out HQ.out (fun h => absurd h (by decide))⟩
          clear hown' hown2 hgrow hat s5 t5 R5 c1 OWB HS4 HF4 HYS
          go_wp2
          go_roundw
          case rel =>
            obtain ⟨C5, s5⟩ := HS5.out
            exact ⟨k + 1, false, C5, _, _, _, _, by omega, by simp, by go_num, s5, by simp [HP.out], by simp [HQ.out]⟩
          case measure => simp [intOf]; omega
    · obtain rfl : k = 2 := by omega
      clear hlt
      cases gv with
      | true =>
        go_wp2
        go_ret2
        exact .inr ⟨_, C, va, vb, ps, qs, rfl, HS.out, HP.out, HQ.out⟩
      | false =>
        go_wp2
        go_ret2
        exact .inl ⟨rfl, HS.out.bel⟩
end Sn
end Go.Proofs.YtkgnmcekeeannaaGreat
