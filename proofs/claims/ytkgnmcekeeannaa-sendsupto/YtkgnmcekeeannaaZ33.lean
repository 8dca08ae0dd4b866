import Derived.Test.YtkgnmcekeeannaaZ32
/-
  The landed sender's answer.
-/
namespace Go.Proofs.Ytkgnmcekeeannaa
open Go.RowKit Go.Deep
namespace Sn
open Bs
set_option linter.unusedVariables false

def LS.owedAll (s : LS) (o j : Nat) : LS := { s with ow := fun i b => if i = o ∧ b < j then max (s.ow i b) (min 8 (s.n.many (s.obj i).size b)) else s.ow i b }
theorem owedAll_zero (s : LS) (o : Nat) : s.owedAll o 0 = s := by
  cases s; simp [LS.owedAll]
theorem owedAll_succ (s : LS) (o j : Nat) : (s.owedAll o j).owed o j 8 = s.owedAll o (j + 1) := by
  cases s with
  | mk n objs ow tu no nb nn =>
    simp only [LS.owedAll, LS.owed, LS.mk.injEq, true_and, and_true]
    funext i b
    unfold upd
    by_cases h : i = o ∧ b = j
    · obtain ⟨rfl, rfl⟩ := h
      simp [LS.obj]
    · rw [if_neg h]
      simp only []
      by_cases h2 : i = o ∧ b < j
      · rw [if_pos h2, if_pos ⟨h2.1, by omega⟩]
      · rw [if_neg h2, if_neg (by omega)]
def LS.ans (s : LS) (o b c : Nat) : LS :=
  if s.objs.length ≤ o then s
  else if 0 < c then (if b < s.blk o then s.owed o b c else s)
  else s.owedAll o (s.blk o)
def OW8 (s : LS) : Prop := ∀ i b, i < s.objs.length → b < s.blk i → s.ow i b ≤ 8
theorem many8 {s : LS} (h : LOk s) (i b : Nat) : s.n.many (s.obj i).size b ≤ 8 := by
  have := many_le s.n (s.obj i).size b
  have := h.nok.2.2.2.1
  omega
theorem owed_ow8 {s : LS} (hs : LOk s) (h : OW8 s) (i b c : Nat) : OW8 (s.owed i b c) := by
  intro i' b' hi' hb'
  have h1 := h i' b' hi' hb'
  show upd s.ow i b _ i' b' ≤ 8
  unfold upd
  split
  · rename_i e
    have := many8 hs i b
    rw [e.1, e.2] at h1
    omega
  · exact h1
theorem owedAll_ow8 {s : LS} (hs : LOk s) (h : OW8 s) (o j : Nat) : OW8 (s.owedAll o j) := by
  intro i' b' hi' hb'
  have h1 := h i' b' hi' hb'
  show (if i' = o ∧ b' < j then max (s.ow i' b') (min 8 (s.n.many (s.obj i').size b')) else s.ow i' b') ≤ 8
  split <;> omega
theorem owed_ok {s : LS} (h : LOk s) (i b c : Nat) : LOk (s.owed i b c) := ⟨h.nok, h.len, h.sz⟩
theorem owedAll_ok {s : LS} (h : LOk s) (o j : Nat) : LOk (s.owedAll o j) := ⟨h.nok, h.len, h.sz⟩
theorem ans_ok {s : LS} (h : LOk s) (o b c : Nat) : LOk (s.ans o b c) := by
  unfold LS.ans
  split
  · exact h
  · split
    · split
      · exact owed_ok h _ _ _
      · exact h
    · exact owedAll_ok h _ _
theorem ans_ow8 {s : LS} (hs : LOk s) (h : OW8 s) (o b c : Nat) : OW8 (s.ans o b c) := by
  unfold LS.ans
  split
  · exact h
  · split
    · split
      · exact owed_ow8 hs h _ _ _
      · exact h
    · exact owedAll_ow8 hs h _ _

set_option maxRecDepth 100000 in
set_option maxHeartbeats 4000000 in
theorem lanAnswer (s : LS) (o b c P : Nat) (F : Nat → Prop) (ao : Option Addr) (co : Nat) (D : Nat → Nat) (w : World) (hs : LOk s) (h8 : OW8 s) (ho : o ≤ 7) (hb : b ≤ 255) (hc : c ≤ 8) (hA : LI w P s F ao co D) :
    Calls Try.prog 98 #[.pointer (some ⟨P, 0, none⟩), .agg #[.int .i64 o, .int .i64 b, .int .i64 c]] w fun e w' => e = .returned (.tuple #[]) ∧ LI w' P (s.ans o b c) F ao co D ∧ Touch w w' F := by
  have B0 : Below w.heap.size w (w.alloc (.cells #[.int .i64 o, .int .i64 b, .int .i64 c] 40)).drew := ((Below.refl _ _).alloc (Nat.le_refl _) _).drew
  have R0 : (w.alloc (.cells #[.int .i64 o, .int .i64 b, .int .i64 c] 40)).drew.rowIs w.heap.size 40 3 (fun j => ([.int .i64 o, .int .i64 b, .int .i64 c] : List Value).getD j undef) := World.rowIs_alloc w _ _ _ (fun i hi => by
    match i, hi with
    | 0, _ => rfl
    | 1, _ => rfl
    | 2, _ => rfl)
  obtain ⟨wd, hwd⟩ : ∃ wd, wd = (w.alloc (.cells #[.int .i64 o, .int .i64 b, .int .i64 c] 40)).drew := ⟨_, rfl⟩
  rw [← hwd] at B0 R0
  have L0 := hA.tight.below B0
  have hlen := hs.len
  have q0 : wd.cell? ⟨w.heap.size, 0, none⟩ = some (.int .i64 o) := R0.cell (by decide)
  have c3 := L0.cells.2.2.2.1
  have HB : Hid (Below w.heap.size w wd) := B0
  have HR : Hid (wd.rowIs w.heap.size 40 3 (fun j => ([.int .i64 o, .int .i64 b, .int .i64 c] : List Value).getD j undef)) := R0
  have HL : Hid (LI wd P s (fun x => F x ∧ x < w.heap.size) ao co D) := L0
  have HS : Hid (LOk s) := hs
  have H8 : Hid (OW8 s) := h8
  have HA : Hid (s.ans o b c = if s.objs.length ≤ o then s else if 0 < c then (if b < s.blk o then s.owed o b c else s) else s.owedAll o (s.blk o)) := rfl
  obtain ⟨N, hN⟩ : ∃ N, N = w.heap.size := ⟨_, rfl⟩
  clear B0 R0 L0 hs h8 hA
  by_cases hx : s.objs.length ≤ o
  · have HE : Hid (s.ans o b c = s) := by unfold Hid; rw [HA.out, if_pos hx]
    go_enter Try.func98, Try.ntmps98
    go_wp2_with fail
    (refine wp_region_still_tail 7 (by kernel_rfl) (by kernel_rfl) ?_; change wpStill _ _ (World.drew _) (fun a' => wpList _ _ _ _ a' (World.drew _)) _ _; simp only [← hwd]; clear hwd; simp only [List.take_succ_cons, List.take_zero, List.drop_succ_cons, List.drop_zero]; (repeat still_step); refine wpStill_nil ?_)
    go_wp2
    refine bodyPost_ret (v := .tuple #[]) (by simp [results, Try.results98]) rfl ?_
    rw [HE.out]
    exact ⟨rfl, HL.out.mono (fun x hx => hx.1), Touch.of_below HB.out⟩
  · have hi : o < s.objs.length := by omega
    have HI : Hid (o < s.objs.length) := hi
    have hbl := blk_le s HS.out o hi
    by_cases hc0 : 0 < c
    · obtain ⟨v, hv⟩ : ∃ v, v = wd.drew := ⟨_, rfl⟩
      have LV : LI v P s (fun x => F x ∧ x < w.heap.size) ao co D := by rw [hv]; exact HL.out.drew
      have RV : v.rowIs w.heap.size 40 3 (fun j => ([.int .i64 o, .int .i64 b, .int .i64 c] : List Value).getD j undef) := by rw [hv]; exact HR.out
      have BV : Below w.heap.size w v := by rw [hv]; exact HB.out.drew
      obtain ⟨g, rfl, hg, hsl⟩ := LV.slot (by omega)
      have s1 := (hsl o hi).2
      have d3 := LV.cells.2.2.2.1
      have k0 : v.cell? ⟨w.heap.size, 0, none⟩ = some (.int .i64 o) := RV.cell (by decide)
      have k1 : v.cell? ⟨w.heap.size, 1, none⟩ = some (.int .i64 b) := RV.cell (by decide)
      have k2 : v.cell? ⟨w.heap.size, 2, none⟩ = some (.int .i64 c) := RV.cell (by decide)
      have HLV : Hid (LI v P s (fun x => F x ∧ x < w.heap.size) (some ⟨g, 0, none⟩) co D) := LV
      have HRV : Hid (v.rowIs w.heap.size 40 3 (fun j => ([.int .i64 o, .int .i64 b, .int .i64 c] : List Value).getD j undef)) := RV
      have HBV : Hid (Below w.heap.size w v) := BV
      clear LV RV BV hsl HL HR HB
      go_enter Try.func98, Try.ntmps98
      go_wp2_with fail
      (refine wp_region_still_tail 7 (by kernel_rfl) (by kernel_rfl) ?_; change wpStill _ _ (World.drew _) (fun a' => wpList _ _ _ _ a' (World.drew _)) _ _; simp only [← hwd]; clear hwd; simp only [List.take_succ_cons, List.take_zero, List.drop_succ_cons, List.drop_zero]; (repeat still_step); refine wpStill_nil ?_)
      go_wp2_with fail
      (refine wp_region_still_tail 10 (by kernel_rfl) (by kernel_rfl) ?_; change wpStill _ _ (World.drew _) (fun a' => wpList _ _ _ _ a' (World.drew _)) _ _; simp only [← hv]; clear hv; simp only [List.take_succ_cons, List.take_zero, List.drop_succ_cons, List.drop_zero]; (repeat still_step); refine wpStill_nil ?_)
      clear q0 c3 d3 s1
      by_cases hbk : b < s.blk o
      · have HE : Hid (s.ans o b c = s.owed o b c) := by unfold Hid; rw [HA.out, if_neg hx, if_pos hc0, if_pos hbk]
        have HO := lanOwe s o b c P _ (some ⟨g, 0, none⟩) co D v HS.out hi hbk (H8.out o b hi hbk) (by omega) HLV.out
        clear hx
        go_wp2_with fail
        refine HO.mono ?_
        rintro e w2 ⟨rfl, L2, T2⟩
        have HL2 : Hid (LI w2 P (s.owed o b c) F (some ⟨g, 0, none⟩) co D) := L2.mono (fun x hx => hx.1)
        have HT2 : Hid (Touch w w2 F) := (Touch.of_below HBV.out).trans (T2.mono (fun x hx => hx.1))
        clear HO L2 T2 k0 k1 k2
        go_wp2
        refine bodyPost_ret (v := .tuple #[]) (by simp [results, Try.results98]) rfl ?_
        rw [HE.out]
        exact ⟨rfl, HL2.out, HT2.out⟩
      · have HE : Hid (s.ans o b c = s) := by unfold Hid; rw [HA.out, if_neg hx, if_pos hc0, if_neg hbk]
        clear hx
        go_wp2
        refine bodyPost_ret (v := .tuple #[]) (by simp [results, Try.results98]) rfl ?_
        rw [HE.out]
        exact ⟨rfl, HLV.out.mono (fun x hx => hx.1), Touch.of_below HBV.out⟩
    · have HE : Hid (s.ans o b c = s.owedAll o (s.blk o)) := by unfold Hid; rw [HA.out, if_neg hx, if_neg hc0]
      obtain ⟨C, hC⟩ : ∃ C : Int, C = (c : Int) := ⟨_, rfl⟩
      have cz : C ≤ 0 := by omega
      rw [← hC] at hwd HR ⊢
      generalize s.ans o b c = SA at *
      clear hC hc hc0 HA hx
      obtain ⟨v, hv⟩ : ∃ v, v = wd.drew := ⟨_, rfl⟩
      have LV : LI v P s (fun x => F x ∧ x < w.heap.size) ao co D := by rw [hv]; exact HL.out.drew
      have RV : v.rowIs w.heap.size 40 3 (fun j => ([.int .i64 o, .int .i64 b, .int .i64 C] : List Value).getD j undef) := by rw [hv]; exact HR.out
      have BV : Below w.heap.size w v := by rw [hv]; exact HB.out.drew
      obtain ⟨g, rfl, hg, hsl⟩ := LV.slot (by omega)
      have s1 := (hsl o hi).2
      have d3 := LV.cells.2.2.2.1
      have k0 : v.cell? ⟨w.heap.size, 0, none⟩ = some (.int .i64 o) := RV.cell (by decide)
      have k1 : v.cell? ⟨w.heap.size, 1, none⟩ = some (.int .i64 b) := RV.cell (by decide)
      have k2 : v.cell? ⟨w.heap.size, 2, none⟩ = some (.int .i64 C) := RV.cell (by decide)
      have HLV : Hid (LI v P s (fun x => F x ∧ x < w.heap.size) (some ⟨g, 0, none⟩) co D) := LV
      have HRV : Hid (v.rowIs w.heap.size 40 3 (fun j => ([.int .i64 o, .int .i64 b, .int .i64 C] : List Value).getD j undef)) := RV
      have HBV : Hid (Below w.heap.size w v) := BV
      clear LV RV BV hsl HL HR HB
      go_enter Try.func98, Try.ntmps98
      go_wp2_with fail
      (refine wp_region_still_tail 7 (by kernel_rfl) (by kernel_rfl) ?_; change wpStill _ _ (World.drew _) (fun a' => wpList _ _ _ _ a' (World.drew _)) _ _; simp only [← hwd]; clear hwd; simp only [List.take_succ_cons, List.take_zero, List.drop_succ_cons, List.drop_zero]; (repeat still_step); refine wpStill_nil ?_)
      go_wp2_with fail
      (refine wp_region_still_tail 10 (by kernel_rfl) (by kernel_rfl) ?_; change wpStill _ _ (World.drew _) (fun a' => wpList _ _ _ _ a' (World.drew _)) _ _; simp only [← hv]; clear hv; simp only [List.take_succ_cons, List.take_zero, List.drop_succ_cons, List.drop_zero]; (repeat still_step); refine wpStill_nil ?_)
      clear q0 c3 d3 s1
      obtain ⟨Bk, hBk⟩ : ∃ Bk, Bk = s.blk o := ⟨_, rfl⟩
      have HBk : Hid (Bk = s.blk o) := hBk
      rw [← hBk] at hbl ⊢
      clear hBk
      have HT0 : Hid (Touch w v F) := Touch.of_below HBV.out
      go_wp2
      go_loopw [5] (fun x wr => ∃ j : Nat, j ≤ Bk ∧ x = .int .i64 j ∧ LI wr P (s.owedAll o j) (fun x => F x ∧ x < w.heap.size) (some ⟨g, 0, none⟩) co D ∧ wr.rowIs w.heap.size 40 3 (fun j => ([.int .i64 o, .int .i64 b, .int .i64 C] : List Value).getD j undef) ∧ Touch w wr F) (fun x _ => Bk - (intOf x).toNat)
      case atStart => exact ⟨0, Nat.zero_le _, rfl, by rw [owedAll_zero]; exact HLV.out, HRV.out, HT0.out⟩
      case round =>
        clear k0 k1 k2 HT0 HLV HRV HBV hg
        obtain ⟨j, hj, rfl, hL, hR, hT⟩ := hrel
        have HRj : Hid (wr.rowIs w.heap.size 40 3 (fun j => ([.int .i64 o, .int .i64 b, .int .i64 C] : List Value).getD j undef)) := hR
        have HTj : Hid (Touch w wr F) := hT
        by_cases hlt : j < Bk
        · have k0 : wr.cell? ⟨w.heap.size, 0, none⟩ = some (.int .i64 o) := hR.cell (by decide)
          have HO := lanOwe (s.owedAll o j) o j 8 P _ (some ⟨g, 0, none⟩) co D wr (owedAll_ok HS.out o j) hi (by show j < s.blk o; rw [← HBk.out]; exact hlt) (owedAll_ow8 HS.out H8.out o j o j hi (by show j < s.blk o; rw [← HBk.out]; exact hlt)) (by omega) hL
          rw [owedAll_succ] at HO
          clear hL hR hT
          go_wp2_with fail
          refine HO.mono ?_
          rintro e w2 ⟨rfl, L2, T2⟩
          have HL2 : Hid (LI w2 P (s.owedAll o (j + 1)) (fun x => F x ∧ x < w.heap.size) (some ⟨g, 0, none⟩) co D) := L2
          have HR2 : Hid (w2.rowIs w.heap.size 40 3 (fun j => ([.int .i64 o, .int .i64 b, .int .i64 C] : List Value).getD j undef)) := HRj.out.of_block (T2.block _ HRj.out.lt (fun h => by have := h.2; omega))
          have HT2 : Hid (Touch w w2 F) := HTj.out.trans (T2.mono (fun x hx => hx.1))
          clear HO L2 T2 k0 HRj HTj
          go_wp2
          go_roundw
          case rel => exact ⟨j + 1, by omega, by go_num, HL2.out, HR2.out, HT2.out⟩
          case measure => simp [intOf]; omega
        · have e : j = Bk := by omega
          have HL2 : Hid (LI wr P (s.owedAll o (s.blk o)) F (some ⟨g, 0, none⟩) co D) := by unfold Hid; rw [← HBk.out, ← e]; exact hL.mono (fun x hx => hx.1)
          clear hL hR hT HRj
          subst e
          go_wp2
          refine bodyPost_end (v := .tuple #[]) (by simp [results, Try.results98]) rfl ?_
          rw [HE.out]
          exact ⟨rfl, HL2.out, HTj.out⟩
end Sn
end Go.Proofs.Ytkgnmcekeeannaa
