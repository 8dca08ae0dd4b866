import Derived.Test.YtkgnmcekeeannaaGreatY31
/-
  The reference's receiver hears data that it takes.
-/
namespace Go.Proofs.YtkgnmcekeeannaaGreat
open Go.RowKit Go.Deep
namespace Sn
open Bs
open Ms (txt text ok M It mV mVm mBox mRow mRow_new itF itOK ItemsAt Tells ReadOut refRead owns_setCell owns_items icells)
set_option linter.unusedVariables false

theorem infoMsg : (Tryz.prog.info? 99).map (fun i => (i.zero, i.size, i.bytes)) = some (some (.agg #[.int .i64 0, .int .i64 0, .int .i64 0, .int .i64 0, .int .i64 0, .string ⟨#[]⟩, .slice none 0 0, .int .i64 0]), 8, 88) := by kernel_rfl
theorem rRow_set3 (n : Nm) (vh v : Value) (known taken : Nat) (j : Nat) (hj : j < 6) : (if j = 3 then v else rRow n vh known taken j) = rRow n v known taken j := by
  match j, hj with
  | 0, _ => rfl
  | 1, _ => rfl
  | 2, _ => rfl
  | 3, _ => rfl
  | 4, _ => rfl
  | 5, _ => rfl
theorem RI.more {w W w2 : World} {P L : Nat} {n : Nm} {hs : List Hm} {known taken : Nat} {F : Nat → Prop} {ah ah2 : Option Addr} {ch ch2 : Nat} {x : Hm} {o : Obj} (h : RI w W P n hs known taken F ah ch) (hL : L = hs.length)
    (hown : w2.ownsRow 0 99 8 (.slice ah2 (L + 1) ch2) (L + 1) (hvs hs ++ hv x)) (hg : (W.alloc o).grownBy w2 (Value.slice ah L ch).ownBlock) (hat : (Value.slice ah2 (L + 1) ch2).ownBlock = (Value.slice ah L ch).ownBlock ∨ (Value.slice ah2 (L + 1) ch2).ownBlock = some (W.alloc o).heap.size) :
    RI w (w2.setCell ⟨P, 3, none⟩ (.slice ah2 (L + 1) ch2)) P n (hs ++ [x]) known taken F ah2 ch2 := by
  subst hL
  have hl : (hs ++ [x]).length = hs.length + 1 := by simp
  have hx : hvs (hs ++ [x]) = hvs hs ++ hv x := by rw [hvs_append]; simp [hvs]
  have blk : ∀ b, b < W.heap.size → (Value.slice ah hs.length ch).ownBlock ≠ some b → w2.heap[b]? = W.heap[b]? := fun b hb hne => (hg.block b (by simp; omega) (fun e => hne e.symm)).trans (Below.heap_alloc W _ b hb)
  have hPl := h.row.lt
  have hne : (Value.slice ah2 (hs.length + 1) ch2).ownBlock ≠ some P := fun e => by
    rcases hat with e' | e'
    · rw [e'] at e; exact h.hp e
    · rw [e'] at e; simp at e; omega
  have hs1 := h.touch.size
  refine ⟨?_, ?_, h.fP, ?_, ?_, ?_⟩
  · rw [hl]
    exact ((h.row.of_block (blk P hPl h.hp)).set 3 _).congr (fun j hj => rRow_set3 n _ _ known taken j hj)
  · rw [hl, hx]
    exact owns_setCell hown hne
  · rw [hl]; exact hne
  · rw [hl]
    intro b hb
    rcases hat with e' | e'
    · rw [e'] at hb; exact h.fh b hb
    · rw [e'] at hb; simp at hb; exact .inr (by omega)
  · refine ⟨hg.os.trans h.touch.os, hg.tape.trans h.touch.tape, hg.output.trans h.touch.output, by have := hg.size; simp at this ⊢; omega, fun b hb hF => ?_⟩
    have hbP : b ≠ P := fun e => hF (by rw [e]; exact h.fP)
    rw [heap_setCell_other _ _ _ _ hbP, blk b (by omega) (fun e => ?_), h.touch.block b hb hF]
    rcases h.fh b e with h' | h'
    · exact hF h'
    · omega
theorem news8 {w : World} {a b c d e f g h : Value} {t : TypeId} : ∀ j v, ([a, b, c, d, e, f, g, h] : List Value)[j]? = some v → (w.alloc (.cells #[a, b, c, d, e, f, g, h] t)).cell? ((⟨w.heap.size, 0, none⟩ : Addr).add j) = some v := by
  intro j v hj
  rw [add_eq0]
  have hh : (w.alloc (.cells #[a, b, c, d, e, f, g, h] t)).heap[w.heap.size]? = some (.cells #[a, b, c, d, e, f, g, h] t) := heap_alloc_new w _
  simp only [World.cell?]
  rw [hh]
  simpa using hj

set_option maxRecDepth 100000 in
set_option maxHeartbeats 4000000 in
theorem refHearR_taken (r : Rt) (tx : ByteArray) (P : Nat) (F : Nat → Prop) (w : World) (ht : tx.size ≤ 1048576) (hA : RcvAt w P r F) (hn : r.n.ok) (m0 : M) (htl0 : Tells tx m0) (hk0 : m0.kind = 1) (hgood : (r.hear m0).2 = 0) (hkn : r.known ≤ 4611686018427387904) (hhl : r.heard.length ≤ 1048576) :
    Calls Tryz.prog 32 #[.pointer (some ⟨P, 0, none⟩), .string tx] w fun e w' => HearOutR r tx e w w' P F ∧ Touch w w' F := by
  obtain ⟨hs, ah, ch, hh, hI⟩ := hA
  have HR := refRead tx w ht
  have HI : Hid (RI w w P r.n hs r.known r.taken F ah ch) := hI
  have HH : Hid (hs.map Hm.m = r.heard) := hh
  have HOW0 : Hid (∀ b, (Value.slice ah hs.length ch).ownBlock = some b → b < w.heap.size) := fun b hb => (hI.hd.lt b hb).2
  have hP0 : P < w.heap.size := hI.row.lt
  have HT0 : Hid (Tells tx m0 ∧ m0.kind = 1) := ⟨htl0, hk0⟩
  have HBD : Hid ((r.hear m0).2 = 0) := hgood
  clear hgood hI hh ht htl0 hk0
  go_enter Tryz.func32, Tryz.ntmps32
  go_wp2_with fail
  refine HR.mono ?_
  rintro e w1 ⟨ho, hb1⟩
  have hz1 : w.heap.size ≤ w1.heap.size := hb1.size
  clear HR
  rcases ho with ⟨m, io, ci, htl, rfl, hown⟩ | ⟨hno, rfl⟩
  · have HT : Hid (Tells tx m) := htl
    have HE0 : Hid (m = m0) := (Ms.tells_ref htl).symm.trans (Ms.tells_ref HT0.out.1)
    have hk : m.kind = 1 := by
      have e : m = m0 := (Ms.tells_ref htl).symm.trans (Ms.tells_ref HT0.out.1)
      rw [e]; exact HT0.out.2
    have HSI1 : Hid (RI w (w1.alloc (mBox m.kind m.obj m.blk m.num m.len m.sym io m.items.length ci m.objs)) P r.n hs r.known r.taken F ah ch) := (HI.out.below hb1).below ((Below.refl _ _).alloc (Nat.le_refl _) _)
    have tk : (m.kind == 2) = false := by rw [hk]; rfl
    have tk3 : (m.kind == 3) = false := by rw [hk]; rfl
    obtain ⟨q1, q2, q3, q4, q5, q6, q7, q8, q9, q10, q11, q12⟩ : Ms.dataOK m := by
      rcases htl.1 with h | h | h
      · exact h.2
      · rw [hk] at h; exact absurd h.1 (by decide)
      · rw [hk] at h; exact absurd h.1 (by decide)
    obtain ⟨O, hO⟩ : ∃ x : Nat, m.obj = (x : Int) := ⟨m.obj.toNat, by omega⟩
    obtain ⟨Bk, hBk⟩ : ∃ x : Nat, m.blk = (x : Int) := ⟨m.blk.toNat, by omega⟩
    obtain ⟨Nu, hNu⟩ : ∃ x : Nat, m.num = (x : Int) := ⟨m.num.toNat, by omega⟩
    obtain ⟨Ln, hLn⟩ : ∃ x : Nat, m.len = (x : Int) := ⟨m.len.toNat, by omega⟩
    have HO : Hid (m.obj = (O : Int)) := hO
    have HBk : Hid (m.blk = (Bk : Int)) := hBk
    have HNu : Hid (m.num = (Nu : Int)) := hNu
    have HLn : Hid (m.len = (Ln : Int)) := hLn
    have hO7 : O ≤ 7 := by omega
    have hB255 : Bk ≤ 255 := by omega
    have hN15 : Nu ≤ 15 := by omega
    have hL256 : 1 ≤ Ln ∧ Ln ≤ 256 := by omega
    have HK : Hid (m.kind = 1) := hk
    have HQ : Hid (m.items = [] ∧ m.objs = 0) := ⟨q11, q12⟩
    have mb : ∀ j v, ([.int .i64 m.kind, .int .i64 m.obj, .int .i64 m.blk, .int .i64 m.num, .int .i64 m.len, .string m.sym, .slice io m.items.length ci, .int .i64 m.objs] : List Value)[j]? = some v → (w1.alloc (mBox m.kind m.obj m.blk m.num m.len m.sym io m.items.length ci m.objs)).cell? ⟨w1.heap.size, j, none⟩ = some v := fun j v hv => cell_new rfl (by simpa using hv)
    have hMl : w1.heap.size < (w1.alloc (mBox m.kind m.obj m.blk m.num m.len m.sym io m.items.length ci m.objs)).heap.size := by simp
    clear q1 q2 q3 q4 q5 q6 q7 q8 q11 q12 hO hBk hNu hLn hk htl hown hb1 HI
    go_upto_region 8 with fail
    obtain ⟨Mb, hMb⟩ : ∃ B, B = w1.heap.size := ⟨_, rfl⟩
    have hMb' : w1.heap.size = Mb := hMb.symm
    simp only [hMb'] at *
    clear hMb hMb'
    generalize w1.alloc (mBox m.kind m.obj m.blk m.num m.len m.sym io m.items.length ci m.objs) = w2 at *
    have HMA := fun W => many_any r.n Ln Bk W hn (by omega) (by omega)
    obtain ⟨wd, hwd⟩ : ∃ wd, wd = w2.drew := ⟨_, rfl⟩
    have HSD : Hid (RI w wd P r.n hs r.known r.taken F ah ch) := by unfold Hid; rw [hwd]; exact HSI1.out.below (Below.refl _ _).drew
    have x0 : wd.cell? ⟨P, 0, none⟩ = some (.int .i64 r.n.size) := HSD.out.row.cell (by decide)
    have x1 : wd.cell? ⟨P, 1, none⟩ = some (.int .i64 r.n.block) := HSD.out.row.cell (by decide)
    have x2 : wd.cell? ⟨P, 2, none⟩ = some (.int .i64 r.n.spare) := HSD.out.row.cell (by decide)
    have MBd : Hid (∀ j v, ([.int .i64 m.kind, .int .i64 m.obj, .int .i64 m.blk, .int .i64 m.num, .int .i64 m.len, .string m.sym, .slice io m.items.length ci, .int .i64 m.objs] : List Value)[j]? = some v → wd.cell? ⟨Mb, j, none⟩ = some v) := fun j v hv => by rw [hwd]; exact mb j v hv
    have m2 : wd.cell? ⟨Mb, 2, none⟩ = some (.int .i64 Bk) := by rw [← HBk.out]; exact MBd.out 2 _ rfl
    have m4 : wd.cell? ⟨Mb, 4, none⟩ = some (.int .i64 Ln) := by rw [← HLn.out]; exact MBd.out 4 _ rfl
    have hMl' : Mb < wd.heap.size := by rw [hwd]; exact hMl
    refine wp_region_still_tail 8 (by kernel_rfl) (by kernel_rfl) ?_
    change wpStill _ _ (World.drew _) (fun a' => wpList _ _ _ _ a' (World.drew _)) _ _
    simp only [← hwd]
    clear hwd mb hMl HSI1
    simp only [List.take_succ_cons, List.take_zero, List.drop_succ_cons, List.drop_zero]
    repeat still_step
    refine wpStill_nil ?_
    go_wp2_with fail
    refine (HMA _).mono ?_
    rintro e w3 ⟨rfl, hb3⟩
    have HS3 : Hid (RI w w3 P r.n hs r.known r.taken F ah ch) := HSD.out.below hb3
    have MB3 : Hid (∀ j v, ([.int .i64 m.kind, .int .i64 m.obj, .int .i64 m.blk, .int .i64 m.num, .int .i64 m.len, .string m.sym, .slice io m.items.length ci, .int .i64 m.objs] : List Value)[j]? = some v → w3.cell? ⟨Mb, j, none⟩ = some v) := fun j v hv => (hb3.cell (p := ⟨Mb, j, none⟩) hMl').trans (MBd.out j v hv)
    have hM3 : Mb < w3.heap.size := Nat.lt_of_lt_of_le hMl' hb3.size
    obtain ⟨k, hkk⟩ : ∃ k, k = r.n.many Ln Bk := ⟨_, rfl⟩
    have HKK : Hid (k = r.n.many Ln Bk) := hkk
    have hk8 : k ≤ 8 := by rw [hkk]; have := many_le r.n Ln Bk; have := hn.2.2.2.1; omega
    rw [← hkk]
    clear hkk HMA x0 x1 x2 m2 m4 HSD MBd hb3 hMl'
    go_upto_region 9 with fail
    have y0 : w3.cell? ⟨P, 0, none⟩ = some (.int .i64 r.n.size) := HS3.out.row.cell (by decide)
    have y2 : w3.cell? ⟨P, 2, none⟩ = some (.int .i64 r.n.spare) := HS3.out.row.cell (by decide)
    have m3 : w3.cell? ⟨Mb, 3, none⟩ = some (.int .i64 Nu) := by rw [← HNu.out]; exact MB3.out 3 _ rfl
    have m5 : w3.cell? ⟨Mb, 5, none⟩ = some (.string m.sym) := MB3.out 5 _ rfl
    have hsp : r.n.spare ≤ 8 := hn.2.2.2.2
    by_cases b1 : m.sym.size ≠ r.n.size
    · have t1 : ((m.sym.size : Int) != (r.n.size : Int)) = true := by simpa using (by omega : ¬ (m.sym.size : Int) = r.n.size)
      have HBad : Hid (m.sym.size ≠ r.n.size ∨ k = 0 ∨ k + r.n.spare ≤ Nu) := .inl b1
      clear b1
      have HM : Hid (r.hear m = (r, 6)) := by
        unfold Hid Rt.hear
        rw [if_neg (by rw [HK.out]; decide), if_neg (by rw [HK.out]; decide)]
        simp only []
        rw [if_pos (by rw [HLn.out, HBk.out, HNu.out]; simp only [Int.toNat_natCast]; rw [← HKK.out]; exact HBad.out)]
      exact absurd HBD.out (by rw [← HE0.out, HM.out]; show ¬ ((6 : Int) = 0); decide)
    · have t1 : ((m.sym.size : Int) != (r.n.size : Int)) = false := by simpa using (by omega : (m.sym.size : Int) = r.n.size)
      by_cases b2 : k = 0
      · have t2 : ((k : Int) == 0) = true := by rw [b2]; rfl
        have HBad : Hid (m.sym.size ≠ r.n.size ∨ k = 0 ∨ k + r.n.spare ≤ Nu) := .inr (.inl b2)
        clear b1 b2
        have HM : Hid (r.hear m = (r, 6)) := by
          unfold Hid Rt.hear
          rw [if_neg (by rw [HK.out]; decide), if_neg (by rw [HK.out]; decide)]
          simp only []
          rw [if_pos (by rw [HLn.out, HBk.out, HNu.out]; simp only [Int.toNat_natCast]; rw [← HKK.out]; exact HBad.out)]
        exact absurd HBD.out (by rw [← HE0.out, HM.out]; show ¬ ((6 : Int) = 0); decide)
      · have t2 : ((k : Int) == 0) = false := by simpa using b2
        by_cases b3 : k + r.n.spare ≤ Nu
        · have HBad : Hid (m.sym.size ≠ r.n.size ∨ k = 0 ∨ k + r.n.spare ≤ Nu) := .inr (.inr b3)
          have b3' : (k : Int) + r.n.spare ≤ Nu := by omega
          clear b1 b2 b3
          have HM : Hid (r.hear m = (r, 6)) := by
            unfold Hid Rt.hear
            rw [if_neg (by rw [HK.out]; decide), if_neg (by rw [HK.out]; decide)]
            simp only []
            rw [if_pos (by rw [HLn.out, HBk.out, HNu.out]; simp only [Int.toNat_natCast]; rw [← HKK.out]; exact HBad.out)]
          exact absurd HBD.out (by rw [← HE0.out, HM.out]; show ¬ ((6 : Int) = 0); decide)
        · have HGood : Hid (¬ (m.sym.size ≠ r.n.size ∨ k = 0 ∨ k + r.n.spare ≤ Nu)) := by
            unfold Hid; omega
          have b3' : (Nu : Int) < (k : Int) + r.n.spare := by omega
          clear b1 b2 b3
          go_quiet (fail)
          have HS4 : Hid (RI w (w3.drewN nq) P r.n hs r.known r.taken F ah ch) := HS3.out.below (below_drewN (Below.refl _ _) nq)
          have MB4 : Hid (∀ j v, ([.int .i64 m.kind, .int .i64 m.obj, .int .i64 m.blk, .int .i64 m.num, .int .i64 m.len, .string m.sym, .slice io m.items.length ci, .int .i64 m.objs] : List Value)[j]? = some v → (w3.drewN nq).cell? ⟨Mb, j, none⟩ = some v) := fun j v hv => cell_drawn (MB3.out j v hv)
          have hM4 : Mb < (w3.drewN nq).heap.size := hM3
          clear HS3 MB3 y0 y2 m3 m5 hM3
          generalize w3.drewN nq = w4 at *
          have m1 : w4.cell? ⟨Mb, 1, none⟩ = some (.int .i64 O) := by rw [← HO.out]; exact MB4.out 1 _ rfl
          have hs1 : hs.length ≤ 1048576 := by rw [← HH.out, List.length_map] at hhl; exact hhl
          have HLE := refLength (O : Int) HS4.out.here (by omega)
          go_wp2_with fail
          refine HLE.mono ?_
          rintro e w5 ⟨rfl, rfl⟩
          clear HLE
          rw [HH.out]
          obtain ⟨Ne, hNe⟩ : ∃ x, x = lenIn r.heard O := ⟨_, rfl⟩
          have HNe : Hid (Ne = lenIn r.heard m.obj) := by unfold Hid; rw [HO.out]; exact hNe
          rw [← hNe]
          clear hNe
          have m4 : w5.cell? ⟨Mb, 4, none⟩ = some (.int .i64 Ln) := by rw [← HLn.out]; exact MB4.out 4 _ rfl
          by_cases d1 : 0 < Ne ∧ Ne ≠ (Ln : Int)
          · have HM : Hid (r.hear m = (r, 9)) := by
              unfold Hid Rt.hear
              rw [if_neg (by rw [HK.out]; decide), if_neg (by rw [HK.out]; decide)]
              simp only []
              rw [if_neg (by rw [HLn.out, HBk.out, HNu.out]; simp only [Int.toNat_natCast]; rw [← HKK.out]; exact HGood.out), if_pos (by rw [← HNe.out, HLn.out]; exact d1)]
            exact absurd HBD.out (by rw [← HE0.out, HM.out]; show ¬ ((9 : Int) = 0); decide)
          · have HM : Hid (r.hear m = ({ r with heard := r.heard ++ [m], known := max r.known (O + 1) }, 0)) := by
              unfold Hid Rt.hear
              rw [if_neg (by rw [HK.out]; decide), if_neg (by rw [HK.out]; decide)]
              simp only []
              rw [if_neg (by rw [HLn.out, HBk.out, HNu.out]; simp only [Int.toNat_natCast]; rw [← HKK.out]; exact HGood.out), if_neg (by rw [← HNe.out, HLn.out]; exact d1), HO.out]; rfl
            have hd1 : Ne ≤ 0 ∨ (0 < Ne ∧ Ne = (Ln : Int)) := by omega
            clear d1
            have hP5 := HS4.out.row.lt
            have k4 : w5.cell? ⟨P, 4, none⟩ = some (.int .i64 r.known) := HS4.out.row.cell (by decide)
            rcases hd1 with hd | ⟨hd, he⟩
            case inl =>
              go_upto_region 14 with fail
              obtain ⟨i0, hi0, hz0, hz1', hz2⟩ := info_parts3 infoMsg
              obtain ⟨W, hWd⟩ : ∃ W, W = w5.drew := ⟨_, rfl⟩
              have HSW : Hid (RI w W P r.n hs r.known r.taken F ah ch) := by unfold Hid; rw [hWd]; exact HS4.out.below (Below.refl _ _).drew
              have MBW : Hid (∀ j v, ([.int .i64 m.kind, .int .i64 m.obj, .int .i64 m.blk, .int .i64 m.num, .int .i64 m.len, .string m.sym, .slice io m.items.length ci, .int .i64 m.objs] : List Value)[j]? = some v → W.cell? ⟨Mb, j, none⟩ = some v) := fun j v hv => by rw [hWd]; exact MB4.out j v hv
              have hMW : Mb < W.heap.size := by rw [hWd]; exact hM4
              refine wp_region_any (by kernel_rfl) ?_
              change wpAny _ _ _ _ _ _ _ (World.drew _)
              simp only [← hWd]
              obtain ⟨L, hL⟩ : ∃ L, L = hs.length := ⟨_, rfl⟩
              have HL : Hid (L = hs.length) := hL
              have hL2 : L ≤ 1048576 := by rw [hL]; exact hs1
              have c3W : W.cell? ⟨P, 3, none⟩ = some (.slice ah L ch) := by rw [hL]; exact HSW.out.row.cell (by decide)
              have OBW : Hid (W.ownsRow 0 99 8 (.slice ah L ch) L (hvs hs)) := by unfold Hid; rw [hL]; exact HSW.out.hd
              have hPW : P < W.heap.size := HSW.out.row.lt
              have g0 := MBW.out 0 _ rfl
              have g1 := MBW.out 1 _ rfl
              have g2 := MBW.out 2 _ rfl
              have g3 := MBW.out 3 _ rfl
              have g4 := MBW.out 4 _ rfl
              have g5 := MBW.out 5 _ rfl
              have g6 := MBW.out 6 _ rfl
              have g7 := MBW.out 7 _ rfl
              obtain ⟨q, hq⟩ : ∃ q : Obj, q = .cells #[.int .i64 m.kind, .int .i64 m.obj, .int .i64 m.blk, .int .i64 m.num, .int .i64 m.len, .string m.sym, .slice io m.items.length ci, .int .i64 m.objs] 99 := ⟨_, rfl⟩
              have c3q : (W.alloc (.cells #[.int .i64 m.kind, .int .i64 m.obj, .int .i64 m.blk, .int .i64 m.num, .int .i64 m.len, .string m.sym, .slice io m.items.length ci, .int .i64 m.objs] 99)).cell? ⟨P, 3, none⟩ = some (.slice ah L ch) := cell_old hPW c3W
              clear hWd hq hL m1 m4 k4 HS4 MB4 hP5 hM4
              generalize hXS : hvs hs = XS at *
              have HXS : Hid (hvs hs = XS) := hXS
              clear hXS
              refine wpAny_take (i := 0) (v := .pointer (some ⟨P, 0, none⟩)) rfl (by kernel_rfl) (by kernel_rfl) (by kernel_rfl) (fun _ _ _ h => h) (Or.inl ⟨by rfl, by intro w; go_simp⟩) ?_
              refine wpAny_take (i := 1) (v := .pointer (some ⟨P, 0, none⟩)) rfl (by kernel_rfl) (by kernel_rfl) (by kernel_rfl) (fun _ _ _ h => h) (Or.inl ⟨by rfl, by intro w; go_simp⟩) ?_
              refine wpAny_take (i := 2) (v := .pointer (some ⟨P, 0, none⟩)) rfl (by kernel_rfl) (by kernel_rfl) (by kernel_rfl) (fun _ _ _ h => h) (Or.inl ⟨by rfl, by intro w; go_simp⟩) ?_
              refine wpAny_take (i := 3) (v := .pointer (some ⟨P, 3, none⟩)) rfl (by kernel_rfl) (by kernel_rfl) (by kernel_rfl) (fun _ _ _ h => h) (Or.inl ⟨by rfl, by intro w; go_simp⟩) ?_
              refine wpAny_ready (rs := [4, 5]) (by kernel_rfl) (by simp) ?_
              refine AllReady.cons rfl (fun K hK => ?orda1) (AllReady.cons rfl (fun K hK => ?orda2) AllReady.nil)
              case' orda1 =>
                go_simp
                refine hK _ _ ?_
                clear hK K
                refine wpAny_ready (rs := [5]) (by kernel_rfl) (by simp) ?_
                refine AllReady.cons rfl (fun K hK => ?_) AllReady.nil
                go_simp
                refine hK _ _ ?_
                clear hK K
                refine wpAny_ready (rs := [6]) (by kernel_rfl) (by simp) ?_
                refine AllReady.cons rfl (fun K hK => ?_) AllReady.nil
                go_simp
                refine hK _ _ ?_
                clear hK K
              case' orda2 =>
                go_simp
                refine hK _ _ ?_
                clear hK K
                refine wpAny_ready (rs := [4, 6]) (by kernel_rfl) (by simp) ?_
                refine AllReady.cons rfl (fun K hK => ?orda3) (AllReady.cons rfl (fun K hK => ?orda4) AllReady.nil)
                case' orda3 =>
                  go_simp
                  refine hK _ _ ?_
                  clear hK K
                  refine wpAny_ready (rs := [6]) (by kernel_rfl) (by simp) ?_
                  refine AllReady.cons rfl (fun K hK => ?_) AllReady.nil
                  go_simp
                  refine hK _ _ ?_
                  clear hK K
                case' orda4 =>
                  go_simp
                  refine hK _ _ ?_
                  clear hK K
                  refine wpAny_ready (rs := [4]) (by kernel_rfl) (by simp) ?_
                  refine AllReady.cons rfl (fun K hK => ?_) AllReady.nil
                  go_simp
                  refine hK _ _ ?_
                  clear hK K
              all_goals
                refine wpAny_ready (rs := [7]) (by kernel_rfl) (by simp) ?_
                refine AllReady.cons rfl (fun K hK => ?_) AllReady.nil
                refine step_append_at rfl (.tmp 86) (.tmp 88) 65 rfl 0 99 i0 (.agg #[.int .i64 0, .int .i64 0, .int .i64 0, .int .i64 0, .int .i64 0, .string ⟨#[]⟩, .slice none 0 0, .int .i64 0]) 8 88 Tryz.underlying65 hi0 hz0 hz1' hz2 rfl (by decide) (.slice ah L ch) L XS rfl (OBW.out.alloc (.cells #[.int .i64 m.kind, .int .i64 m.obj, .int .i64 m.blk, .int .i64 m.num, .int .i64 m.len, .string m.sym, .slice io m.items.length ci, .int .i64 m.objs] 99)) ⟨W.heap.size, 0, none⟩ 1 1 [.int .i64 m.kind, .int .i64 m.obj, .int .i64 m.blk, .int .i64 m.num, .int .i64 m.len, .string m.sym, .slice io m.items.length ci, .int .i64 m.objs] rfl rfl news8 (by intro u hu; simp at hu; rcases hu with rfl | rfl | rfl | rfl | rfl | rfl | rfl | rfl <;> rfl) (by unfold maxLen; omega) (by omega) (Nat.zero_le _) ?_
                intro v' w6 hown' hgrow hat
                obtain ⟨ah2, ch2, rfl⟩ := owns_form hown'
                rw [← HXS.out] at hown'
                have HI6 : Hid (RI w (w6.setCell ⟨P, 3, none⟩ (.slice ah2 (L + 1) ch2)) P r.n (hs ++ [⟨m, io, m.items.length, ci⟩]) r.known r.taken F ah2 ch2) := HSW.out.more HL.out hown' hgrow hat
                have R6 := HSW.out.row.of_block (((hgrow.block P (by simp; omega) (fun e => HSW.out.hp (by rw [← HL.out]; exact e.symm))).trans (Below.heap_alloc W _ P hPW)))
                have c3' : w6.cell? ⟨P, 3, none⟩ = some (.slice ah hs.length ch) := R6.cell (by decide)
                have f3' := R6.frozen 3
                have hMo : (Value.slice ah L ch).ownBlock ≠ some Mb := fun e => by have := HOW0.out Mb (by rw [← HL.out]; exact e); omega
                have hMP : Mb ≠ P := by omega
                have bM : w6.heap[Mb]? = W.heap[Mb]? := (hgrow.block Mb (by simp; omega) (fun e => hMo e.symm)).trans (Below.heap_alloc W _ Mb hMW)
                have n1 : (w6.setCell ⟨P, 3, none⟩ (.slice ah2 (L + 1) ch2)).cell? ⟨Mb, 1, none⟩ = some (.int .i64 O) := by
                  rw [← HO.out]
                  exact (World.cell?_of_block (a := ⟨Mb, 1, none⟩) ((heap_setCell_other _ _ _ _ hMP).trans bM)).trans g1
                clear hown' hgrow hat R6 hMo bM OBW HSW MBW c3q c3W g0 g1 g2 g3 g4 g5 g6 g7 HXS
                refine hK _ _ ?_
                clear hK K
                refine wpAny_take (i := 8) (v := .pointer (some ⟨P, 0, none⟩)) rfl (by kernel_rfl) (by kernel_rfl) (by kernel_rfl) (fun _ _ _ h => h) (Or.inl ⟨by rfl, by intro w; go_simp⟩) ?_
                refine wpAny_take (i := 9) (v := .pointer (some ⟨P, 3, none⟩)) rfl (by kernel_rfl) (by kernel_rfl) (by kernel_rfl) (fun _ _ _ h => h) (Or.inl ⟨by rfl, by intro w; go_simp⟩) ?_
                refine wpAny_ready (rs := [10]) (by kernel_rfl) (by simp) ?_
                refine AllReady.cons rfl (fun K hK => ?_) AllReady.nil
                go_simp
                refine hK _ _ ?_
                clear hK K c3' f3'
                refine wpAny_done (by kernel_rfl) ?_ _
                have k4' : (w6.setCell ⟨P, 3, none⟩ (.slice ah2 (L + 1) ch2)).cell? ⟨P, 4, none⟩ = some (.int .i64 r.known) := HI6.out.row.cell (by decide)
                generalize w6.setCell ⟨P, 3, none⟩ (.slice ah2 (L + 1) ch2) = w7 at *
                obtain ⟨v, hv⟩ : ∃ v, v = w7.drew := ⟨_, rfl⟩
                have HI7 : Hid (RI w v P r.n (hs ++ [⟨m, io, m.items.length, ci⟩]) r.known r.taken F ah2 ch2) := by unfold Hid; rw [hv]; exact HI6.out.below (Below.refl _ _).drew
                have p1 : v.cell? ⟨Mb, 1, none⟩ = some (.int .i64 O) := by rw [hv]; exact n1
                have p4 : v.cell? ⟨P, 4, none⟩ = some (.int .i64 r.known) := HI7.out.row.cell (by decide)
                have f4 := HI7.out.row.frozen 4
                have HHm : Hid ((hs ++ [(⟨m, io, m.items.length, ci⟩ : Hm)]).map Hm.m = r.heard ++ [m]) := by unfold Hid; rw [List.map_append, HH.out]; rfl
                clear HI6 n1 k4'
                go_wp2_with fail
                (refine wp_region_still_tail 6 (by kernel_rfl) (by kernel_rfl) ?_; change wpStill _ _ (World.drew _) (fun a' => wpList _ _ _ _ a' (World.drew _)) _ _; simp only [← hv]; clear hv; simp only [List.take_succ_cons, List.take_zero, List.drop_succ_cons, List.drop_zero]; (repeat still_step); refine wpStill_nil ?_)
                by_cases hkn2 : r.known ≤ O
                · have HF : Hid (RI w (v.setCell ⟨P, 4, none⟩ (.int .i64 (O + 1 : Nat))) P r.n (hs ++ [⟨m, io, m.items.length, ci⟩]) (O + 1) r.taken F ah2 ch2) := HI7.out.set_known (O + 1)
                  have HMX : Hid (max r.known (O + 1) = O + 1) := by unfold Hid; omega
                  clear HI7
                  go_wp2
                  go_ret
                  refine ⟨.inl ⟨m, HT.out, by rw [HM.out]; rfl, ?_⟩, HF.out.touch⟩
                  have := HF.out.done
                  rw [HHm.out] at this
                  rw [HM.out, HMX.out]; exact this
                · have HMX : Hid (max r.known (O + 1) = r.known) := by unfold Hid; omega
                  go_wp2
                  go_ret
                  refine ⟨.inl ⟨m, HT.out, by rw [HM.out]; rfl, ?_⟩, HI7.out.touch⟩
                  have := HI7.out.done
                  rw [HHm.out] at this
                  rw [HM.out, HMX.out]; exact this
            case inr =>
              have he2 : (Ne != (Ln : Int)) = false := by simp [he]
              clear he
              go_upto_region 14 with fail
              obtain ⟨i0, hi0, hz0, hz1', hz2⟩ := info_parts3 infoMsg
              obtain ⟨W, hWd⟩ : ∃ W, W = w5.drew := ⟨_, rfl⟩
              have HSW : Hid (RI w W P r.n hs r.known r.taken F ah ch) := by unfold Hid; rw [hWd]; exact HS4.out.below (Below.refl _ _).drew
              have MBW : Hid (∀ j v, ([.int .i64 m.kind, .int .i64 m.obj, .int .i64 m.blk, .int .i64 m.num, .int .i64 m.len, .string m.sym, .slice io m.items.length ci, .int .i64 m.objs] : List Value)[j]? = some v → W.cell? ⟨Mb, j, none⟩ = some v) := fun j v hv => by rw [hWd]; exact MB4.out j v hv
              have hMW : Mb < W.heap.size := by rw [hWd]; exact hM4
              refine wp_region_any (by kernel_rfl) ?_
              change wpAny _ _ _ _ _ _ _ (World.drew _)
              simp only [← hWd]
              obtain ⟨L, hL⟩ : ∃ L, L = hs.length := ⟨_, rfl⟩
              have HL : Hid (L = hs.length) := hL
              have hL2 : L ≤ 1048576 := by rw [hL]; exact hs1
              have c3W : W.cell? ⟨P, 3, none⟩ = some (.slice ah L ch) := by rw [hL]; exact HSW.out.row.cell (by decide)
              have OBW : Hid (W.ownsRow 0 99 8 (.slice ah L ch) L (hvs hs)) := by unfold Hid; rw [hL]; exact HSW.out.hd
              have hPW : P < W.heap.size := HSW.out.row.lt
              have g0 := MBW.out 0 _ rfl
              have g1 := MBW.out 1 _ rfl
              have g2 := MBW.out 2 _ rfl
              have g3 := MBW.out 3 _ rfl
              have g4 := MBW.out 4 _ rfl
              have g5 := MBW.out 5 _ rfl
              have g6 := MBW.out 6 _ rfl
              have g7 := MBW.out 7 _ rfl
              obtain ⟨q, hq⟩ : ∃ q : Obj, q = .cells #[.int .i64 m.kind, .int .i64 m.obj, .int .i64 m.blk, .int .i64 m.num, .int .i64 m.len, .string m.sym, .slice io m.items.length ci, .int .i64 m.objs] 99 := ⟨_, rfl⟩
              have c3q : (W.alloc (.cells #[.int .i64 m.kind, .int .i64 m.obj, .int .i64 m.blk, .int .i64 m.num, .int .i64 m.len, .string m.sym, .slice io m.items.length ci, .int .i64 m.objs] 99)).cell? ⟨P, 3, none⟩ = some (.slice ah L ch) := cell_old hPW c3W
              clear hWd hq hL m1 m4 k4 HS4 MB4 hP5 hM4
              generalize hXS : hvs hs = XS at *
              have HXS : Hid (hvs hs = XS) := hXS
              clear hXS
              refine wpAny_take (i := 0) (v := .pointer (some ⟨P, 0, none⟩)) rfl (by kernel_rfl) (by kernel_rfl) (by kernel_rfl) (fun _ _ _ h => h) (Or.inl ⟨by rfl, by intro w; go_simp⟩) ?_
              refine wpAny_take (i := 1) (v := .pointer (some ⟨P, 0, none⟩)) rfl (by kernel_rfl) (by kernel_rfl) (by kernel_rfl) (fun _ _ _ h => h) (Or.inl ⟨by rfl, by intro w; go_simp⟩) ?_
              refine wpAny_take (i := 2) (v := .pointer (some ⟨P, 0, none⟩)) rfl (by kernel_rfl) (by kernel_rfl) (by kernel_rfl) (fun _ _ _ h => h) (Or.inl ⟨by rfl, by intro w; go_simp⟩) ?_
              refine wpAny_take (i := 3) (v := .pointer (some ⟨P, 3, none⟩)) rfl (by kernel_rfl) (by kernel_rfl) (by kernel_rfl) (fun _ _ _ h => h) (Or.inl ⟨by rfl, by intro w; go_simp⟩) ?_
              refine wpAny_ready (rs := [4, 5]) (by kernel_rfl) (by simp) ?_
              refine AllReady.cons rfl (fun K hK => ?ordb1) (AllReady.cons rfl (fun K hK => ?ordb2) AllReady.nil)
              case' ordb1 =>
                go_simp
                refine hK _ _ ?_
                clear hK K
                refine wpAny_ready (rs := [5]) (by kernel_rfl) (by simp) ?_
                refine AllReady.cons rfl (fun K hK => ?_) AllReady.nil
                go_simp
                refine hK _ _ ?_
                clear hK K
                refine wpAny_ready (rs := [6]) (by kernel_rfl) (by simp) ?_
                refine AllReady.cons rfl (fun K hK => ?_) AllReady.nil
                go_simp
                refine hK _ _ ?_
                clear hK K
              case' ordb2 =>
                go_simp
                refine hK _ _ ?_
                clear hK K
                refine wpAny_ready (rs := [4, 6]) (by kernel_rfl) (by simp) ?_
                refine AllReady.cons rfl (fun K hK => ?ordb3) (AllReady.cons rfl (fun K hK => ?ordb4) AllReady.nil)
                case' ordb3 =>
                  go_simp
                  refine hK _ _ ?_
                  clear hK K
                  refine wpAny_ready (rs := [6]) (by kernel_rfl) (by simp) ?_
                  refine AllReady.cons rfl (fun K hK => ?_) AllReady.nil
                  go_simp
                  refine hK _ _ ?_
                  clear hK K
                case' ordb4 =>
                  go_simp
                  refine hK _ _ ?_
                  clear hK K
                  refine wpAny_ready (rs := [4]) (by kernel_rfl) (by simp) ?_
                  refine AllReady.cons rfl (fun K hK => ?_) AllReady.nil
                  go_simp
                  refine hK _ _ ?_
                  clear hK K
              all_goals
                refine wpAny_ready (rs := [7]) (by kernel_rfl) (by simp) ?_
                refine AllReady.cons rfl (fun K hK => ?_) AllReady.nil
                refine step_append_at rfl (.tmp 86) (.tmp 88) 65 rfl 0 99 i0 (.agg #[.int .i64 0, .int .i64 0, .int .i64 0, .int .i64 0, .int .i64 0, .string ⟨#[]⟩, .slice none 0 0, .int .i64 0]) 8 88 Tryz.underlying65 hi0 hz0 hz1' hz2 rfl (by decide) (.slice ah L ch) L XS rfl (OBW.out.alloc (.cells #[.int .i64 m.kind, .int .i64 m.obj, .int .i64 m.blk, .int .i64 m.num, .int .i64 m.len, .string m.sym, .slice io m.items.length ci, .int .i64 m.objs] 99)) ⟨W.heap.size, 0, none⟩ 1 1 [.int .i64 m.kind, .int .i64 m.obj, .int .i64 m.blk, .int .i64 m.num, .int .i64 m.len, .string m.sym, .slice io m.items.length ci, .int .i64 m.objs] rfl rfl news8 (by intro u hu; simp at hu; rcases hu with rfl | rfl | rfl | rfl | rfl | rfl | rfl | rfl <;> rfl) (by unfold maxLen; omega) (by omega) (Nat.zero_le _) ?_
                intro v' w6 hown' hgrow hat
                obtain ⟨ah2, ch2, rfl⟩ := owns_form hown'
                rw [← HXS.out] at hown'
                have HI6 : Hid (RI w (w6.setCell ⟨P, 3, none⟩ (.slice ah2 (L + 1) ch2)) P r.n (hs ++ [⟨m, io, m.items.length, ci⟩]) r.known r.taken F ah2 ch2) := HSW.out.more HL.out hown' hgrow hat
                have R6 := HSW.out.row.of_block (((hgrow.block P (by simp; omega) (fun e => HSW.out.hp (by rw [← HL.out]; exact e.symm))).trans (Below.heap_alloc W _ P hPW)))
                have c3' : w6.cell? ⟨P, 3, none⟩ = some (.slice ah hs.length ch) := R6.cell (by decide)
                have f3' := R6.frozen 3
                have hMo : (Value.slice ah L ch).ownBlock ≠ some Mb := fun e => by have := HOW0.out Mb (by rw [← HL.out]; exact e); omega
                have hMP : Mb ≠ P := by omega
                have bM : w6.heap[Mb]? = W.heap[Mb]? := (hgrow.block Mb (by simp; omega) (fun e => hMo e.symm)).trans (Below.heap_alloc W _ Mb hMW)
                have n1 : (w6.setCell ⟨P, 3, none⟩ (.slice ah2 (L + 1) ch2)).cell? ⟨Mb, 1, none⟩ = some (.int .i64 O) := by
                  rw [← HO.out]
                  exact (World.cell?_of_block (a := ⟨Mb, 1, none⟩) ((heap_setCell_other _ _ _ _ hMP).trans bM)).trans g1
                clear hown' hgrow hat R6 hMo bM OBW HSW MBW c3q c3W g0 g1 g2 g3 g4 g5 g6 g7 HXS
                refine hK _ _ ?_
                clear hK K
                refine wpAny_take (i := 8) (v := .pointer (some ⟨P, 0, none⟩)) rfl (by kernel_rfl) (by kernel_rfl) (by kernel_rfl) (fun _ _ _ h => h) (Or.inl ⟨by rfl, by intro w; go_simp⟩) ?_
                refine wpAny_take (i := 9) (v := .pointer (some ⟨P, 3, none⟩)) rfl (by kernel_rfl) (by kernel_rfl) (by kernel_rfl) (fun _ _ _ h => h) (Or.inl ⟨by rfl, by intro w; go_simp⟩) ?_
                refine wpAny_ready (rs := [10]) (by kernel_rfl) (by simp) ?_
                refine AllReady.cons rfl (fun K hK => ?_) AllReady.nil
                go_simp
                refine hK _ _ ?_
                clear hK K c3' f3'
                refine wpAny_done (by kernel_rfl) ?_ _
                have k4' : (w6.setCell ⟨P, 3, none⟩ (.slice ah2 (L + 1) ch2)).cell? ⟨P, 4, none⟩ = some (.int .i64 r.known) := HI6.out.row.cell (by decide)
                generalize w6.setCell ⟨P, 3, none⟩ (.slice ah2 (L + 1) ch2) = w7 at *
                obtain ⟨v, hv⟩ : ∃ v, v = w7.drew := ⟨_, rfl⟩
                have HI7 : Hid (RI w v P r.n (hs ++ [⟨m, io, m.items.length, ci⟩]) r.known r.taken F ah2 ch2) := by unfold Hid; rw [hv]; exact HI6.out.below (Below.refl _ _).drew
                have p1 : v.cell? ⟨Mb, 1, none⟩ = some (.int .i64 O) := by rw [hv]; exact n1
                have p4 : v.cell? ⟨P, 4, none⟩ = some (.int .i64 r.known) := HI7.out.row.cell (by decide)
                have f4 := HI7.out.row.frozen 4
                have HHm : Hid ((hs ++ [(⟨m, io, m.items.length, ci⟩ : Hm)]).map Hm.m = r.heard ++ [m]) := by unfold Hid; rw [List.map_append, HH.out]; rfl
                clear HI6 n1 k4'
                go_wp2_with fail
                (refine wp_region_still_tail 6 (by kernel_rfl) (by kernel_rfl) ?_; change wpStill _ _ (World.drew _) (fun a' => wpList _ _ _ _ a' (World.drew _)) _ _; simp only [← hv]; clear hv; simp only [List.take_succ_cons, List.take_zero, List.drop_succ_cons, List.drop_zero]; (repeat still_step); refine wpStill_nil ?_)
                by_cases hkn2 : r.known ≤ O
                · have HF : Hid (RI w (v.setCell ⟨P, 4, none⟩ (.int .i64 (O + 1 : Nat))) P r.n (hs ++ [⟨m, io, m.items.length, ci⟩]) (O + 1) r.taken F ah2 ch2) := HI7.out.set_known (O + 1)
                  have HMX : Hid (max r.known (O + 1) = O + 1) := by unfold Hid; omega
                  clear HI7
                  go_wp2
                  go_ret
                  refine ⟨.inl ⟨m, HT.out, by rw [HM.out]; rfl, ?_⟩, HF.out.touch⟩
                  have := HF.out.done
                  rw [HHm.out] at this
                  rw [HM.out, HMX.out]; exact this
                · have HMX : Hid (max r.known (O + 1) = r.known) := by unfold Hid; omega
                  go_wp2
                  go_ret
                  refine ⟨.inl ⟨m, HT.out, by rw [HM.out]; rfl, ?_⟩, HI7.out.touch⟩
                  have := HI7.out.done
                  rw [HHm.out] at this
                  rw [HM.out, HMX.out]; exact this
  · exact absurd HT0.out.1 (hno m0)
end Sn
end Go.Proofs.YtkgnmcekeeannaaGreat
