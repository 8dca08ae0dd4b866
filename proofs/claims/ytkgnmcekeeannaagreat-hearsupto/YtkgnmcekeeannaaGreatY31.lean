import Derived.Test.YtkgnmcekeeannaaGreatY30
/-
  The reference's receiver hears data that it refuses.
-/
namespace Go.Proofs.YtkgnmcekeeannaaGreat
open Go.RowKit Go.Deep
namespace Sn
open Bs
open Ms (txt text ok M It mV mVm mBox mRow mRow_new itF itOK ItemsAt Tells ReadOut refRead owns_setCell owns_items icells)
set_option linter.unusedVariables false


theorem RI.here {w wr : World} {P : Nat} {n : Nm} {hs : List Hm} {known taken : Nat} {F : Nat → Prop} {ah : Option Addr} {ch : Nat}
    (h : RI w wr P n hs known taken F ah ch) : RI wr wr P n hs known taken (grow F w wr) ah ch :=
  ⟨h.row, h.hd, .inl h.fP, h.hp, fun b hb => by
    have hl := (h.hd.lt b hb).2
    rcases h.fh b hb with h' | h'
    · exact .inl (.inl h')
    · exact .inl (.inr ⟨h', hl⟩), Touch.refl _ _⟩
set_option maxRecDepth 100000 in
set_option maxHeartbeats 4000000 in
theorem refHearR_refused (r : Rt) (tx : ByteArray) (P : Nat) (F : Nat → Prop) (w : World) (ht : tx.size ≤ 1048576) (hA : RcvAt w P r F) (hn : r.n.ok) (m0 : M) (htl0 : Tells tx m0) (hk0 : m0.kind = 1) (hbad : (r.hear m0).2 ≠ 0) (hkn : r.known ≤ 4611686018427387904) (hhl : r.heard.length ≤ 1048576) :
    Calls Tryz.prog 32 #[.pointer (some ⟨P, 0, none⟩), .string tx] w fun e w' => HearOutR r tx e w w' P F ∧ Touch w w' F := by
  obtain ⟨hs, ah, ch, hh, hI⟩ := hA
  have HR := refRead tx w ht
  have HI : Hid (RI w w P r.n hs r.known r.taken F ah ch) := hI
  have HH : Hid (hs.map Hm.m = r.heard) := hh
  have HT0 : Hid (Tells tx m0 ∧ m0.kind = 1) := ⟨htl0, hk0⟩
  have HBD : Hid ((r.hear m0).2 ≠ 0) := hbad
  clear hbad hI hh ht htl0 hk0
  go_enter Tryz.func32, Tryz.ntmps32
  go_wp2_with fail
  refine HR.mono ?_
  rintro e w1 ⟨ho, hb1⟩
  clear HR
  rcases ho with ⟨m, io, ci, htl, rfl, hown⟩ | ⟨hno, rfl⟩
  · have HT : Hid (Tells tx m) := htl
    have HE0 : Hid (m = m0) := (Ms.tells_ref htl).symm.trans (Ms.tells_ref HT0.out.1)
    have hk : m.kind = 1 := by
      have e : m = m0 := (Ms.tells_ref htl).symm.trans (Ms.tells_ref HT0.out.1)
      rw [e]; exact HT0.out.2
    have HSI1 : Hid (RI w (w1.alloc (mBox m.kind m.obj m.blk m.num m.len m.sym io m.items.length ci m.objs)) P r.n hs r.known r.taken F ah ch) := (HI.out.below hb1).below ((Below.refl _ _).alloc (Nat.le_refl _) _)
    have tk : (m.kind == 2) = false := by rw [hk]; rfl
    have tk3 : (m.kind == 3) = false := by rw [hk]; rfl
    obtain ⟨q1, q2, q3, q4, q5, q6, q7, q8, q9, q10, q11, q12⟩ : Ms.dataOK m := by
      rcases htl.1 with h | h | h
      · exact h.2
      · rw [hk] at h; exact absurd h.1 (by decide)
      · rw [hk] at h; exact absurd h.1 (by decide)
    obtain ⟨O, hO⟩ : ∃ x : Nat, m.obj = (x : Int) := ⟨m.obj.toNat, by omega⟩
    obtain ⟨Bk, hBk⟩ : ∃ x : Nat, m.blk = (x : Int) := ⟨m.blk.toNat, by omega⟩
    obtain ⟨Nu, hNu⟩ : ∃ x : Nat, m.num = (x : Int) := ⟨m.num.toNat, by omega⟩
    obtain ⟨Ln, hLn⟩ : ∃ x : Nat, m.len = (x : Int) := ⟨m.len.toNat, by omega⟩
    have HO : Hid (m.obj = (O : Int)) := hO
    have HBk : Hid (m.blk = (Bk : Int)) := hBk
    have HNu : Hid (m.num = (Nu : Int)) := hNu
    have HLn : Hid (m.len = (Ln : Int)) := hLn
    have hO7 : O ≤ 7 := by omega
    have hB255 : Bk ≤ 255 := by omega
    have hN15 : Nu ≤ 15 := by omega
    have hL256 : 1 ≤ Ln ∧ Ln ≤ 256 := by omega
    have HK : Hid (m.kind = 1) := hk
    have HQ : Hid (m.items = [] ∧ m.objs = 0) := ⟨q11, q12⟩
    have mb : ∀ j v, ([.int .i64 m.kind, .int .i64 m.obj, .int .i64 m.blk, .int .i64 m.num, .int .i64 m.len, .string m.sym, .slice io m.items.length ci, .int .i64 m.objs] : List Value)[j]? = some v → (w1.alloc (mBox m.kind m.obj m.blk m.num m.len m.sym io m.items.length ci m.objs)).cell? ⟨w1.heap.size, j, none⟩ = some v := fun j v hv => cell_new rfl (by simpa using hv)
    have hMl : w1.heap.size < (w1.alloc (mBox m.kind m.obj m.blk m.num m.len m.sym io m.items.length ci m.objs)).heap.size := by simp
    clear q1 q2 q3 q4 q5 q6 q7 q8 q11 q12 hO hBk hNu hLn hk htl hown hb1 HI
    go_upto_region 8 with fail
    obtain ⟨Mb, hMb⟩ : ∃ B, B = w1.heap.size := ⟨_, rfl⟩
    have hMb' : w1.heap.size = Mb := hMb.symm
    simp only [hMb'] at *
    clear hMb hMb'
    generalize w1.alloc (mBox m.kind m.obj m.blk m.num m.len m.sym io m.items.length ci m.objs) = w2 at *
    have HMA := fun W => many_any r.n Ln Bk W hn (by omega) (by omega)
    obtain ⟨wd, hwd⟩ : ∃ wd, wd = w2.drew := ⟨_, rfl⟩
    have HSD : Hid (RI w wd P r.n hs r.known r.taken F ah ch) := by unfold Hid; rw [hwd]; exact HSI1.out.below (Below.refl _ _).drew
    have x0 : wd.cell? ⟨P, 0, none⟩ = some (.int .i64 r.n.size) := HSD.out.row.cell (by decide)
    have x1 : wd.cell? ⟨P, 1, none⟩ = some (.int .i64 r.n.block) := HSD.out.row.cell (by decide)
    have x2 : wd.cell? ⟨P, 2, none⟩ = some (.int .i64 r.n.spare) := HSD.out.row.cell (by decide)
    have MBd : Hid (∀ j v, ([.int .i64 m.kind, .int .i64 m.obj, .int .i64 m.blk, .int .i64 m.num, .int .i64 m.len, .string m.sym, .slice io m.items.length ci, .int .i64 m.objs] : List Value)[j]? = some v → wd.cell? ⟨Mb, j, none⟩ = some v) := fun j v hv => by rw [hwd]; exact mb j v hv
    have m2 : wd.cell? ⟨Mb, 2, none⟩ = some (.int .i64 Bk) := by rw [← HBk.out]; exact MBd.out 2 _ rfl
    have m4 : wd.cell? ⟨Mb, 4, none⟩ = some (.int .i64 Ln) := by rw [← HLn.out]; exact MBd.out 4 _ rfl
    have hMl' : Mb < wd.heap.size := by rw [hwd]; exact hMl
    refine wp_region_still_tail 8 (by kernel_rfl) (by kernel_rfl) ?_
    change wpStill _ _ (World.drew _) (fun a' => wpList _ _ _ _ a' (World.drew _)) _ _
    simp only [← hwd]
    clear hwd mb hMl HSI1
    simp only [List.take_succ_cons, List.take_zero, List.drop_succ_cons, List.drop_zero]
    repeat still_step
    refine wpStill_nil ?_
    go_wp2_with fail
    refine (HMA _).mono ?_
    rintro e w3 ⟨rfl, hb3⟩
    have HS3 : Hid (RI w w3 P r.n hs r.known r.taken F ah ch) := HSD.out.below hb3
    have MB3 : Hid (∀ j v, ([.int .i64 m.kind, .int .i64 m.obj, .int .i64 m.blk, .int .i64 m.num, .int .i64 m.len, .string m.sym, .slice io m.items.length ci, .int .i64 m.objs] : List Value)[j]? = some v → w3.cell? ⟨Mb, j, none⟩ = some v) := fun j v hv => (hb3.cell (p := ⟨Mb, j, none⟩) hMl').trans (MBd.out j v hv)
    have hM3 : Mb < w3.heap.size := Nat.lt_of_lt_of_le hMl' hb3.size
    obtain ⟨k, hkk⟩ : ∃ k, k = r.n.many Ln Bk := ⟨_, rfl⟩
    have HKK : Hid (k = r.n.many Ln Bk) := hkk
    have hk8 : k ≤ 8 := by rw [hkk]; have := many_le r.n Ln Bk; have := hn.2.2.2.1; omega
    rw [← hkk]
    clear hkk HMA x0 x1 x2 m2 m4 HSD MBd hb3 hMl'
    go_upto_region 9 with fail
    have y0 : w3.cell? ⟨P, 0, none⟩ = some (.int .i64 r.n.size) := HS3.out.row.cell (by decide)
    have y2 : w3.cell? ⟨P, 2, none⟩ = some (.int .i64 r.n.spare) := HS3.out.row.cell (by decide)
    have m3 : w3.cell? ⟨Mb, 3, none⟩ = some (.int .i64 Nu) := by rw [← HNu.out]; exact MB3.out 3 _ rfl
    have m5 : w3.cell? ⟨Mb, 5, none⟩ = some (.string m.sym) := MB3.out 5 _ rfl
    have hsp : r.n.spare ≤ 8 := hn.2.2.2.2
    by_cases b1 : m.sym.size ≠ r.n.size
    · have t1 : ((m.sym.size : Int) != (r.n.size : Int)) = true := by simpa using (by omega : ¬ (m.sym.size : Int) = r.n.size)
      have HBad : Hid (m.sym.size ≠ r.n.size ∨ k = 0 ∨ k + r.n.spare ≤ Nu) := .inl b1
      clear b1
      have HM : Hid (r.hear m = (r, 6)) := by
        unfold Hid Rt.hear
        rw [if_neg (by rw [HK.out]; decide), if_neg (by rw [HK.out]; decide)]
        simp only []
        rw [if_pos (by rw [HLn.out, HBk.out, HNu.out]; simp only [Int.toNat_natCast]; rw [← HKK.out]; exact HBad.out)]
      go_quiet (fail)
      have HF : Hid (RI w (w3.drewN nq) P r.n hs r.known r.taken F ah ch) := HS3.out.below (below_drewN (Below.refl _ _) nq)
      clear HS3 MB3 y0 y2 m3 m5
      generalize w3.drewN nq = w4 at *
      go_wp2
      go_ret
      refine ⟨.inl ⟨m, HT.out, by rw [HM.out]; rfl, ?_⟩, HF.out.touch⟩
      have := HF.out.done
      rw [HH.out] at this
      rw [HM.out]; exact this
    · have t1 : ((m.sym.size : Int) != (r.n.size : Int)) = false := by simpa using (by omega : (m.sym.size : Int) = r.n.size)
      by_cases b2 : k = 0
      · have t2 : ((k : Int) == 0) = true := by rw [b2]; rfl
        have HBad : Hid (m.sym.size ≠ r.n.size ∨ k = 0 ∨ k + r.n.spare ≤ Nu) := .inr (.inl b2)
        clear b1 b2
        have HM : Hid (r.hear m = (r, 6)) := by
          unfold Hid Rt.hear
          rw [if_neg (by rw [HK.out]; decide), if_neg (by rw [HK.out]; decide)]
          simp only []
          rw [if_pos (by rw [HLn.out, HBk.out, HNu.out]; simp only [Int.toNat_natCast]; rw [← HKK.out]; exact HBad.out)]
        go_quiet (fail)
        have HF : Hid (RI w (w3.drewN nq) P r.n hs r.known r.taken F ah ch) := HS3.out.below (below_drewN (Below.refl _ _) nq)
        clear HS3 MB3 y0 y2 m3 m5
        generalize w3.drewN nq = w4 at *
        go_wp2
        go_ret
        refine ⟨.inl ⟨m, HT.out, by rw [HM.out]; rfl, ?_⟩, HF.out.touch⟩
        have := HF.out.done
        rw [HH.out] at this
        rw [HM.out]; exact this
      · have t2 : ((k : Int) == 0) = false := by simpa using b2
        by_cases b3 : k + r.n.spare ≤ Nu
        · have HBad : Hid (m.sym.size ≠ r.n.size ∨ k = 0 ∨ k + r.n.spare ≤ Nu) := .inr (.inr b3)
          have b3' : (k : Int) + r.n.spare ≤ Nu := by omega
          clear b1 b2 b3
          have HM : Hid (r.hear m = (r, 6)) := by
            unfold Hid Rt.hear
            rw [if_neg (by rw [HK.out]; decide), if_neg (by rw [HK.out]; decide)]
            simp only []
            rw [if_pos (by rw [HLn.out, HBk.out, HNu.out]; simp only [Int.toNat_natCast]; rw [← HKK.out]; exact HBad.out)]
          go_quiet (fail)
          have HF : Hid (RI w (w3.drewN nq) P r.n hs r.known r.taken F ah ch) := HS3.out.below (below_drewN (Below.refl _ _) nq)
          clear HS3 MB3 y0 y2 m3 m5
          generalize w3.drewN nq = w4 at *
          go_wp2
          go_ret
          refine ⟨.inl ⟨m, HT.out, by rw [HM.out]; rfl, ?_⟩, HF.out.touch⟩
          have := HF.out.done
          rw [HH.out] at this
          rw [HM.out]; exact this
        · have HGood : Hid (¬ (m.sym.size ≠ r.n.size ∨ k = 0 ∨ k + r.n.spare ≤ Nu)) := by
            unfold Hid; omega
          have b3' : (Nu : Int) < (k : Int) + r.n.spare := by omega
          clear b1 b2 b3
          go_quiet (fail)
          have HS4 : Hid (RI w (w3.drewN nq) P r.n hs r.known r.taken F ah ch) := HS3.out.below (below_drewN (Below.refl _ _) nq)
          have MB4 : Hid (∀ j v, ([.int .i64 m.kind, .int .i64 m.obj, .int .i64 m.blk, .int .i64 m.num, .int .i64 m.len, .string m.sym, .slice io m.items.length ci, .int .i64 m.objs] : List Value)[j]? = some v → (w3.drewN nq).cell? ⟨Mb, j, none⟩ = some v) := fun j v hv => cell_drawn (MB3.out j v hv)
          have hM4 : Mb < (w3.drewN nq).heap.size := hM3
          clear HS3 MB3 y0 y2 m3 m5 hM3
          generalize w3.drewN nq = w4 at *
          have m1 : w4.cell? ⟨Mb, 1, none⟩ = some (.int .i64 O) := by rw [← HO.out]; exact MB4.out 1 _ rfl
          have hs1 : hs.length ≤ 1048576 := by rw [← HH.out, List.length_map] at hhl; exact hhl
          have HLE := refLength (O : Int) HS4.out.here (by omega)
          go_wp2_with fail
          refine HLE.mono ?_
          rintro e w5 ⟨rfl, rfl⟩
          clear HLE
          rw [HH.out]
          obtain ⟨Ne, hNe⟩ : ∃ x, x = lenIn r.heard O := ⟨_, rfl⟩
          have HNe : Hid (Ne = lenIn r.heard m.obj) := by unfold Hid; rw [HO.out]; exact hNe
          rw [← hNe]
          clear hNe
          have m4 : w5.cell? ⟨Mb, 4, none⟩ = some (.int .i64 Ln) := by rw [← HLn.out]; exact MB4.out 4 _ rfl
          by_cases d1 : 0 < Ne ∧ Ne ≠ (Ln : Int)
          · have HM : Hid (r.hear m = (r, 9)) := by
              unfold Hid Rt.hear
              rw [if_neg (by rw [HK.out]; decide), if_neg (by rw [HK.out]; decide)]
              simp only []
              rw [if_neg (by rw [HLn.out, HBk.out, HNu.out]; simp only [Int.toNat_natCast]; rw [← HKK.out]; exact HGood.out), if_pos (by rw [← HNe.out, HLn.out]; exact d1)]
            have d2 : (Ne != (Ln : Int)) = true := by simpa using d1.2
            have d3 : 0 < Ne := d1.1
            clear d1
            go_wp2
            go_ret
            refine ⟨.inl ⟨m, HT.out, by rw [HM.out]; rfl, ?_⟩, HS4.out.touch⟩
            have := HS4.out.done
            rw [HH.out] at this
            rw [HM.out]; exact this
          · have HM : Hid (r.hear m = ({ r with heard := r.heard ++ [m], known := max r.known (O + 1) }, 0)) := by
              unfold Hid Rt.hear
              rw [if_neg (by rw [HK.out]; decide), if_neg (by rw [HK.out]; decide)]
              simp only []
              rw [if_neg (by rw [HLn.out, HBk.out, HNu.out]; simp only [Int.toNat_natCast]; rw [← HKK.out]; exact HGood.out), if_neg (by rw [← HNe.out, HLn.out]; exact d1), HO.out]; rfl
            exact absurd (show (r.hear m0).2 = 0 by rw [← HE0.out, HM.out]) HBD.out
  · exact absurd HT0.out.1 (hno m0)
end Sn
end Go.Proofs.YtkgnmcekeeannaaGreat
