import Derived.Test.YtkgnmcekeeannabW26
import Derived.Test.YtkgnmcekeeannabW08
import Derived.Test.YtkgnmcekeeannabW14
import Derived.Test.YtkgnmcekeeannabW10
import Derived.Test.YtkgnmcekeeannabW03
/-
  The landed sender's goOn.
-/
namespace Go.Proofs.Ytkgnmcekeeannab
open Go.RowKit Go.Deep
namespace Sn
open Bs
set_option linter.unusedVariables false

def LS.step (s : LS) : LS :=
  if s.nn + 1 < s.n.many (s.obj s.no).size s.nb then { s with nn := s.nn + 1 }
  else if s.nb + 1 < s.blk s.no then { s with nn := 0, nb := s.nb + 1 }
  else { s with nn := 0, nb := 0, no := s.no + 1 }
set_option maxRecDepth 100000 in
set_option maxHeartbeats 4000000 in
theorem lanGoOn (s : LS) (P : Nat) (F : Nat → Prop) (ao : Option Addr) (co : Nat) (D : Nat → Nat) (w : World) (hs : LOk s) (hi : s.no < s.objs.length) (hb : s.nb < s.blk s.no) (hn : s.nn ≤ 8) (hA : LI w P s F ao co D) :
    Calls Try.prog 57 #[.pointer (some ⟨P, 0, none⟩)] w fun e w' => e = .returned (.tuple #[]) ∧ LI w' P s.step F ao co D ∧ Touch w w' F := by
  obtain ⟨c0, c1, c2, c3, c4, c5, c6⟩ := hA.cells
  have f6 := hA.row.frozen 6
  have hlen := hs.len
  have hbl := blk_le s hs s.no hi
  have hA1 : LI (w.setCell ⟨P, 6, none⟩ (.int .i64 ((s.nn : Int) + 1))) P { s with nn := s.nn + 1 } F ao co D := hA.setNn (s.nn + 1)
  have T1 : Touch w (w.setCell ⟨P, 6, none⟩ (.int .i64 ((s.nn : Int) + 1))) F := (Touch.refl _ _).set hA.fP
  obtain ⟨wd, hwd⟩ : ∃ wd, wd = (w.setCell ⟨P, 6, none⟩ (.int .i64 ((s.nn : Int) + 1))).drew := ⟨_, rfl⟩
  have hAd : LI wd P { s with nn := s.nn + 1 } F ao co D := by rw [hwd]; exact hA1.drew
  have TD : Touch w wd F := by rw [hwd]; exact T1.drew
  have HSY := lanSymbols { s with nn := s.nn + 1 } s.no s.nb P F ao co D wd ⟨hs.nok, hs.len, hs.sz⟩ hi (by omega) hAd
  have hM := many_le s.n (s.obj s.no).size s.nb
  obtain ⟨_, _, _, hbk, _⟩ := hs.nok
  have HST : Hid (s.step = if s.nn + 1 < s.n.many (s.obj s.no).size s.nb then { s with nn := s.nn + 1 } else if s.nb + 1 < s.blk s.no then { s with nn := 0, nb := s.nb + 1 } else { s with nn := 0, nb := 0, no := s.no + 1 }) := rfl
  have eM : ({ s with nn := s.nn + 1 } : LS).n.many (({ s with nn := s.nn + 1 } : LS).obj s.no).size s.nb = s.n.many (s.obj s.no).size s.nb := rfl
  rw [eM] at HSY
  generalize s.n.many (s.obj s.no).size s.nb = k at *
  have HAD : Hid (LI wd P { s with nn := s.nn + 1 } F ao co D) := hAd
  clear hA hA1 T1 c0 c1 c2 c3 hs eM
  obtain ⟨d0, d1, d2, d3, d4, d5, d6⟩ := hAd.cells
  simp only at d4 d5 d6
  clear d0 d1 d2 d3 hAd
  go_enter Try.func57, Try.ntmps57
  go_wp2_with fail
  (refine wp_region_still_tail 11 (by kernel_rfl) (by kernel_rfl) ?_; change wpStill _ _ (World.drew _) (fun a' => wpList _ _ _ _ a' (World.drew _)) _ _; simp only [← hwd]; clear hwd; simp only [List.take_succ_cons, List.take_zero, List.drop_succ_cons, List.drop_zero]; (repeat still_step); refine wpStill_nil ?_)
  go_wp2_with fail
  refine HSY.mono ?_
  rintro e w1 ⟨rfl, hb1⟩
  have L1 := HAD.out.below hb1
  have T1 := TD.below hb1
  clear HSY HAD hb1 TD d4 d5 d6 c4 c5 c6 f6
  have HL1 : Hid (LI w1 P { s with nn := s.nn + 1 } F ao co D) := L1
  have HT1 : Hid (Touch w w1 F) := T1
  obtain ⟨c0, c1, c2, c3, c4, c5, c6⟩ := L1.cells
  have f4 := L1.row.frozen 4
  have f5 := L1.row.frozen 5
  have f6 := L1.row.frozen 6
  simp only at c4 c5 c6
  by_cases hx : s.nn + 1 < k
  · have e : s.step = { s with nn := s.nn + 1 } := by rw [HST.out, if_pos hx]
    have HE : Hid (s.step = { s with nn := s.nn + 1 }) := e
    clear e L1 T1 c0 c1 c2 c3
    go_wp2
    refine bodyPost_ret (v := .tuple #[]) (by simp [results, Try.results57]) rfl ?_
    rw [HE.out]
    exact ⟨rfl, HL1.out, HT1.out⟩
  · have L2 := (L1.setNn 0).setNb (s.nb + 1)
    have T2 : Touch w ((w1.setCell ⟨P, 6, none⟩ (.int .i64 0)).setCell ⟨P, 5, none⟩ (.int .i64 ((s.nb : Int) + 1))) F := (T1.set L1.fP).set L1.fP
    have L2' : LI ((w1.setCell ⟨P, 6, none⟩ (.int .i64 0)).setCell ⟨P, 5, none⟩ (.int .i64 ((s.nb : Int) + 1))) P { s with nn := 0, nb := s.nb + 1 } F ao co D := L2
    obtain ⟨v, hv⟩ : ∃ v, v = ((w1.setCell ⟨P, 6, none⟩ (.int .i64 0)).setCell ⟨P, 5, none⟩ (.int .i64 ((s.nb : Int) + 1))).drew := ⟨_, rfl⟩
    have LV : LI v P { s with nn := 0, nb := s.nb + 1 } F ao co D := by rw [hv]; exact L2'.drew
    have TV : Touch w v F := by rw [hv]; exact T2.drew
    have HLV : Hid (LI v P { s with nn := 0, nb := s.nb + 1 } F ao co D) := LV
    have HTV : Hid (Touch w v F) := TV
    obtain ⟨g, rfl, hg, hsl⟩ := LV.slot (by show 0 < s.objs.length; omega)
    have s1 := (hsl s.no hi).2
    have HI : Hid (s.no < s.objs.length) := hi
    obtain ⟨d0, d1, d2, d3, d4, d5, d6⟩ := LV.cells
    simp only at d3 d4 d5 d6
    have g4 := LV.row.frozen 4
    have g5 := LV.row.frozen 5
    have s1' : v.cell? ⟨g, s.no * 2 + 1, none⟩ = some (.slice (some ⟨D s.no, 0, none⟩) (s.blk s.no) (s.blk s.no)) := s1
    clear L1 L2 L2' T1 T2 c0 c1 c2 c3 s1 d0 d1 d2 LV TV hsl HL1 HT1
    go_wp2_with fail
    (refine wp_region_still_tail 18 (by kernel_rfl) (by kernel_rfl) ?_; change wpStill _ _ (World.drew _) (fun a' => wpList _ _ _ _ a' (World.drew _)) _ _; simp only [← hv]; clear hv; simp only [List.take_succ_cons, List.take_zero, List.drop_succ_cons, List.drop_zero]; (repeat still_step); refine wpStill_nil ?_)
    clear c4 c5 c6 f4 f5 f6
    by_cases hy : s.nb + 1 < s.blk s.no
    · have HE : Hid (s.step = { s with nn := 0, nb := s.nb + 1 }) := by unfold Hid; rw [HST.out, if_neg hx, if_pos hy]
      clear hx
      go_wp2
      refine bodyPost_ret (v := .tuple #[]) (by simp [results, Try.results57]) rfl ?_
      rw [HE.out]
      exact ⟨rfl, HLV.out, HTV.out⟩
    · have HE : Hid (s.step = { s with nn := 0, nb := 0, no := s.no + 1 }) := by unfold Hid; rw [HST.out, if_neg hx, if_neg hy]
      have HLZ : Hid (LI ((v.setCell ⟨P, 5, none⟩ (.int .i64 (0 : Nat))).setCell ⟨P, 4, none⟩ (.int .i64 (s.no + 1 : Nat))) P { s with nn := 0, nb := 0, no := s.no + 1 } F (some ⟨g, 0, none⟩) co D) := (HLV.out.setNb 0).setNo (s.no + 1)
      have HTZ : Hid (∀ a b, Touch w ((v.setCell ⟨P, 5, none⟩ a).setCell ⟨P, 4, none⟩ b) F) := fun a b => (HTV.out.set HLV.out.fP).set HLV.out.fP
      clear hx
      go_wp2
      refine bodyPost_end (v := .tuple #[]) (by simp [results, Try.results57]) rfl ?_
      rw [HE.out]
      exact ⟨rfl, HLZ.out, HTZ.out _ _⟩
end Sn
end Go.Proofs.Ytkgnmcekeeannab
/-
  The landed layout's Data: a block's symbols, filled up.
-/
namespace Go.Proofs.Ytkgnmcekeeannab
open Go.RowKit Go.Deep
namespace Sn
open Bs
open Ms (txt)
set_option linter.unusedVariables false

open Cod (conv_own one_news)
def flB (o : ByteArray) (Q j : Nat) : List UInt8 := (List.range j).map (fun i => o.data.toList.getD (Q + i) 0)
theorem flB_succ (o : ByteArray) (Q j : Nat) : flB o Q (j + 1) = flB o Q j ++ [o.data.toList.getD (Q + j) 0] := by simp [flB, List.range_succ]
set_option maxRecDepth 100000 in
set_option maxHeartbeats 4000000 in
theorem layData (n : Nm) (o : ByteArray) (b : Nat) (w : World) (hn : n.ok) (ho : o.size ≤ 256) (hbb : b ≤ 255) :
    Calls Try.prog 82 #[nmV n, .string o, .int .i64 b] w fun e w' => e = .returned (.string (txt (filledB n o b))) ∧ Below w.heap.size w w' := by
  have B0 : Below w.heap.size w (w.alloc (lBox n.size n.block n.spare)).drew := ((Below.refl _ _).alloc (Nat.le_refl _) _).drew
  have HS : Calls Try.prog 69 #[nmV n, .int .i64 o.size, .int .i64 b] (w.alloc (lBox n.size n.block n.spare)).drew fun e w' => e = .returned (.int .i64 (n.many o.size b : Nat)) ∧ Below w.heap.size w w' ∧ w'.cell? ⟨w.heap.size, 0, none⟩ = some (.int .i64 n.size) ∧ w'.cell? ⟨w.heap.size, 1, none⟩ = some (.int .i64 n.block) ∧ w'.cell? ⟨w.heap.size, 2, none⟩ = some (.int .i64 n.spare) := by
    refine (laySymbols n o.size b _ hn (by omega) (by omega)).mono ?_
    rintro e w1 ⟨rfl, hb1⟩
    exact ⟨rfl, B0.trans (hb1.mono (by simp)), (hb1.cell (p := ⟨w.heap.size, 0, none⟩) (by simp)).trans (cell_new (w := w) rfl rfl), (hb1.cell (p := ⟨w.heap.size, 1, none⟩) (by simp)).trans (cell_new (w := w) rfl rfl), (hb1.cell (p := ⟨w.heap.size, 2, none⟩) (by simp)).trans (cell_new (w := w) rfl rfl)⟩
  have hM := many_le n o.size b
  have HFB : Hid (filledB n o b = (List.range (n.many o.size b * n.size)).map (fun i => o.data.toList.getD (b * n.block * n.size + i) 0)) := rfl
  obtain ⟨z, bk, sp⟩ := n
  obtain ⟨h1, h2, h3, h4, h5⟩ := hn
  simp only at h1 h2 h3 h4 h5 hM HFB HS B0 ⊢
  generalize filledB ⟨z, bk, sp⟩ o b = FB at *
  generalize (⟨z, bk, sp⟩ : Nm).many o.size b = k at *
  simp only [nmV] at HS
  obtain ⟨Q1, hQ1⟩ : ∃ Q, Q = b * bk := ⟨_, rfl⟩
  have q1b : Q1 ≤ 255 * 8 := by rw [hQ1]; exact Nat.mul_le_mul hbb h4
  have q1 : (b : Int) * (bk : Int) = (Q1 : Int) := by rw [hQ1]; simp
  rw [← hQ1] at HFB
  obtain ⟨Q2, hQ2⟩ : ∃ Q, Q = Q1 * z := ⟨_, rfl⟩
  have q2b : Q2 ≤ 255 * 8 * 16 := by rw [hQ2]; exact Nat.mul_le_mul q1b h2
  have q2 : (Q1 : Int) * (z : Int) = (Q2 : Int) := by rw [hQ2]; simp
  rw [← hQ2] at HFB
  obtain ⟨R, hRz⟩ : ∃ Q, Q = k * z := ⟨_, rfl⟩
  have rb : R ≤ 8 * 16 := by rw [hRz]; exact Nat.mul_le_mul (by omega) h2
  have r1 : (k : Int) * (z : Int) = (R : Int) := by rw [hRz]; simp
  rw [← hRz] at HFB
  clear hQ1 hQ2 hRz
  obtain ⟨i0, hi, hz0, hz1, hz2⟩ := info_parts3 Cod.infoByte
  have hb0 : 0 ≤ (b : Int) := by omega
  have hk0 : 0 ≤ (k : Int) := by omega
  have e1 : IntKind.i64.wrap (Q1 : Int) = (Q1 : Int) := IntWalk.i64_in _ ⟨by omega, by omega⟩
  have e2 : IntKind.i64.wrap (Q2 : Int) = (Q2 : Int) := IntWalk.i64_in _ ⟨by omega, by omega⟩
  have e3 : IntKind.i64.wrap (R : Int) = (R : Int) := IntWalk.i64_in _ ⟨by omega, by omega⟩
  go_enter Try.func82, Try.ntmps82
  clear B0
  go_wp2_with fail
  go_region_held3 (fun w' => w'.cell? ⟨w.heap.size, 0, none⟩ = some (.int .i64 z) ∧ w'.cell? ⟨w.heap.size, 1, none⟩ = some (.int .i64 bk) ∧ w'.cell? ⟨w.heap.size, 2, none⟩ = some (.int .i64 sp)) (go_keep)
    (first | (go_at_call 69; refine HS.mono ?_; rintro e w1 ⟨rfl, B1, k0, d1, k2⟩))
  clear HS
  have B2 : Below w.heap.size w w1 := B1
  clear B1
  obtain ⟨w2, hw2⟩ : ∃ w2, w2 = w1 := ⟨_, rfl⟩
  rw [← hw2] at B2 k0 d1 k2 ⊢
  clear hw2
  have hz2' := B2.size
  have h0 : (w2.alloc (Obj.cells #[] 5)).ownsRow w.heap.size 5 1 (.slice (some ⟨w2.heap.size, 0, none⟩) 0 0) 0 ((flB o Q2 0).map Cod.bv) := World.ownsRow_made w2 #[] 0 hz2' (by decide) rfl
  have HO : Hid ((w2.alloc (Obj.cells #[] 5)).ownsRow w.heap.size 5 1 (.slice (some ⟨w2.heap.size, 0, none⟩) 0 0) 0 ((flB o Q2 0).map Cod.bv)) := h0
  have B3 : Hid (Below w.heap.size w (w2.alloc (Obj.cells #[] 5))) := B2.alloc hz2' _
  clear h0 B2
  go_wp2
  clear k0 d1 k2
  go_loopw [9, 10] (fun v i wr => ∃ j : Nat, j ≤ R ∧ i = .int .i64 (Q2 + j : Nat) ∧ wr.ownsRow w.heap.size 5 1 v j ((flB o Q2 j).map Cod.bv) ∧ Below w.heap.size w wr) (fun _ i _ => Q2 + R - (intOf i).toNat)
  case atStart => exact ⟨0, Nat.zero_le _, rfl, HO.out, B3.out⟩
  case round =>
    clear HO B3
    obtain ⟨j, hj, rfl, hown, hnx⟩ := hrel
    have hsz := hnx.size
    obtain ⟨p, hp⟩ : ∃ p, p = Q2 + j := ⟨_, rfl⟩
    rw [← hp]
    have HP : Hid (p = Q2 + j) := hp
    have pb : p ≤ 40000 := by omega
    by_cases hlt : j < R
    · have lt1 : (p : Int) < (Q2 : Int) + (R : Int) := by omega
      by_cases hin : p < o.size
      · have HV : Hid ((flB o Q2 j).map Cod.bv ++ [.int .u8 (o[p].toNat : Nat)] = (flB o Q2 (j + 1)).map Cod.bv) := by
          unfold Hid
          rw [flB_succ, List.map_append]
          congr 1
          show [_] = [Cod.bv _]
          rw [List.getD_eq_getElem?_getD, ← hp, List.getElem?_eq_getElem (by simpa using hin)]; rfl
        clear hp
        go_wp2_with (at_builtin; refine wpList_append_own _ rfl _ _ 72 rfl w.heap.size 5 i0 (.int .u8 0) 1 1 Try.underlying72 hi hz0 hz1 hz2 rfl (by decide) _ _ _ rfl (hown.alloc _) ⟨wr.heap.size, 0, none⟩ 1 1 [.int .u8 (o[p].toNat : Nat)] rfl rfl one_news ?c2 ?c3 ?c4 ?c5 ?_)
        case c2 => intro u hu; simp at hu; subst hu; rfl
        case c3 => unfold maxLen; omega
        case c4 => omega
        case c5 => simp; omega
        · intro v' w3 hown' hgrow _
          have hb := Cod.below_append hnx hsz hown hgrow
          rw [HV.out] at hown'
          clear hown hgrow hnx
          go_wp2
          go_roundw
          case rel => exact ⟨j + 1, by omega, by rw [HP.out]; go_num, hown', hb⟩
          case measure => simp [intOf]; omega
      · have HV : Hid ((flB o Q2 j).map Cod.bv ++ [.int .u8 0] = (flB o Q2 (j + 1)).map Cod.bv) := by
          unfold Hid
          rw [flB_succ, List.map_append]
          congr 1
          show [_] = [Cod.bv _]
          rw [List.getD_eq_getElem?_getD, ← hp, List.getElem?_eq_none (by simpa using hin)]; rfl
        have hin2 : (o.size : Int) ≤ (p : Int) := by omega
        clear hp hin
        go_wp2_with (at_builtin; refine wpList_append_own _ rfl _ _ 72 rfl w.heap.size 5 i0 (.int .u8 0) 1 1 Try.underlying72 hi hz0 hz1 hz2 rfl (by decide) _ _ _ rfl (hown.alloc _) ⟨wr.heap.size, 0, none⟩ 1 1 [.int .u8 0] rfl rfl one_news ?c2 ?c3 ?c4 ?c5 ?_)
        case c2 => intro u hu; simp at hu; subst hu; rfl
        case c3 => unfold maxLen; omega
        case c4 => omega
        case c5 => simp; omega
        · intro v' w3 hown' hgrow _
          have hb := Cod.below_append hnx hsz hown hgrow
          rw [HV.out] at hown'
          clear hown hgrow hnx
          go_wp2
          go_roundw
          case rel => exact ⟨j + 1, by omega, by rw [HP.out]; go_num, hown', hb⟩
          case measure => simp [intOf]; omega
    · obtain rfl : j = R := by omega
      have HV : Hid (flB o Q2 j = FB) := by unfold Hid flB; rw [HFB.out]
      have hcv := conv_own (flB o Q2 j) hown
      rw [HV.out] at hcv
      have lt1 : (Q2 : Int) + (j : Int) ≤ (p : Int) := by omega
      clear hown hp hlt
      go_wp2
      go_ret
      exact ⟨rfl, hnx⟩
end Sn
end Go.Proofs.Ytkgnmcekeeannab
/-
  The landed sender's symbol and data.
-/
namespace Go.Proofs.Ytkgnmcekeeannab
open Go.RowKit Go.Deep
namespace Sn
open Bs
open Ms (txt txt_size)
open Cod (byteAt flat flat_get flat_length symF gx)
set_option linter.unusedVariables false

theorem bytes_ext {A B : ByteArray} (hs : A.size = B.size) (h : ∀ i, i < A.size → byteAt A i = byteAt B i) : A = B := by
  apply ByteArray.ext
  apply Array.ext'
  apply List.ext_getElem?
  intro i
  have ha : A.data.toList.length = A.size := by simp
  have hb : B.data.toList.length = B.size := by simp
  by_cases hi : i < A.size
  · have := h i hi
    unfold byteAt at this
    rw [List.getD_eq_getElem?_getD, List.getD_eq_getElem?_getD, List.getElem?_eq_getElem (by omega), List.getElem?_eq_getElem (by omega)] at this
    rw [List.getElem?_eq_getElem (by omega), List.getElem?_eq_getElem (by omega)]
    simpa using this
  · rw [List.getElem?_eq_none (by omega), List.getElem?_eq_none (by omega)]
theorem sbyteAt_append (x v : ByteArray) (i : Nat) : byteAt (x ++ v) i = if i < x.size then byteAt x i else byteAt v (i - x.size) := by
  unfold byteAt
  rw [ByteArray.data_append, Array.toList_append, List.getD_eq_getElem?_getD, List.getD_eq_getElem?_getD, List.getD_eq_getElem?_getD]
  have hl : x.data.toList.length = x.size := by simp
  by_cases h : i < x.size
  · rw [List.getElem?_append_left (by omega), if_pos h]
  · rw [List.getElem?_append_right (by omega), if_neg h, hl]
theorem sbyteAt_extract (A : ByteArray) (lo hi i : Nat) (h : i < hi - lo) : byteAt (A.extract lo hi) i = byteAt A (lo + i) := by
  unfold byteAt
  rw [Lib.extract_data, List.getD_eq_getElem?_getD, List.getD_eq_getElem?_getD, List.getElem?_take, if_pos h, List.getElem?_drop]
theorem sym_own (k z num p : Nat) (x : ByteArray) (hk : k ≤ 8) (hj : num < k) : symF k id x z num 0 p = byteAt x (num * z + p) := by
  unfold symF
  rw [Nat.add_zero]
  exact Pol.lag_at (Cod.apart_of (fun i hi => by show i < 16; omega) (fun i j _ _ h => h)) _ num hj
theorem one_flat (k z num i : Nat) (x : ByteArray) (hi : i < z) : byteAt (txt (flat z (symF k id x z num) 1)) i = symF k id x z num 0 i := by
  show (flat z (symF k id x z num) 1).getD i 0 = _
  simp [flat, List.getD_eq_getElem?_getD, hi]
theorem sym_cut_own (k z num : Nat) (x : ByteArray) (hk : k ≤ 8) (hx : x.size = k * z) (hj : num < k) : x.extract (num * z) (num * z + z) = txt (flat z (symF k id x z num) 1) := by
  have h1 : num * z + z ≤ k * z := by rw [← Nat.succ_mul]; exact Nat.mul_le_mul_right _ hj
  have hs : (x.extract (num * z) (num * z + z)).size = z := by simp; omega
  refine bytes_ext (by rw [hs, txt_size, flat_length]; omega) (fun i hi => ?_)
  rw [hs] at hi
  rw [sbyteAt_extract _ _ _ _ (by omega), one_flat _ _ _ _ _ hi, sym_own k z num i x hk hj]
theorem sym_cut_spare (k z sp num : Nat) (x : ByteArray) (hk : k ≤ 8) (hx : x.size = k * z) (hj : k ≤ num) (hj2 : num < k + sp) :
    (x ++ (⟨(flat z (symF k id x z k) sp).toArray⟩ : ByteArray)).extract (num * z) (num * z + z) = txt (flat z (symF k id x z num) 1) := by
  have h1 : num * z + z ≤ (k + sp) * z := by rw [← Nat.succ_mul]; exact Nat.mul_le_mul_right _ hj2
  have h2 : (x ++ (⟨(flat z (symF k id x z k) sp).toArray⟩ : ByteArray)).size = (k + sp) * z := by
    rw [ByteArray.size_append, hx, Nat.add_mul]
    congr 1
    show (flat z (symF k id x z k) sp).toArray.size = _
    simp [flat_length]
  have hs : ((x ++ (⟨(flat z (symF k id x z k) sp).toArray⟩ : ByteArray)).extract (num * z) (num * z + z)).size = z := by
    rw [ByteArray.size_extract, h2]; omega
  refine bytes_ext (by rw [hs, txt_size, flat_length]; omega) (fun i hi => ?_)
  rw [hs] at hi
  rw [sbyteAt_extract _ _ _ _ (by omega), one_flat _ _ _ _ _ hi, sbyteAt_append, hx]
  have h3 : k * z ≤ num * z := Nat.mul_le_mul_right _ hj
  rw [if_neg (by omega)]
  show (flat z (symF k id x z k) sp).getD _ 0 = _
  have e : num * z + i - k * z = (num - k) * z + i := by rw [Nat.sub_mul]; omega
  have h4 : (num - k) * z + z ≤ sp * z := by rw [← Nat.succ_mul]; exact Nat.mul_le_mul_right _ (by omega)
  have hd : ((num - k) * z + i) / z = num - k := by rw [Nat.mul_comm, Nat.mul_add_div (by omega), Nat.div_eq_of_lt hi]; omega
  have hm : ((num - k) * z + i) % z = i := by rw [Nat.mul_comm, Nat.mul_add_mod, Nat.mod_eq_of_lt hi]
  rw [e, List.getD_eq_getElem?_getD, flat_get z _ sp _ (by omega), hd, hm]
  show symF k id x z k (num - k) i = _
  unfold symF
  rw [show k + (num - k) = num + 0 from by omega]
set_option maxRecDepth 100000 in
set_option maxHeartbeats 4000000 in
theorem lanSymbol (s : LS) (o : ByteArray) (b num P : Nat) (F : Nat → Prop) (ao : Option Addr) (co : Nat) (D : Nat → Nat) (w : World) (hs : LOk s) (ho : o.size ≤ 256) (hbb : b ≤ 255) (hk : 0 < s.n.many o.size b) (hnum : num < s.n.many o.size b + s.n.spare) (hA : LI w P s F ao co D) :
    Calls Try.prog 73 #[.pointer (some ⟨P, 0, none⟩), .string o, .int .i64 b, .int .i64 num] w fun e w' => e = .returned (.string (txt (symOf s.n o b num))) ∧ Below w.heap.size w w' := by
  have HD := layData s.n o b w hs.nok ho hbb
  have hM := many_le s.n o.size b
  have hfl := filledB_length s.n o b
  have HSO : Hid (symOf s.n o b num = flat s.n.size (symF (s.n.many o.size b) id (txt (filledB s.n o b)) s.n.size num) 1) := rfl
  obtain ⟨h1, h2, h3, h4, h5⟩ := hs.nok
  rw [HSO.out]
  clear HSO
  obtain ⟨c0, c1, c2, c3, c4, c5, c6⟩ := hA.cells
  have HA : Hid (LI w P s F ao co D) := hA
  clear hA c3 c4 c5 c6
  simp only [nmV] at HD
  generalize filledB s.n o b = FB at *
  generalize s.n.many o.size b = k at *
  obtain ⟨X, hX⟩ : ∃ X, X = txt FB := ⟨_, rfl⟩
  have hXs : X.size = k * s.n.size := by rw [hX, txt_size]; exact hfl
  rw [← hX] at HD ⊢
  clear hX hfl
  obtain ⟨z, hz⟩ : ∃ z, z = s.n.size := ⟨_, rfl⟩
  obtain ⟨sp, hsp⟩ : ∃ z, z = s.n.spare := ⟨_, rfl⟩
  have HZ : Hid (z = s.n.size) := hz
  have HSP : Hid (sp = s.n.spare) := hsp
  rw [← hz] at hXs h1 h2 c0 HD ⊢
  rw [← hsp] at hnum h5 c2 HD
  clear hz hsp
  have HXS : Hid (X.size = k * z) := hXs
  obtain ⟨Fi, hFi⟩ : ∃ Q, Q = num * z := ⟨_, rfl⟩
  have fib : Fi ≤ 16 * 16 := by rw [hFi]; exact Nat.mul_le_mul (by omega) h2
  have fi1 : (num : Int) * (z : Int) = (Fi : Int) := by rw [hFi]; simp
  have HFi : Hid (Fi = num * z) := hFi
  have xb : X.size ≤ 8 * 16 := by rw [hXs]; exact Nat.mul_le_mul (by omega) h2
  by_cases hown : num < k
  · have le1 : Fi + z ≤ X.size := by rw [hFi, hXs, ← Nat.succ_mul]; exact Nat.mul_le_mul_right _ hown
    have HV : Hid (X.extract Fi (Fi + z) = txt (flat z (symF k id X z num) 1)) := by unfold Hid; rw [hFi]; exact sym_cut_own k z num X (by omega) hXs hown
    have hsl : ∀ W : World, (Instr.slice 9 (.string X) (some (.int .i64 (Fi : Int))) (some (.int .i64 ((Fi : Int) + (z : Int)))) none).run Try.prog W = .ok (.string (X.extract Fi (Fi + z))) W := fun W => by
      have h := run_slice_string (P := Try.prog) W 9 X .i64 .i64 (Fi : Int) ((Fi : Int) + (z : Int)) Try.underlying9 (by omega) (by omega) (by omega)
      rw [show ((Fi : Int) + (z : Int)).toNat = Fi + z from by omega, show ((Fi : Int)).toNat = Fi from by omega] at h
      exact h
    rw [← HV.out]
    clear hFi hXs hM
    go_enter Try.func73, Try.ntmps73
    go_wp2_with fail
    refine HD.mono ?_
    rintro e w1 ⟨rfl, B1⟩
    have c0' : w1.cell? ⟨P, 0, none⟩ = some (.int .i64 z) := (B1.cell (p := ⟨P, 0, none⟩) HA.out.row.lt).trans c0
    clear HD c0 c1 c2
    go_wp2
    go_ret
    exact ⟨rfl, B1⟩
  · have le1 : X.size ≤ Fi := by rw [hFi, hXs]; exact Nat.mul_le_mul_right _ (by omega)
    have HE := fun W => Cod.encode_ok X z sp k W (by unfold maxLen; omega) h1 h2 hk (by omega) hXs h5
    have le2 : Fi + z ≤ (k + sp) * z := by rw [hFi, ← Nat.succ_mul]; exact Nat.mul_le_mul_right _ (by omega)
    have HV : Hid ((X ++ (⟨(flat z (symF k id X z k) sp).toArray⟩ : ByteArray)).extract Fi (Fi + z) = txt (flat z (symF k id X z num) 1)) := by unfold Hid; rw [hFi]; exact sym_cut_spare k z sp num X (by omega) hXs (by omega) hnum
    have hsz : (⟨(flat z (symF k id X z k) sp).toArray⟩ : ByteArray).size = sp * z := by
      show (flat z (symF k id X z k) sp).toArray.size = _
      simp [flat_length]
    have le3 : Fi + z ≤ X.size + (⟨(flat z (symF k id X z k) sp).toArray⟩ : ByteArray).size := by rw [hsz, hXs, ← Nat.add_mul]; exact le2
    have hvb : (⟨(flat z (symF k id X z k) sp).toArray⟩ : ByteArray).size ≤ 8 * 16 := by rw [hsz]; exact Nat.mul_le_mul h5 h2
    have hsl : ∀ (V : ByteArray), Fi + z ≤ X.size + V.size → ∀ W : World, (Instr.slice 9 (.string (X ++ V)) (some (.int .i64 (Fi : Int))) (some (.int .i64 ((Fi : Int) + (z : Int)))) none).run Try.prog W = .ok (.string ((X ++ V).extract Fi (Fi + z))) W := fun V hV W => by
      have h := run_slice_string (P := Try.prog) W 9 (X ++ V) .i64 .i64 (Fi : Int) ((Fi : Int) + (z : Int)) Try.underlying9 (by omega) (by omega) (by rw [ByteArray.size_append]; omega)
      rw [show ((Fi : Int) + (z : Int)).toNat = Fi + z from by omega, show ((Fi : Int)).toNat = Fi from by omega] at h
      exact h
    have hsl := hsl _ le3
    rw [← HV.out]
    generalize (⟨(flat z (symF k id X z k) sp).toArray⟩ : ByteArray) = V at *
    clear hFi hXs hM hsz le2
    go_enter Try.func73, Try.ntmps73
    go_wp2_with fail
    refine HD.mono ?_
    rintro e w1 ⟨rfl, B1⟩
    have c0' : w1.cell? ⟨P, 0, none⟩ = some (.int .i64 z) := (B1.cell (p := ⟨P, 0, none⟩) HA.out.row.lt).trans c0
    have c2' : w1.cell? ⟨P, 2, none⟩ = some (.int .i64 sp) := (B1.cell (p := ⟨P, 2, none⟩) HA.out.row.lt).trans c2
    clear HD c0 c1 c2
    go_wp2_with fail
    have HE1 : Calls Try.prog 83 #[.string X, .int .i64 z, .int .i64 sp] w1.drew fun e w' => e = .returned (.tuple #[.string V, .int .i64 0]) ∧ Below w.heap.size w w' ∧ w'.cell? ⟨P, 0, none⟩ = some (.int .i64 z) ∧ w'.cell? ⟨P, 2, none⟩ = some (.int .i64 sp) := by
      refine (HE _).mono ?_
      rintro e w2 ⟨rfl, hb2⟩
      have hPd : P < w1.drew.heap.size := by have := B1.size; have := HA.out.row.lt; show P < w1.heap.size; omega
      exact ⟨rfl, B1.drew.trans (hb2.mono B1.size), (hb2.cell (p := ⟨P, 0, none⟩) hPd).trans c0', (hb2.cell (p := ⟨P, 2, none⟩) hPd).trans c2'⟩
    clear HE
    go_region_held3 (fun w' => w'.cell? ⟨P, 0, none⟩ = some (.int .i64 z) ∧ w'.cell? ⟨P, 2, none⟩ = some (.int .i64 sp)) (go_keep)
      (first | (go_at_call 83; refine HE1.mono ?_; rintro e w2 ⟨rfl, B2, e0, e2⟩))
    all_goals
      clear HE1 B1 c0' c2'
      go_wp2
      go_ret
      exact ⟨rfl, B2⟩
end Sn
end Go.Proofs.Ytkgnmcekeeannab
namespace Go.Proofs.Ytkgnmcekeeannab
open Go.RowKit Go.Deep
namespace Ms
open Bs
set_option linter.unusedVariables false

def BoolIs (e : Ending) (P : Prop) : Prop := ∃ r : Bool, e = .returned (.bool r) ∧ (r = true ↔ P)
def Place (o b : Int) : Prop := 0 ≤ o ∧ o ≤ 7 ∧ 0 ≤ b ∧ b ≤ 255
set_option maxHeartbeats 1000000 in
theorem isPlace_any (o b : Int) (w : World) :
    Calls Try.prog 75 #[.int .i64 o, .int .i64 b] w fun e w' => BoolIs e (Place o b) ∧ w' = w := by
  go_enter Try.func75, Try.ntmps75
  go_wp2
  all_goals
    go_ret
    refine ⟨⟨_, rfl, ?_⟩, rfl⟩
    unfold Place
    simp
    try omega
set_option maxHeartbeats 1000000 in
theorem hasData_any (kd ob bl nu le : Int) (sy : ByteArray) (ao : Option Addr) (n cap : Nat) (os : Int) (w : World) (hs : sy.size ≤ maxLen) :
    Calls Try.prog 76 #[mV kd ob bl nu le sy ao n cap os] w fun e w' => BoolIs e (¬ NoData ob bl nu le sy) ∧ Below w.heap.size w w' := by
  unfold maxLen at hs
  obtain ⟨B1, e1⟩ : ∃ B, (ob != 0) = B := ⟨_, rfl⟩
  obtain ⟨B2, e2⟩ : ∃ B, (bl != 0) = B := ⟨_, rfl⟩
  obtain ⟨B3, e3⟩ : ∃ B, (nu != 0) = B := ⟨_, rfl⟩
  obtain ⟨B4, e4⟩ : ∃ B, (le != 0) = B := ⟨_, rfl⟩
  obtain ⟨B5, e5⟩ : ∃ B, ((sy.size : Int) != 0) = B := ⟨_, rfl⟩
  have HX : Hid ((B1 || B2 || B3 || B4 || B5) = true ↔ ¬ NoData ob bl nu le sy) := by
    unfold Hid NoData
    rw [← e1, ← e2, ← e3, ← e4, ← e5]
    simp only [Bool.or_eq_true, bne_iff_ne, ne_eq]
    omega
  have hb : Below w.heap.size w (w.alloc (mBox kd ob bl nu le sy ao n cap os)) := (Below.refl _ _).alloc (Nat.le_refl _) _
  go_enter Try.func76, Try.ntmps76
  go_wp2
  all_goals
    go_ret
    refine ⟨⟨_, rfl, ?_⟩, hb⟩
    rw [← HX.out]
    simp [*]
abbrev itV (t : It) : Value := .agg #[.int .i64 t.o, .int .i64 t.b, .int .i64 t.c]
set_option maxHeartbeats 1000000 in
theorem isItem_any (t : It) (w : World) :
    Calls Try.prog 77 #[itV t] w fun e w' => BoolIs e (itOK t) ∧ Below w.heap.size w w' := by
  obtain ⟨o, b, c⟩ := t
  have HP := fun W => isPlace_any o b W
  have hb : Below w.heap.size w (w.alloc (.cells #[.int .i64 o, .int .i64 b, .int .i64 c] 106)) := (Below.refl _ _).alloc (Nat.le_refl _) _
  go_enter Try.func77, Try.ntmps77
  go_wp2_with fail
  refine (HP _).mono ?_
  rintro e w' ⟨⟨r, rfl, hr⟩, rfl⟩
  clear HP
  have HR : Hid (r = true ↔ Place o b) := hr
  clear hr
  cases r with
  | false =>
    have h : Hid (¬ Place o b) := fun h => by have := HR.out.2 h; cases this
    go_wp2
    go_ret
    refine ⟨⟨_, rfl, ?_⟩, hb⟩
    have := h.out
    unfold Place at this
    unfold itOK
    simp
    omega
  | true =>
    have h : Hid (Place o b) := HR.out.1 rfl
    go_wp2
    all_goals
      go_ret
      refine ⟨⟨_, rfl, ?_⟩, hb⟩
      have := h.out
      unfold Place at this
      unfold itOK
      simp
      try omega
set_option maxHeartbeats 1000000 in
theorem isEnd_any (kd ob bl nu le : Int) (sy : ByteArray) (ao : Option Addr) (n cap : Nat) (os : Int) (w : World) (hn : n ≤ maxLen) (hs : sy.size ≤ maxLen) :
    Calls Try.prog 61 #[mV kd ob bl nu le sy ao n cap os] w fun e w' => BoolIs e (0 ≤ os ∧ os ≤ 8 ∧ NoData ob bl nu le sy ∧ n = 0) ∧ Below w.heap.size w w' := by
  have HD := hasData_any kd ob bl nu le sy ao n cap os (w.alloc (mBox kd ob bl nu le sy ao n cap os)) hs
  unfold maxLen at hn hs
  go_enter Try.func61, Try.ntmps61
  go_wp2_with fail
  refine HD.mono ?_
  rintro e w1 ⟨⟨r, rfl, hr⟩, hb1⟩
  have HR : Hid (r = true ↔ ¬ NoData ob bl nu le sy) := hr
  have B1 : Below w.heap.size w w1 := ((Below.refl _ _).alloc (Nat.le_refl _) _).trans (hb1.mono (by simp))
  have c6 : w1.cell? ⟨w.heap.size, 6, none⟩ = some (.slice ao n cap) := (hb1.cell (p := ⟨w.heap.size, 6, none⟩) (by simp)).trans (cell_new rfl rfl)
  have c7 : w1.cell? ⟨w.heap.size, 7, none⟩ = some (.int .i64 os) := (hb1.cell (p := ⟨w.heap.size, 7, none⟩) (by simp)).trans (cell_new rfl rfl)
  clear HD hr hb1
  obtain ⟨B, hB⟩ : ∃ B, ((n : Int) != 0) = B := ⟨_, rfl⟩
  have HB : Hid (B = false ↔ n = 0) := by unfold Hid; rw [← hB]; simp
  cases r with
  | true =>
    have h : Hid (¬ NoData ob bl nu le sy) := HR.out.1 rfl
    go_wp2
    go_ret
    exact ⟨⟨_, rfl, by simp [h.out]⟩, B1⟩
  | false =>
    have h : Hid (NoData ob bl nu le sy) := Classical.not_not.1 (fun h => by have := HR.out.2 h; cases this)
    cases B with
    | true =>
      have h0 : Hid (¬ n = 0) := fun h => by have := HB.out.2 h; cases this
      go_wp2
      go_ret
      exact ⟨⟨_, rfl, by simp [h0.out]⟩, B1⟩
    | false =>
      have h0 : Hid (n = 0) := HB.out.1 rfl
      go_wp2
      all_goals
        go_ret
        refine ⟨⟨_, rfl, ?_⟩, B1⟩
        have h' := h.out
        have h0' := h0.out
        simp [h', h0']
        try omega
end Ms
end Go.Proofs.Ytkgnmcekeeannab
