import Derived.Test.YtbllidodcbjakaaZ06
import Derived.Test.YtbllidodcbjakaaZ01
import Derived.Test.YtbllidodcbjakaaZ03
import Derived.Test.YtbllidodcbjakaaZ05
namespace Go.Proofs.Ytbllidodcbjakaa
open Go.RowKit
namespace Crc
open Fld (ret_int val_int i64_and_nat i64_xor_nat i64_bit)

theorem rSum (s : ByteArray) (w : World) (hs : s.size ≤ maxLen) :
    Calls Try.prog 17 #[.string s] w fun e w' => e = .returned (.int .u16 (sum s.data.toList)) ∧ w' = w := by
  go_enter Try.func17, Try.ntmps17
  go_wp2_with fail
  refine (checkSum s _ hs).mono ?_
  rintro e w' ⟨rfl, rfl⟩
  go_wp2
  go_ret
  exact ⟨rfl, rfl⟩

theorem t_val (c m H : Nat) (hc : c < 256) (hH : H < 65536) :
    bits .xor .i64 (bits .and .i64 ((c : Int) / 2 ^ m) 1) (bits .and .i64 ((H : Int) / 32768) 1) = (((c / 2 ^ m % 2 + H / 32768) % 2 : Nat) : Int) := by
  have h1 := i64_bit c m (by omega)
  have h2 := i64_bit H 15 (by omega)
  rw [h1, show ((32768 : Int)) = 2 ^ 15 from rfl, h2, show (2 ^ 15 : Nat) = 32768 from rfl, show H / 32768 % 2 = H / 32768 from by omega]
  rcases Nat.mod_two_eq_zero_or_one (c / 2 ^ m) with p | p <;> rcases (show H / 32768 = 0 ∨ H / 32768 = 1 from by omega) with q | q <;> rw [p, q] <;> decide
theorem x_val (H : Nat) : Hid (bits .xor .i64 (bits .xor .i64 (bits .xor .i64 ((H : Int) * 2 % 65536) 1) 32) 4096 = (((H * 2 % 65536) ^^^ 4129 : Nat) : Int)) := by
  unfold Hid
  have hl : H * 2 % 65536 < 2 ^ 16 := Nat.mod_lt _ (by decide)
  have e : ((H : Int) * 2 % 65536) = ((H * 2 % 65536 : Nat) : Int) := by omega
  rw [e]
  generalize H * 2 % 65536 = x at *
  have x1 : x ^^^ 1 < 2 ^ 16 := Nat.xor_lt_two_pow hl (by decide)
  have x2 : x ^^^ 1 ^^^ 32 < 2 ^ 16 := Nat.xor_lt_two_pow x1 (by decide)
  have h1 := i64_xor_nat x 1 (by omega) (by decide)
  have h2 := i64_xor_nat (x ^^^ 1) 32 (by omega) (by decide)
  have h3 := i64_xor_nat (x ^^^ 1 ^^^ 32) 4096 (by omega) (by decide)
  have e1 : ((1 : Nat) : Int) = 1 := rfl
  have e2 : ((32 : Nat) : Int) = 32 := rfl
  have e3 : ((4096 : Nat) : Int) = 4096 := rfl
  rw [e1] at h1
  rw [e2] at h2
  rw [e3] at h3
  rw [h1, h2, h3, Nat.xor_assoc, Nat.xor_assoc, show (1 ^^^ (32 ^^^ 4096) : Nat) = 4129 from by decide]

set_option maxRecDepth 100000 in
set_option maxHeartbeats 1000000 in
theorem refCheck (s : ByteArray) (w : World) (hs : s.size ≤ maxLen) :
    Calls Try.prog 42 #[.string s] w fun e w' => e = .returned (.int .i64 (sum s.data.toList)) ∧ w' = w := by
  unfold maxLen at hs
  go_enter Try.func42, Try.ntmps42
  go_wp2
  go_loop [3, 4] (fun n i => ∃ k : Nat, k ≤ s.size ∧ i = .int .i64 k ∧ n = .int .i64 (sum (s.data.toList.take k))) (fun _ i => s.size - (intOf i).toNat)
  case atStart => exact ⟨0, Nat.zero_le _, rfl, rfl⟩
  case round =>
    obtain ⟨k, hk, rfl, rfl⟩ := hrel
    have hd := sum_lt (s.data.toList.take k)
    by_cases hlt : k < s.size
    · have HS : Hid (sum (s.data.toList.take (k + 1)) = byteK s[k].toNat 8 (sum (s.data.toList.take k))) := sum_take s k hlt
      generalize sum (s.data.toList.take k) = h at *
      go_wp2
      go_loop [3, 5] (fun n b => ∃ j : Nat, j ≤ 8 ∧ b = .int .i64 (7 - (j : Int)) ∧ n = .int .i64 (byteK s[k].toNat j h)) (fun _ b => (intOf b + 1).toNat)
      case atStart => exact ⟨0, Nat.zero_le _, rfl, rfl⟩
      case round =>
        obtain ⟨j, hj, rfl, rfl⟩ := hrel
        have hH := byteK_lt s[k].toNat j h hd
        have hc : s[k].toNat < 256 := UInt8.toNat_lt _
        by_cases hj8 : j < 8
        · have HT : Hid (byteK s[k].toNat (j + 1) h = bitS (byteK s[k].toNat j h) (s[k].toNat / 2 ^ (7 - j) % 2)) := rfl
          have hv := t_val s[k].toNat (7 - j) (byteK s[k].toNat j h) hc hH
          have HX := x_val (byteK s[k].toNat j h)
          by_cases ho : (s[k].toNat / 2 ^ (7 - j) % 2 + byteK s[k].toNat j h / 32768) % 2 = 1
          · have ht : (bits BinOp.xor IntKind.i64 (bits BinOp.and IntKind.i64 ((s[k].toNat : Int) / 2 ^ (7 - j)) 1) (bits BinOp.and IntKind.i64 ((byteK s[k].toNat j h : Nat) / 32768) 1) == 1) = true := by rw [hv, ho]; rfl
            have HO : Hid ((s[k].toNat / 2 ^ (7 - j) % 2 + byteK s[k].toNat j h / 32768) % 2 = 1) := ho
            clear hv ho
            go_wp2
            go_round
            case rel => exact ⟨j + 1, by omega, by go_num, val_int (by rw [HT.out, HX.out]; simp only [bitS]; rw [if_pos HO.out])⟩
            case measure => simp [intOf]; omega
          · have ht : (bits BinOp.xor IntKind.i64 (bits BinOp.and IntKind.i64 ((s[k].toNat : Int) / 2 ^ (7 - j)) 1) (bits BinOp.and IntKind.i64 ((byteK s[k].toNat j h : Nat) / 32768) 1) == 1) = false := by
              rw [hv, show (s[k].toNat / 2 ^ (7 - j) % 2 + byteK s[k].toNat j h / 32768) % 2 = 0 from by omega]; rfl
            have HO : Hid (¬ (s[k].toNat / 2 ^ (7 - j) % 2 + byteK s[k].toNat j h / 32768) % 2 = 1) := ho
            clear hv ho
            go_wp2
            go_round
            case rel => exact ⟨j + 1, by omega, by go_num, val_int (by rw [HT.out]; simp only [bitS]; rw [if_neg HO.out]; omega)⟩
            case measure => simp [intOf]; omega
        · have e8 : j = 8 := by omega
          subst e8
          go_wp2
          go_round
          case rel => exact ⟨k + 1, by omega, by go_num, by rw [HS.out]⟩
          case measure => simp [intOf]; omega
    · go_wp2
      go_ret
      exact ⟨ret_int (by rw [List.take_of_length_le (by simp; omega)]), rfl⟩
theorem refSum (s : ByteArray) (w : World) (hs : s.size ≤ maxLen) :
    Calls Try.prog 18 #[.string s] w fun e w' => e = .returned (.int .u16 (sum s.data.toList)) ∧ w' = w := by
  have hl := sum_lt s.data.toList
  go_enter Try.func18, Try.ntmps18
  go_wp2_with fail
  refine (refCheck s _ hs).mono ?_
  rintro e w' ⟨rfl, rfl⟩
  go_wp2
  go_ret
  exact ⟨ret_int (by first | rfl | (rw [IntKind.wrap_u16]; omega)), rfl⟩

theorem sums_said (a0 : ByteArray) (w0 : a0.size ≤ maxLen) (w : World) :
    Calls Try.prog 4 #[.string a0] w fun e w' => e = .returned (.bool true) ∧ Grown w w' := by
  go_enter Try.func4, Try.ntmps4
  go_wp2_with fail
  refine (rSum a0 _ w0).mono ?_
  rintro e w' ⟨rfl, rfl⟩
  go_wp2_with fail
  refine (refSum a0 _ w0).mono ?_
  rintro e w' ⟨rfl, rfl⟩
  generalize sum a0.data.toList = S at *
  go_wp2
  go_ret
  exact ⟨by simp, Grown.refl _⟩
end Crc
end Go.Proofs.Ytbllidodcbjakaa
namespace Go.Proofs.Ytbllidodcbjakaa
open Go.RowKit Go.Deep
namespace Ms
open Bs

set_option maxHeartbeats 1000000 in
theorem letters_any (l : List Int) (b cap : Nat) (w : World) (hl : l.length ≤ 8) (hb : b < w.heap.size)
    (hc : ∀ i, i < l.length → w.cell? ⟨b, i, none⟩ = some (.int .i64 (l.getD i 0))) :
    Calls Try.prog 49 #[.slice (some ⟨b, 0, none⟩) l.length cap] w fun e w' => e = .returned (.string ⟨(l.map u8w).toArray⟩) ∧ Below w.heap.size w w' := by
  obtain ⟨n, hn⟩ : ∃ n, n = l.length := ⟨_, rfl⟩
  have HNL : Hid (n = l.length) := hn
  rw [← hn] at hl hc ⊢
  clear hn
  have hmk := run_make_row' (P := Try.prog) 97 5 (.int .u8 0) 1 Try.underlying97 infoByte rfl .i64 .i64 n (by omega) (by omega)
  obtain ⟨N, hN⟩ : ∃ N, N = w.heap.size := ⟨_, rfl⟩
  have HC : Hid (∀ i, i < n → w.cell? ⟨b, i, none⟩ = some (.int .i64 (l.getD i 0))) := hc
  have HR0 : Hid ((w.alloc (.cells (madeCells #[.int .u8 0] n) 5)).rowIs N 5 n (fun j => if j < 0 then bv (u8w (l.getD j 0)) else .int .u8 0)) := by
    unfold Hid; rw [hN]; exact (World.rowIs_made w (.int .u8 0) n 5).congr (fun j _ => by simp)
  have B0 : Below N w (w.alloc (.cells (madeCells #[.int .u8 0] n) 5)) := by rw [hN]; exact (Below.refl _ _).alloc (Nat.le_refl _) _
  have hN' : w.heap.size = N := hN.symm
  rw [hN'] at hb ⊢
  clear hN hc
  go_enter Try.func49, Try.ntmps49
  go_wp2
  go_loopw [4] (fun x wr => ∃ i : Nat, i ≤ n ∧ x = .int .i64 i ∧ wr.rowIs N 5 n (fun j => if j < i then bv (u8w (l.getD j 0)) else .int .u8 0) ∧ Below N w wr) (fun x _ => n - (intOf x).toNat)
  case atStart => exact ⟨0, Nat.zero_le _, rfl, HR0.out, B0⟩
  case round =>
    clear HR0 B0 hmk hN'
    obtain ⟨i, hi, rfl, hR, hB⟩ := hrel
    by_cases hlt : i < n
    · have ci := (hB.cell (p := ⟨b, i, none⟩) hb).trans (HC.out i hlt)
      have oc := hR.cell hlt
      simp only [Nat.lt_irrefl, if_false] at oc
      have of := hR.frozen i
      have hu := toNat_u8w (l.getD i 0)
      have HR2 : Hid ((wr.setCell ⟨N, i, none⟩ (.int .u8 (l.getD i 0 % 256))).rowIs N 5 n (fun j => if j < i + 1 then bv (u8w (l.getD j 0)) else .int .u8 0)) := (hR.set i _).congr (fun j _ => by
        by_cases e : j = i
        · subst e; simp only [if_true, show j < j + 1 by omega, bv]; rw [hu]
        · by_cases e2 : j < i
          · simp [e, e2, show j < i + 1 by omega]
          · simp [e, e2, show ¬ j < i + 1 by omega])
      have hB2 : Below N w (wr.setCell ⟨N, i, none⟩ (.int .u8 (l.getD i 0 % 256))) := hB.setCell (Nat.le_refl _) _
      clear hR hu
      generalize l.getD i 0 = v at *
      go_wp2
      go_roundw
      case rel => exact ⟨i + 1, by omega, by go_num, HR2.out, hB2⟩
      case measure => simp [intOf]; omega
    · obtain rfl : i = n := by omega
      have hcv := conv_row (cap := i) (l.map u8w) (by rw [List.length_map, HNL.out]) hR (fun j hj x hx => by
        rw [HNL.out] at hj
        simp [hj] at hx
        rw [if_pos (by rw [HNL.out]; exact hj), ← hx, List.getD_eq_getElem?_getD, List.getElem?_eq_getElem hj]; rfl)
      clear hR
      go_wp2
      go_ret
      exact ⟨rfl, hB⟩
/-- every number from 0 to the one beside it -/
def Within (n : Nat) (l most : Nat → Int) : Prop := ∀ i, i < n → 0 ≤ l i ∧ l i ≤ most i

set_option maxHeartbeats 1000000 in
theorem within_any (n b1 c1 b2 c2 : Nat) (l most : Nat → Int) (w : World) (hn : n ≤ 8)
    (h1 : ∀ i, i < n → w.cell? ⟨b1, i, none⟩ = some (.int .i64 (l i))) (h2 : ∀ i, i < n → w.cell? ⟨b2, i, none⟩ = some (.int .i64 (most i))) :
    Calls Try.prog 71 #[.slice (some ⟨b1, 0, none⟩) n c1, .slice (some ⟨b2, 0, none⟩) n c2] w fun e w' => (∃ r : Bool, e = .returned (.bool r) ∧ (r = true ↔ Within n l most)) ∧ ∃ m, w' = w.drewN m := by
  have H1 : Hid (∀ i, i < n → w.cell? ⟨b1, i, none⟩ = some (.int .i64 (l i))) := h1
  have H2 : Hid (∀ i, i < n → w.cell? ⟨b2, i, none⟩ = some (.int .i64 (most i))) := h2
  clear h1 h2
  go_enter Try.func71, Try.ntmps71
  go_wp2
  go_loopw [5] (fun x wr => ∃ k : Nat, k ≤ n ∧ x = .int .i64 k ∧ Within k l most ∧ ∃ m, wr = w.drewN m) (fun x _ => n - (intOf x).toNat)
  case atStart => exact ⟨0, Nat.zero_le _, rfl, fun i hi => by omega, 0, rfl⟩
  case round =>
    obtain ⟨k, hk, rfl, hg, hwr⟩ := hrel
    have HG : Hid (Within k l most) := hg
    have HW : Hid (∃ m, wr = w.drewN m) := hwr
    have hcr : ∀ i, i < n → wr.cell? ⟨b1, i, none⟩ = some (.int .i64 (l i)) ∧ wr.cell? ⟨b2, i, none⟩ = some (.int .i64 (most i)) := by
      obtain ⟨m, rfl⟩ := hwr; exact fun i hi => ⟨H1.out i hi, H2.out i hi⟩
    clear hg hwr
    by_cases hlt : k < n
    · obtain ⟨ck, cm⟩ := hcr k hlt
      clear hcr
      by_cases h0 : l k < 0
      · have HF : Hid (¬ Within n l most) := fun h => by have := h k hlt; omega
        have hd : decide (l k < 0) = true := by simpa using h0
        go_wp2_with fail
        go_quiet (fail)
        go_wp2
        go_ret
        exact ⟨⟨false, rfl, by simp [HF.out]⟩, drawn_more HW.out⟩
      · have hd : decide (l k < 0) = false := by simpa using h0
        have h0' : 0 ≤ l k := by omega
        clear h0
        by_cases h1 : most k < l k
        · have HF : Hid (¬ Within n l most) := fun h => by have := h k hlt; omega
          go_wp2_with fail
          go_quiet (fail)
          go_wp2
          go_ret
          exact ⟨⟨false, rfl, by simp [HF.out]⟩, drawn_more HW.out⟩
        · have h1' : l k ≤ most k := by omega
          have hd2 : decide (most k < l k) = false := by simpa using h1
          clear h1
          go_wp2_with fail
          go_quiet (fail)
          go_wp2
          go_roundw
          case rel =>
            refine ⟨k + 1, by omega, by go_num, fun i hi => ?_, drawn_more HW.out⟩
            by_cases e : i = k
            · rw [e]; exact ⟨h0', h1'⟩
            · exact HG.out i (by omega)
          case measure => simp [intOf]; omega
    · obtain rfl : k = n := by omega
      clear hcr
      go_wp2
      go_ret
      exact ⟨⟨true, rfl, by simp [HG.out]⟩, HW.out⟩
end Ms
end Go.Proofs.Ytbllidodcbjakaa
namespace Go.Proofs.Ytbllidodcbjakaa
open Go.RowKit Go.Deep
namespace Ms
open Bs
set_option linter.unusedVariables false

theorem end_text (x : UInt8) : (⟨#[69]⟩ : ByteArray) ++ (⟨([x] : List UInt8).toArray⟩ : ByteArray) = ⟨([69, x] : List UInt8).toArray⟩ := by
  rw [show (⟨#[69]⟩ : ByteArray) = ⟨([69] : List UInt8).toArray⟩ from rfl, ByteArray.mk_append_mk]; rfl

set_option maxRecDepth 100000 in
set_option maxHeartbeats 4000000 in
theorem body_other (kd ob bl nu le : Int) (sy : ByteArray) (ao : Option Addr) (n cap : Nat) (os : Int) (w : World) (hn : n ≤ maxLen) (hs : sy.size ≤ maxLen) (hk : kd ≠ 1 ∧ kd ≠ 2 ∧ kd ≠ 3) :
    Calls Try.prog 48 #[mV kd ob bl nu le sy ao n cap os] w fun e w' => (∃ s : ByteArray, e = .returned (.tuple #[.string s, .bool false])) ∧ Below w.heap.size w w' := by
  unfold maxLen at hn hs
  obtain ⟨nd, hnd⟩ : ∃ nd : Bool, nd = true ↔ NoData ob bl nu le sy := (Classical.em (NoData ob bl nu le sy)).elim (fun h => ⟨true, by simp [h]⟩) (fun h => ⟨false, by simp [h]⟩)
  have HND : Hid (nd = true ↔ NoData ob bl nu le sy) := hnd
  clear hnd
  have k1 : (kd == 1) = false := by simp [hk.1]
  have k2 : (kd == 2) = false := by simp [hk.2.1]
  have k3 : (kd == 3) = false := by simp [hk.2.2]
  clear hk
  go_enter Try.func48, Try.ntmps48
  go_upto_region 1 with fail
  go_cut [4] (fun x wx => x = .bool nd ∧ wx = w.alloc (mBox kd ob bl nu le sy ao n cap os))
  case first =>
    clear k1 k2 k3
    obtain ⟨B1, e1⟩ : ∃ B, (ob == 0) = B := ⟨_, rfl⟩
    obtain ⟨B2, e2⟩ : ∃ B, (bl == 0) = B := ⟨_, rfl⟩
    obtain ⟨B3, e3⟩ : ∃ B, (nu == 0) = B := ⟨_, rfl⟩
    obtain ⟨B4, e4⟩ : ∃ B, (le == 0) = B := ⟨_, rfl⟩
    obtain ⟨B5, e5⟩ : ∃ B, sy.toList.isEmpty = B := ⟨_, rfl⟩
    have HX : Hid (nd = (B1 && B2 && B3 && B4 && B5)) := by
      unfold Hid
      have h := HND.out
      unfold NoData at h
      rw [Bool.eq_iff_iff, h, ← e1, ← e2, ← e3, ← e4, ← e5, size_isEmpty]
      simp [and_assoc]
    go_wp2
    all_goals go_meet
    all_goals exact ⟨congrArg Value.bool (by rw [HX.out]; simp [*]), rfl⟩
  case rest =>
    obtain ⟨rfl, rfl⟩ := hcut
    go_wp2
    go_ret2
    exact ⟨⟨_, rfl⟩, (Below.refl _ _).alloc (Nat.le_refl _) _⟩

end Ms
end Go.Proofs.Ytbllidodcbjakaa
namespace Go.Proofs.Ytbllidodcbjakaa
open Go.RowKit Go.Deep
namespace Ms
open Bs
set_option linter.unusedVariables false

set_option maxRecDepth 100000 in
set_option maxHeartbeats 4000000 in
theorem body_end (ob bl nu le : Int) (sy : ByteArray) (ao : Option Addr) (n cap : Nat) (os : Int) (w : World) (hn : n ≤ maxLen) (hs : sy.size ≤ maxLen) :
    Calls Try.prog 48 #[mV 3 ob bl nu le sy ao n cap os] w fun e w' => (∃ r : Bool, e = .returned (.tuple #[.string ⟨([69, u8w os] : List UInt8).toArray⟩, .bool r]) ∧ (r = true ↔ (0 ≤ os ∧ os ≤ 8 ∧ NoData ob bl nu le sy ∧ n = 0))) ∧ Below w.heap.size w w' := by
  unfold maxLen at hn hs
  obtain ⟨nd, hnd⟩ : ∃ nd : Bool, nd = true ↔ NoData ob bl nu le sy := (Classical.em (NoData ob bl nu le sy)).elim (fun h => ⟨true, by simp [h]⟩) (fun h => ⟨false, by simp [h]⟩)
  have HND : Hid (nd = true ↔ NoData ob bl nu le sy) := hnd
  clear hnd
  go_enter Try.func48, Try.ntmps48
  go_upto_region 1 with fail
  go_cut [4] (fun x wx => x = .bool nd ∧ wx = w.alloc (mBox 3 ob bl nu le sy ao n cap os))
  case first =>
    obtain ⟨B1, e1⟩ : ∃ B, (ob == 0) = B := ⟨_, rfl⟩
    obtain ⟨B2, e2⟩ : ∃ B, (bl == 0) = B := ⟨_, rfl⟩
    obtain ⟨B3, e3⟩ : ∃ B, (nu == 0) = B := ⟨_, rfl⟩
    obtain ⟨B4, e4⟩ : ∃ B, (le == 0) = B := ⟨_, rfl⟩
    obtain ⟨B5, e5⟩ : ∃ B, sy.toList.isEmpty = B := ⟨_, rfl⟩
    have HX : Hid (nd = (B1 && B2 && B3 && B4 && B5)) := by
      unfold Hid
      have h := HND.out
      unfold NoData at h
      rw [Bool.eq_iff_iff, h, ← e1, ← e2, ← e3, ← e4, ← e5, size_isEmpty]
      simp [and_assoc]
    go_wp2
    all_goals go_meet
    all_goals exact ⟨congrArg Value.bool (by rw [HX.out]; simp [*]), rfl⟩
  case rest =>
    obtain ⟨rfl, rfl⟩ := hcut
    go_wp2_with fail
    have HW := within_any 1 (w.heap.size + 1) 1 (w.heap.size + 2) 1 (fun _ => os) (fun _ => 8) (((w.alloc (mBox 3 ob bl nu le sy ao n cap os)).alloc (.cells #[.int .i64 os] 3)).alloc (.cells #[.int .i64 8] 3)) (by decide)
      (fun i hi => by
        obtain rfl : i = 0 := by omega
        exact cell_old (by simp) (cell_new (by simp) rfl))
      (fun i hi => by
        obtain rfl : i = 0 := by omega
        exact cell_new (by simp) rfl)
    refine HW.mono ?_
    rintro e w1 ⟨⟨r, rfl, hr⟩, q, rfl⟩
    clear HW
    have B1 : Below w.heap.size w ((((w.alloc (mBox 3 ob bl nu le sy ao n cap os)).alloc (.cells #[.int .i64 os] 3)).alloc (.cells #[.int .i64 8] 3)).drewN q) :=
      below_drewN ((((Below.refl _ _).alloc (Nat.le_refl _) _).alloc (by simp) _).alloc (by simp; omega) _) q
    go_wp2_with fail
    generalize hW2 : (((w.alloc (mBox 3 ob bl nu le sy ao n cap os)).alloc (.cells #[.int .i64 os] 3)).alloc (.cells #[.int .i64 8] 3)).drewN q = W2 at *
    have hz2 : W2.heap.size = w.heap.size + 1 + 1 + 1 := by rw [← hW2]; simp
    have HL := letters_any [os] (w.heap.size + 1 + 1 + 1) 1 (W2.alloc (.cells #[.int .i64 os] 3)) (by simp) (by simp; omega) (fun i hi => by
      obtain rfl : i = 0 := by simpa using hi
      exact cell_new (by omega) rfl)
    have B2 : Below w.heap.size w (W2.alloc (.cells #[.int .i64 os] 3)) := B1.alloc (by omega) _
    clear hW2 B1
    refine HL.mono ?_
    rintro e w3 ⟨rfl, hb3⟩
    have B3 := B2.trans (hb3.mono (by simp; omega))
    clear HL B2 hb3
    have ht := end_text (u8w os)
    have hfin : (r && nd && decide (n = 0)) = true ↔ (0 ≤ os ∧ os ≤ 8 ∧ NoData ob bl nu le sy ∧ n = 0) := by
      simp only [Bool.and_eq_true, hr, HND.out, decide_eq_true_eq, and_assoc]
      constructor
      · rintro ⟨h1, h2⟩; have := h1 0 (by decide); exact ⟨this.1, this.2, h2⟩
      · rintro ⟨h1, h2, h3⟩; exact ⟨fun i _ => ⟨h1, h2⟩, h3⟩
    have HF : Hid ((r && nd && decide (n = 0)) = true ↔ (0 ≤ os ∧ os ≤ 8 ∧ NoData ob bl nu le sy ∧ n = 0)) := hfin
    clear hr hfin
    cases r <;> cases nd
    all_goals
      go_wp2
      go_ret2
      exact ⟨⟨_, rfl, by rw [← HF.out]; simp⟩, B3⟩
end Ms
end Go.Proofs.Ytbllidodcbjakaa
