import Derived.Test.YtkgnmcekeeannabBas
import Derived.Test.YtkgnmcekeeannabCrc
/-
  The landed check.
-/
namespace Go.Proofs.Ytkgnmcekeeannab
open Go.RowKit
namespace Crc
open Bs (ret_int val_int)

theorem u16_top (H : Nat) (hH : H < 65536) : bits .and .u16 (H : Int) 32768 = ((H / 32768 * 32768 : Nat) : Int) := by
  have h := u16_and_nat H 32768 hH (by decide)
  rw [show (32768 : Nat) = 2 ^ 15 from rfl, and_pow] at h
  have e : H / 2 ^ 15 % 2 = H / 2 ^ 15 := Nat.mod_eq_of_lt (by omega)
  rw [e] at h
  exact h
theorem u8_mask (b k : Nat) (hb : b < 256) (hk : k < 8) : bits .and .u8 (b : Int) ((128 / 2 ^ k : Nat) : Int) = ((b / 2 ^ (7 - k) % 2 * 2 ^ (7 - k) : Nat) : Int) := by
  have e : 128 / 2 ^ k = 2 ^ (7 - k) := by
    rw [show (128 : Nat) = 2 ^ 7 from rfl, Nat.pow_div (by omega) (by decide)]
  have h2 : 2 ^ (7 - k) ≤ 2 ^ 7 := Nat.pow_le_pow_right (by decide) (by omega)
  rw [e, u8_and_nat b _ hb (by omega), and_pow]
theorem u16_shl (H : Nat) : IntKind.u16.wrap ((H : Int) * 2) = ((H * 2 % 65536 : Nat) : Int) := by rw [IntKind.wrap_u16]; omega
theorem u16_xorS (H : Nat) : bits .xor .u16 (IntKind.u16.wrap ((H : Int) * 2)) 4129 = (((H * 2 % 65536) ^^^ 4129 : Nat) : Int) := by
  rw [u16_shl]
  exact u16_xor_nat (H * 2 % 65536) 4129 (Nat.mod_lt _ (by decide)) (by decide)

set_option maxRecDepth 100000 in
set_option maxHeartbeats 1000000 in
theorem afterByte_nat (h b : Nat) (w : World) (hh : h < 65536) (hb : b < 256) :
    Calls Try.prog 64 #[.int .u16 h, .int .u8 b] w fun e w' => e = .returned (.int .u16 (byteK b 8 h)) ∧ w' = w := by
  go_enter Try.func64, Try.ntmps64
  go_wp2
  go_loop [0, 5] (fun x m => ∃ k M : Nat, k ≤ 8 ∧ x = .int .u16 (byteK b k h) ∧ m = .int .u8 M ∧ M = 128 / 2 ^ k) (fun _ m => (intOf m).toNat)
  case atStart => exact ⟨0, 128, by omega, rfl, rfl, rfl⟩
  case round =>
    obtain ⟨k, M, hk, rfl, rfl, hM⟩ := hrel
    have HM : Hid (M = 128 / 2 ^ k) := hM
    by_cases hlt : k < 8
    · have hMp : 0 < M := by
        rw [hM, show (128 : Nat) = 2 ^ 7 from rfl, Nat.pow_div (by omega) (by decide)]; exact Nat.pow_pos (by decide)
      have hMl : M < 256 := by rw [hM]; exact Nat.lt_of_le_of_lt (Nat.div_le_self _ _) (by decide)
      have hhalf : M / 2 = 128 / 2 ^ (k + 1) := by rw [hM, Nat.div_div_eq_div_mul, ← Nat.pow_succ]
      have HH : Hid (M / 2 = 128 / 2 ^ (k + 1)) := hhalf
      have hm := u8_mask b k hb hlt
      rw [← hM] at hm
      have hst : byteK b (k + 1) h = bitS (byteK b k h) (b / 2 ^ (7 - k) % 2) := rfl
      have hHl := byteK_lt b k h hh
      have ht := u16_top (byteK b k h) hHl
      have hpow : 0 < 2 ^ (7 - k) := Nat.pow_pos (by decide)
      clear hM hhalf
      generalize byteK b k h = H at *
      generalize 2 ^ (7 - k) = P at *
      rcases Nat.mod_two_eq_zero_or_one (b / P) with p | p <;> rcases (show H / 32768 = 0 ∨ H / 32768 = 1 from by omega) with q | q
      · have t1 : (bits BinOp.and IntKind.u8 (b : Int) (M : Int) != 0) = false := by rw [hm, p]; simp
        have t2 : (bits BinOp.and IntKind.u16 (H : Int) 32768 != 0) = false := by rw [ht, q]; rfl
        have HS : Hid (byteK b (k + 1) h = H * 2 % 65536) := by rw [p] at hst; unfold Hid; rw [hst]; simp [bitS, q]
        clear hm ht p q hst
        go_wp2
        go_round
        case rel => exact ⟨k + 1, M / 2, by omega, val_int (by rw [HS.out, u16_shl]), val_int (by omega), HH.out⟩
        case measure => simp [intOf]; omega
      · have t1 : (bits BinOp.and IntKind.u8 (b : Int) (M : Int) != 0) = false := by rw [hm, p]; simp
        have t2 : (bits BinOp.and IntKind.u16 (H : Int) 32768 != 0) = true := by rw [ht, q]; rfl
        have HS : Hid (byteK b (k + 1) h = (H * 2 % 65536) ^^^ 4129) := by rw [p] at hst; unfold Hid; rw [hst]; simp [bitS, q]
        clear hm ht p q hst
        go_wp2
        go_round
        case rel => exact ⟨k + 1, M / 2, by omega, val_int (by rw [HS.out, u16_xorS]), val_int (by omega), HH.out⟩
        case measure => simp [intOf]; omega
      · have t1 : (bits BinOp.and IntKind.u8 (b : Int) (M : Int) != 0) = true := by rw [hm, p, Nat.one_mul]; simp only [bne_iff_ne]; omega
        have t2 : (bits BinOp.and IntKind.u16 (H : Int) 32768 != 0) = false := by rw [ht, q]; rfl
        have HS : Hid (byteK b (k + 1) h = (H * 2 % 65536) ^^^ 4129) := by rw [p] at hst; unfold Hid; rw [hst]; simp [bitS, q]
        clear hm ht p q hst
        go_wp2
        go_round
        case rel => exact ⟨k + 1, M / 2, by omega, val_int (by rw [HS.out, u16_xorS]), val_int (by omega), HH.out⟩
        case measure => simp [intOf]; omega
      · have t1 : (bits BinOp.and IntKind.u8 (b : Int) (M : Int) != 0) = true := by rw [hm, p, Nat.one_mul]; simp only [bne_iff_ne]; omega
        have t2 : (bits BinOp.and IntKind.u16 (H : Int) 32768 != 0) = true := by rw [ht, q]; rfl
        have HS : Hid (byteK b (k + 1) h = H * 2 % 65536) := by rw [p] at hst; unfold Hid; rw [hst]; simp [bitS, q]
        clear hm ht p q hst
        go_wp2
        go_round
        case rel => exact ⟨k + 1, M / 2, by omega, val_int (by rw [HS.out, u16_shl]), val_int (by omega), HH.out⟩
        case measure => simp [intOf]; omega
    · have e8 : k = 8 := by omega
      subst e8
      have hM0 : M = 0 := hM
      subst hM0
      clear hM
      go_wp2
      go_ret
      exact ⟨rfl, rfl⟩
theorem checkSum (s : ByteArray) (w : World) (hs : s.size ≤ maxLen) :
    Calls Try.prog 46 #[.string s] w fun e w' => e = .returned (.int .u16 (sum s.data.toList)) ∧ w' = w := by
  unfold maxLen at hs
  go_enter Try.func46, Try.ntmps46
  go_wp2
  go_loop [3, 4] (fun n i => ∃ k : Nat, k ≤ s.size ∧ i = .int .i64 k ∧ n = .int .u16 (sum (s.data.toList.take k))) (fun _ i => s.size - (intOf i).toNat)
  case atStart => exact ⟨0, Nat.zero_le _, rfl, rfl⟩
  case round =>
    obtain ⟨k, hk, rfl, rfl⟩ := hrel
    have hd := sum_lt (s.data.toList.take k)
    by_cases hlt : k < s.size
    · have HS : Hid (sum (s.data.toList.take (k + 1)) = byteK s[k].toNat 8 (sum (s.data.toList.take k))) := sum_take s k hlt
      go_wp2_with fail
      refine (afterByte_nat _ _ _ hd (UInt8.toNat_lt _)).mono ?_
      rintro e w' ⟨rfl, rfl⟩
      go_wp2
      go_round
      case rel => exact ⟨k + 1, by omega, by go_num, by rw [HS.out]⟩
      case measure => simp [intOf]; omega
    · go_wp2
      go_ret
      exact ⟨ret_int (by rw [List.take_of_length_le (by simp; omega)]), rfl⟩

end Crc
end Go.Proofs.Ytkgnmcekeeannab
