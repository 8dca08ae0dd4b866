import Derived.Test.YtkgnmcekeeannaaWR
import Derived.Test.YtkgnmcekeeannaaCS
namespace Go.Proofs.Ytkgnmcekeeannaa
open Go.RowKit
namespace Crc
open Fld (ret_int val_int i64_and_nat i64_xor_nat i64_bit)

theorem rSum (s : ByteArray) (w : World) (hs : s.size ≤ maxLen) :
    Calls Try.prog 17 #[.string s] w fun e w' => e = .returned (.int .u16 (sum s.data.toList)) ∧ w' = w := by
  go_enter Try.func17, Try.ntmps17
  go_wp2_with fail
  refine (checkSum s _ hs).mono ?_
  rintro e w' ⟨rfl, rfl⟩
  go_wp2
  go_ret
  exact ⟨rfl, rfl⟩

theorem t_val (c m H : Nat) (hc : c < 256) (hH : H < 65536) :
    bits .xor .i64 (bits .and .i64 ((c : Int) / 2 ^ m) 1) (bits .and .i64 ((H : Int) / 32768) 1) = (((c / 2 ^ m % 2 + H / 32768) % 2 : Nat) : Int) := by
  have h1 := i64_bit c m (by omega)
  have h2 := i64_bit H 15 (by omega)
  rw [h1, show ((32768 : Int)) = 2 ^ 15 from rfl, h2, show (2 ^ 15 : Nat) = 32768 from rfl, show H / 32768 % 2 = H / 32768 from by omega]
  rcases Nat.mod_two_eq_zero_or_one (c / 2 ^ m) with p | p <;> rcases (show H / 32768 = 0 ∨ H / 32768 = 1 from by omega) with q | q <;> rw [p, q] <;> decide
theorem x_val (H : Nat) : Hid (bits .xor .i64 (bits .xor .i64 (bits .xor .i64 ((H : Int) * 2 % 65536) 1) 32) 4096 = (((H * 2 % 65536) ^^^ 4129 : Nat) : Int)) := by
  unfold Hid
  have hl : H * 2 % 65536 < 2 ^ 16 := Nat.mod_lt _ (by decide)
  have e : ((H : Int) * 2 % 65536) = ((H * 2 % 65536 : Nat) : Int) := by omega
  rw [e]
  generalize H * 2 % 65536 = x at *
  have x1 : x ^^^ 1 < 2 ^ 16 := Nat.xor_lt_two_pow hl (by decide)
  have x2 : x ^^^ 1 ^^^ 32 < 2 ^ 16 := Nat.xor_lt_two_pow x1 (by decide)
  have h1 := i64_xor_nat x 1 (by omega) (by decide)
  have h2 := i64_xor_nat (x ^^^ 1) 32 (by omega) (by decide)
  have h3 := i64_xor_nat (x ^^^ 1 ^^^ 32) 4096 (by omega) (by decide)
  have e1 : ((1 : Nat) : Int) = 1 := rfl
  have e2 : ((32 : Nat) : Int) = 32 := rfl
  have e3 : ((4096 : Nat) : Int) = 4096 := rfl
  rw [e1] at h1
  rw [e2] at h2
  rw [e3] at h3
  rw [h1, h2, h3, Nat.xor_assoc, Nat.xor_assoc, show (1 ^^^ (32 ^^^ 4096) : Nat) = 4129 from by decide]

set_option maxRecDepth 100000 in
set_option maxHeartbeats 1000000 in
theorem refCheck (s : ByteArray) (w : World) (hs : s.size ≤ maxLen) :
    Calls Try.prog 42 #[.string s] w fun e w' => e = .returned (.int .i64 (sum s.data.toList)) ∧ w' = w := by
  unfold maxLen at hs
  go_enter Try.func42, Try.ntmps42
  go_wp2
  go_loop [3, 4] (fun n i => ∃ k : Nat, k ≤ s.size ∧ i = .int .i64 k ∧ n = .int .i64 (sum (s.data.toList.take k))) (fun _ i => s.size - (intOf i).toNat)
  case atStart => exact ⟨0, Nat.zero_le _, rfl, rfl⟩
  case round =>
    obtain ⟨k, hk, rfl, rfl⟩ := hrel
    have hd := sum_lt (s.data.toList.take k)
    by_cases hlt : k < s.size
    · have HS : Hid (sum (s.data.toList.take (k + 1)) = byteK s[k].toNat 8 (sum (s.data.toList.take k))) := sum_take s k hlt
      generalize sum (s.data.toList.take k) = h at *
      go_wp2
      go_loop [3, 5] (fun n b => ∃ j : Nat, j ≤ 8 ∧ b = .int .i64 (7 - (j : Int)) ∧ n = .int .i64 (byteK s[k].toNat j h)) (fun _ b => (intOf b + 1).toNat)
      case atStart => exact ⟨0, Nat.zero_le _, rfl, rfl⟩
      case round =>
        obtain ⟨j, hj, rfl, rfl⟩ := hrel
        have hH := byteK_lt s[k].toNat j h hd
        have hc : s[k].toNat < 256 := UInt8.toNat_lt _
        by_cases hj8 : j < 8
        · have HT : Hid (byteK s[k].toNat (j + 1) h = bitS (byteK s[k].toNat j h) (s[k].toNat / 2 ^ (7 - j) % 2)) := rfl
          have hv := t_val s[k].toNat (7 - j) (byteK s[k].toNat j h) hc hH
          have HX := x_val (byteK s[k].toNat j h)
          by_cases ho : (s[k].toNat / 2 ^ (7 - j) % 2 + byteK s[k].toNat j h / 32768) % 2 = 1
          · have ht : (bits BinOp.xor IntKind.i64 (bits BinOp.and IntKind.i64 ((s[k].toNat : Int) / 2 ^ (7 - j)) 1) (bits BinOp.and IntKind.i64 ((byteK s[k].toNat j h : Nat) / 32768) 1) == 1) = true := by rw [hv, ho]; rfl
            have HO : Hid ((s[k].toNat / 2 ^ (7 - j) % 2 + byteK s[k].toNat j h / 32768) % 2 = 1) := ho
            clear hv ho
            go_wp2
            go_round
            case rel => exact ⟨j + 1, by omega, by go_num, val_int (by rw [HT.out, HX.out]; simp only [bitS]; rw [if_pos HO.out])⟩
            case measure => simp [intOf]; omega
          · have ht : (bits BinOp.xor IntKind.i64 (bits BinOp.and IntKind.i64 ((s[k].toNat : Int) / 2 ^ (7 - j)) 1) (bits BinOp.and IntKind.i64 ((byteK s[k].toNat j h : Nat) / 32768) 1) == 1) = false := by
              rw [hv, show (s[k].toNat / 2 ^ (7 - j) % 2 + byteK s[k].toNat j h / 32768) % 2 = 0 from by omega]; rfl
            have HO : Hid (¬ (s[k].toNat / 2 ^ (7 - j) % 2 + byteK s[k].toNat j h / 32768) % 2 = 1) := ho
            clear hv ho
            go_wp2
            go_round
            case rel => exact ⟨j + 1, by omega, by go_num, val_int (by rw [HT.out]; simp only [bitS]; rw [if_neg HO.out]; omega)⟩
            case measure => simp [intOf]; omega
        · have e8 : j = 8 := by omega
          subst e8
          go_wp2
          go_round
          case rel => exact ⟨k + 1, by omega, by go_num, by rw [HS.out]⟩
          case measure => simp [intOf]; omega
    · go_wp2
      go_ret
      exact ⟨ret_int (by rw [List.take_of_length_le (by simp; omega)]), rfl⟩
theorem refSum (s : ByteArray) (w : World) (hs : s.size ≤ maxLen) :
    Calls Try.prog 18 #[.string s] w fun e w' => e = .returned (.int .u16 (sum s.data.toList)) ∧ w' = w := by
  have hl := sum_lt s.data.toList
  go_enter Try.func18, Try.ntmps18
  go_wp2_with fail
  refine (refCheck s _ hs).mono ?_
  rintro e w' ⟨rfl, rfl⟩
  go_wp2
  go_ret
  exact ⟨ret_int (by first | rfl | (rw [IntKind.wrap_u16]; omega)), rfl⟩

theorem sums_said (a0 : ByteArray) (w0 : a0.size ≤ maxLen) (w : World) :
    Calls Try.prog 4 #[.string a0] w fun e w' => e = .returned (.bool true) ∧ Grown w w' := by
  go_enter Try.func4, Try.ntmps4
  go_wp2_with fail
  refine (rSum a0 _ w0).mono ?_
  rintro e w' ⟨rfl, rfl⟩
  go_wp2_with fail
  refine (refSum a0 _ w0).mono ?_
  rintro e w' ⟨rfl, rfl⟩
  generalize sum a0.data.toList = S at *
  go_wp2
  go_ret
  exact ⟨by simp, Grown.refl _⟩
end Crc
end Go.Proofs.Ytkgnmcekeeannaa
