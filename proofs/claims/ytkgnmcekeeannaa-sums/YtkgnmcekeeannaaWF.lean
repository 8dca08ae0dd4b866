import Derived.Test.YtkgnmcekeeannaaRows
import Derived.Test.YtkgnmcekeeannaaFld
import Derived.WalkKit
import Derived.Deep.QuietTactic
import Derived.BigQuiet
import Derived.WalkSmall
namespace Go.Proofs.Ytkgnmcekeeannaa
open Go.RowKit
namespace Fld

theorem ret_int {k : IntKind} {a b : Int} (h : a = b) : Ending.returned (.int k a) = .returned (.int k b) := by rw [h]
theorem val_int {k : IntKind} {a b : Int} (h : a = b) : Value.int k a = Value.int k b := by rw [h]

theorem u8_and128 (a : Nat) (ha : a < 256) : bits .and .u8 (a : Int) 128 = ((a &&& 128 : Nat) : Int) := u8_and_nat a 128 ha (by decide)
theorem u8_and1 (a : Nat) (ha : a < 256) : bits .and .u8 (a : Int) 1 = ((a % 2 : Nat) : Int) := by rw [show (1 : Int) = ((1 : Nat) : Int) from rfl, u8_and_nat a 1 ha (by decide), nat_mask1]
theorem u8_shl_xor (a : Nat) : bits .xor .u8 ((a : Int) * 2 % 256) 29 = (((a * 2 % 256) ^^^ 29 : Nat) : Int) := by
  have := u8_xor_nat (a * 2 % 256) 29 (Nat.mod_lt _ (by decide)) (by decide)
  rw [← this]; simp

theorem timesX_nat (a : Nat) (w : World) (ha : a < 256) :
    Calls Try.prog 62 #[.int .u8 a] w fun e w' => e = .returned (.int .u8 (tx a)) ∧ w' = w := by
  have h := u8_and128 a ha
  by_cases hz : a &&& 128 = 0
  · have ht : (bits BinOp.and IntKind.u8 (a : Int) 128 != 0) = false := by rw [h, hz]; rfl
    have hr : tx a = a * 2 % 256 := by simp [tx, hz]
    have HR : Hid (tx a = a * 2 % 256) := hr
    clear h hz hr
    go_enter Try.func62, Try.ntmps62
    go_wp2
    go_ret
    exact ⟨ret_int (by rw [HR.out]; simp), rfl⟩
  · have ht : (bits BinOp.and IntKind.u8 (a : Int) 128 != 0) = true := by rw [h]; simp; omega
    have HR : Hid (tx a = (a * 2 % 256) ^^^ 29) := by simp [tx, hz, Hid]
    clear h hz
    go_enter Try.func62, Try.ntmps62
    go_wp2
    go_ret
    exact ⟨ret_int (by rw [HR.out, u8_shl_xor]), rfl⟩

set_option maxHeartbeats 400000 in
theorem mul_nat (a b : Nat) (w : World) (ha : a < 256) (hb : b < 256) :
    Calls Try.prog 37 #[.int .u8 a, .int .u8 b] w fun e w' => e = .returned (.int .u8 (mul a b)) ∧ w' = w := by
  go_enter Try.func37, Try.ntmps37
  go_wp2
  go_loop [0, 1, 5, 6] (fun x y p i => ∃ k A B P : Nat, k ≤ 8 ∧ A < 256 ∧ B < 256 ∧ P < 256 ∧ x = .int .u8 A ∧ y = .int .u8 B ∧ p = .int .u8 P ∧ i = .int .i64 k ∧ mulL (8 - k) A B P = mul a b) (fun _ _ _ i => 8 - (intOf i).toNat)
  case atStart => exact ⟨0, a, b, 0, by omega, ha, hb, by omega, rfl, rfl, rfl, rfl, rfl⟩
  case round =>
    obtain ⟨k, A, B, P, hk, hA, hB, hP, rfl, rfl, rfl, rfl, hm⟩ := hrel
    have HM : Hid (mulL (8 - k) A B P = mul a b) := hm
    clear hm
    by_cases hlt : k < 8
    · have h1 := u8_and1 B hB
      have hx := u8_xor_nat P A hP hA
      have HX : Hid (bits .xor .u8 (P : Int) (A : Int) = ((P ^^^ A : Nat) : Int)) := hx
      have hs : mulL (8 - k) A B P = mulL (8 - (k + 1)) (tx A) (B / 2) (if B % 2 = 1 then P ^^^ A else P) := by
        rw [show 8 - k = (8 - (k + 1)) + 1 from by omega]; rfl
      have HS : Hid (mulL (8 - k) A B P = mulL (8 - (k + 1)) (tx A) (B / 2) (if B % 2 = 1 then P ^^^ A else P)) := hs
      have hxl : P ^^^ A < 256 := Nat.xor_lt_two_pow (n := 8) hP hA
      by_cases ho : B % 2 = 1
      · have ht : (bits BinOp.and IntKind.u8 (B : Int) 1 == 1) = true := by rw [h1, ho]; rfl
        have HO : Hid (B % 2 = 1) := ho
        clear h1 hx hs ho
        go_wp2_with (go_at_call 62; refine (timesX_nat _ _ (by omega)).mono ?_; rintro e w' ⟨rfl, rfl⟩)
        go_round
        case rel => exact ⟨k + 1, tx A, B / 2, P ^^^ A, by omega, tx_lt A, by omega, hxl, rfl, val_int (by omega), val_int HX.out, by go_num, by rw [← HM.out, HS.out, if_pos HO.out]⟩
        case measure => simp [intOf]; omega
      · have ht : (bits BinOp.and IntKind.u8 (B : Int) 1 == 1) = false := by rw [h1]; simp; omega
        have HO : Hid (¬ B % 2 = 1) := ho
        clear h1 hx hs ho
        go_wp2_with (go_at_call 62; refine (timesX_nat _ _ (by omega)).mono ?_; rintro e w' ⟨rfl, rfl⟩)
        go_round
        case rel => exact ⟨k + 1, tx A, B / 2, P, by omega, tx_lt A, by omega, hP, rfl, val_int (by omega), rfl, by go_num, by rw [← HM.out, HS.out, if_neg HO.out]⟩
        case measure => simp [intOf]; omega
    · have e8 : k = 8 := by omega
      subst e8
      go_wp2
      go_ret
      exact ⟨ret_int (by rw [← HM.out]; rfl), rfl⟩

/-- as the walks of callers want it: plain numbers, their bounds beside them -/
theorem mul_any (a b : Int) (w : World) (ha0 : 0 ≤ a) (ha : a < 256) (hb0 : 0 ≤ b) (hb : b < 256) :
    Calls Try.prog 37 #[.int .u8 a, .int .u8 b] w fun e w' => e = .returned (.int .u8 (mul a.toNat b.toNat)) ∧ w' = w := by
  obtain ⟨m, rfl⟩ := Int.eq_ofNat_of_zero_le ha0
  obtain ⟨n, rfl⟩ := Int.eq_ofNat_of_zero_le hb0
  exact mul_nat m n w (by omega) (by omega)

set_option maxHeartbeats 400000 in
theorem inverse_nat (a : Nat) (w : World) (ha : a < 256) :
    Calls Try.prog 39 #[.int .u8 a] w fun e w' => e = .returned (.int .u8 (inv a)) ∧ w' = w := by
  go_enter Try.func39, Try.ntmps39
  go_wp2
  go_loop [3, 4, 5] (fun v p i => ∃ k P V : Nat, k ≤ 7 ∧ P < 256 ∧ V < 256 ∧ p = .int .u8 P ∧ v = .int .u8 V ∧ i = .int .i64 k ∧ invL (7 - k) P V = inv a) (fun _ _ i => 7 - (intOf i).toNat)
  case atStart => exact ⟨0, a, 1, by omega, ha, by omega, rfl, rfl, rfl, rfl⟩
  case round =>
    obtain ⟨k, P, V, hk, hP, hV, rfl, rfl, rfl, hm⟩ := hrel
    have HM : Hid (invL (7 - k) P V = inv a) := hm
    clear hm
    by_cases hlt : k < 7
    · have hs : invL (7 - k) P V = invL (7 - (k + 1)) (mul P P) (mul V (mul P P)) := by
        rw [show 7 - k = (7 - (k + 1)) + 1 from by omega]; rfl
      have HS : Hid (invL (7 - k) P V = invL (7 - (k + 1)) (mul P P) (mul V (mul P P))) := hs
      have hpp := mul_lt P P hP
      have hvp := mul_lt V (mul P P) hV
      clear hs
      go_wp2_with fail
      refine (mul_nat P P _ hP hP).mono ?_
      rintro e w' ⟨rfl, rfl⟩
      go_wp2_with fail
      refine (mul_nat V (mul P P) _ hV hpp).mono ?_
      rintro e w' ⟨rfl, rfl⟩
      go_wp2
      go_round
      case rel => exact ⟨k + 1, mul P P, mul V (mul P P), by omega, hpp, hvp, rfl, rfl, by go_num, by rw [← HM.out, HS.out]⟩
      case measure => simp [intOf]; omega
    · have e7 : k = 7 := by omega
      subst e7
      go_wp2
      go_ret
      exact ⟨ret_int (by rw [← HM.out]; rfl), rfl⟩
end Fld
end Go.Proofs.Ytkgnmcekeeannaa
