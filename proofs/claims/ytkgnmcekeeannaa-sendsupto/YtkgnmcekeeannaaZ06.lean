import Derived.Test.YtkgnmcekeeannaaZ05
namespace Go.Proofs.Ytkgnmcekeeannaa
open Go.RowKit
namespace Fld

theorem i64_and_nat (a b : Nat) (ha : a < 9223372036854775808) (hb : b < 9223372036854775808) : bits .and .i64 (a : Int) (b : Int) = ((a &&& b : Nat) : Int) := by
  have hx : a &&& b < 2 ^ 63 := Nat.and_lt_two_pow _ (by omega)
  show IntKind.i64.wrap ((BitVec.ofInt 64 (a : Int) &&& BitVec.ofInt 64 (b : Int)).toNat : Int) = _
  rw [BitVec.toNat_and, ofInt_u64 a (by omega), ofInt_u64 b (by omega), IntKind.wrap_i64]
  omega
theorem i64_xor_nat (a b : Nat) (ha : a < 9223372036854775808) (hb : b < 9223372036854775808) : bits .xor .i64 (a : Int) (b : Int) = ((a ^^^ b : Nat) : Int) := by
  have hx : a ^^^ b < 2 ^ 63 := Nat.xor_lt_two_pow (by omega) (by omega)
  show IntKind.i64.wrap ((BitVec.ofInt 64 (a : Int) ^^^ BitVec.ofInt 64 (b : Int)).toNat : Int) = _
  rw [BitVec.toNat_xor, ofInt_u64 a (by omega), ofInt_u64 b (by omega), IntKind.wrap_i64]
  omega

theorem i64_bit (a k : Nat) (ha : a < 9223372036854775808) : bits .and .i64 ((a : Int) / 2 ^ k) 1 = ((a / 2 ^ k % 2 : Nat) : Int) := by
  have h1 : a / 2 ^ k < 9223372036854775808 := Nat.lt_of_le_of_lt (Nat.div_le_self _ _) ha
  have h2 := i64_and_nat (a / 2 ^ k) 1 h1 (by decide)
  rw [nat_mask1] at h2
  rw [← h2]; simp
theorem i64_shl (b k : Nat) (hb : b < 256) (hk : k < 8) : wrap64 ((b : Int) * 2 ^ k) = ((b * 2 ^ k : Nat) : Int) := by
  have h1 : b * 2 ^ k ≤ 255 * 2 ^ k := Nat.mul_le_mul_right _ (by omega)
  have h2 : 2 ^ k ≤ 2 ^ 7 := Nat.pow_le_pow_right (by decide) (by omega)
  have h3 : ((b : Int) * 2 ^ k) = ((b * 2 ^ k : Nat) : Int) := by simp
  rw [h3, IntWalk.wrap64_in _ ⟨by omega, by omega⟩]
theorem i64_pow (k : Nat) (hk : k < 16) : wrap64 ((2 : Int) ^ k) = ((2 ^ k : Nat) : Int) := by
  have h2 : 2 ^ k ≤ 2 ^ 15 := Nat.pow_le_pow_right (by decide) (by omega)
  have h3 : ((2 : Int) ^ k) = ((2 ^ k : Nat) : Int) := by simp
  rw [h3]
  generalize 2 ^ k = q at *
  rw [IntWalk.wrap64_in _ ⟨by omega, by omega⟩]

theorem red_step (m R : Nat) (h8 : 8 ≤ m) (hm : m ≤ 15) (hR : R < 65536) :
    bits .xor .i64 (bits .xor .i64 (bits .xor .i64 (bits .xor .i64 (bits .xor .i64 (R : Int) (wrap64 (2 ^ m))) (wrap64 (2 ^ (m - 4)))) (wrap64 (2 ^ (m - 5)))) (wrap64 (2 ^ (m - 6)))) (wrap64 (2 ^ (m - 8))) = ((R ^^^ redC m : Nat) : Int) := by
  have p : ∀ k, k ≤ 15 → 2 ^ k < 2 ^ 16 := fun k hk => Nat.pow_lt_pow_right (by decide) (by omega)
  have x : ∀ u v : Nat, u < 2 ^ 16 → v < 2 ^ 16 → u ^^^ v < 2 ^ 16 := fun u v hu hv => Nat.xor_lt_two_pow hu hv
  have q : ∀ u v : Nat, u < 2 ^ 16 → v < 2 ^ 16 → bits .xor .i64 (u : Int) (v : Int) = ((u ^^^ v : Nat) : Int) := fun u v hu hv => i64_xor_nat u v (by omega) (by omega)
  rw [i64_pow m (by omega), i64_pow (m - 4) (by omega), i64_pow (m - 5) (by omega), i64_pow (m - 6) (by omega), i64_pow (m - 8) (by omega)]
  have p0 := p m hm
  have p1 := p (m - 4) (by omega)
  have p2 := p (m - 5) (by omega)
  have p3 := p (m - 6) (by omega)
  have p4 := p (m - 8) (by omega)
  unfold redC
  generalize 2 ^ m = a at *
  generalize 2 ^ (m - 4) = b at *
  generalize 2 ^ (m - 5) = c at *
  generalize 2 ^ (m - 6) = d at *
  generalize 2 ^ (m - 8) = e at *
  rw [q _ _ (by omega) p0, q _ _ (x _ _ (by omega) p0) p1, q _ _ (x _ _ (x _ _ (by omega) p0) p1) p2, q _ _ (x _ _ (x _ _ (x _ _ (by omega) p0) p1) p2) p3, q _ _ (x _ _ (x _ _ (x _ _ (x _ _ (by omega) p0) p1) p2) p3) p4]
  simp only [Nat.xor_assoc]

set_option maxHeartbeats 400000 in
theorem product_nat (a b : Nat) (w : World) (ha : a < 256) (hb : b < 256) :
    Calls Try.prog 38 #[.int .i64 a, .int .i64 b] w fun e w' => e = .returned (.int .i64 (mul a b)) ∧ ∃ n, w' = w.drewN n := by
  go_enter Try.func38, Try.ntmps38
  go_wp2
  go_loop [5, 6] (fun n i => ∃ k : Nat, k ≤ 8 ∧ i = .int .i64 k ∧ n = .int .i64 (outL k a b)) (fun _ i => 8 - (intOf i).toNat)
  case atStart => exact ⟨0, by omega, rfl, rfl⟩
  case round =>
    obtain ⟨k, hk, rfl, rfl⟩ := hrel
    by_cases hlt : k < 8
    · have h1 := i64_bit a k (by omega)
      have hs := i64_shl b k hb hlt
      have hl := outL_lt k a b hk hb
      have hx := i64_xor_nat (outL k a b) (b * 2 ^ k) (by omega) (by have h1 : b * 2 ^ k ≤ 255 * 2 ^ k := Nat.mul_le_mul_right _ (by omega)
                                                                     have h2 : 2 ^ k ≤ 2 ^ 7 := Nat.pow_le_pow_right (by decide) (by omega)
                                                                     omega)
      have HX : Hid (bits .xor .i64 (outL k a b : Int) (wrap64 ((b : Int) * 2 ^ k)) = ((outL k a b ^^^ b * 2 ^ k : Nat) : Int)) := by rw [hs]; exact hx
      clear hs hx
      by_cases ho : a / 2 ^ k % 2 = 1
      · have ht : (bits BinOp.and IntKind.i64 ((a : Int) / 2 ^ k) 1 == 1) = true := by rw [h1, ho]; rfl
        have HO : Hid (outL (k + 1) a b = outL k a b ^^^ (b * 2 ^ k)) := by simp [outL, ho, Hid]
        clear h1 ho hl
        go_wp2
        go_round
        case rel => exact ⟨k + 1, by omega, by go_num, val_int (by rw [HX.out, HO.out])⟩
        case measure => simp [intOf]; omega
      · have ht : (bits BinOp.and IntKind.i64 ((a : Int) / 2 ^ k) 1 == 1) = false := by rw [h1, show a / 2 ^ k % 2 = 0 from by omega]; rfl
        have HO : Hid (outL (k + 1) a b = outL k a b) := by simp [outL, ho, Hid]
        clear h1 ho hl
        go_wp2
        go_round
        case rel => exact ⟨k + 1, by omega, by go_num, val_int (by rw [HO.out])⟩
        case measure => simp [intOf]; omega
    · have e8 : k = 8 := by omega
      subst e8
      go_wp2
      have hN := outL_lt 8 a b (by omega) hb
      have HP : Hid (redL 8 (outL 8 a b) = mul a b) := prod_eq a b ha hb
      generalize outL 8 a b = N at *
      go_loopw [5, 7] (fun n i w' => ∃ m k : Nat, 7 ≤ m ∧ m + k = 15 ∧ i = .int .i64 m ∧ n = .int .i64 (redL k N) ∧ ∃ n, w' = w.drewN n) (fun _ i _ => (intOf i - 7).toNat)
      case atStart => exact ⟨15, 0, by omega, by omega, rfl, rfl, 0, rfl⟩
      case round =>
        obtain ⟨m, k, hk, hmk, rfl, rfl, n, rfl⟩ := hrel
        have HMK : Hid (m + k = 15) := hmk
        by_cases hlt : 8 ≤ m
        · have hm15 : m ≤ 15 := by omega
          have hr := redL_lt k N (by omega) hN
          have h1 := i64_bit (redL k N) m (by omega)
          clear hmk
          by_cases ho : redL k N / 2 ^ m % 2 = 1
          · have ht : (bits BinOp.and IntKind.i64 ((redL k N : Int) / 2 ^ m) 1 == 1) = true := by rw [h1, ho]; rfl
            have HO : Hid (redL k N / 2 ^ m % 2 = 1) := ho
            clear h1 ho
            go_wp2
            go_quiet (fail)
            go_wp2
            go_roundw
            case rel =>
              exact ⟨m - 1, k + 1, by omega, by have := HMK.out; omega, by go_num, val_int (by have := HMK.out; rw [red_step m _ hlt hm15 hr]; simp [redL, redS, show 15 - k = m from by omega, HO.out]), _, rfl⟩
            case measure => simp [intOf]; omega
          · have ht : (bits BinOp.and IntKind.i64 ((redL k N : Int) / 2 ^ m) 1 == 1) = false := by rw [h1, show redL k N / 2 ^ m % 2 = 0 from by omega]; rfl
            have HO : Hid (¬ redL k N / 2 ^ m % 2 = 1) := ho
            clear h1 ho
            go_wp2
            go_roundw
            case rel => exact ⟨m - 1, k + 1, by omega, by have := HMK.out; omega, by go_num, val_int (by have := HMK.out; simp [redL, redS, show 15 - k = m from by omega, HO.out]), n, rfl⟩
            case measure => simp [intOf]; omega
        · have e8 : m = 7 := by omega
          have e9 : k = 8 := by omega
          subst e8 e9
          clear hmk
          go_wp2
          go_ret
          exact ⟨ret_int (by rw [HP.out]), n, rfl⟩
theorem product_any (a b : Int) (w : World) (ha0 : 0 ≤ a) (ha : a < 256) (hb0 : 0 ≤ b) (hb : b < 256) :
    Calls Try.prog 38 #[.int .i64 a, .int .i64 b] w fun e w' => e = .returned (.int .i64 (mul a.toNat b.toNat)) ∧ ∃ n, w' = w.drewN n := by
  obtain ⟨m, rfl⟩ := Int.eq_ofNat_of_zero_le ha0
  obtain ⟨n, rfl⟩ := Int.eq_ofNat_of_zero_le hb0
  exact product_nat m n w (by omega) (by omega)

set_option maxRecDepth 100000 in
set_option maxHeartbeats 400000 in
theorem rinverse_nat (a : Nat) (w : World) (ha : a < 256) (h0 : a ≠ 0) :
    Calls Try.prog 40 #[.int .i64 a] w fun e w' => e = .returned (.int .i64 (inv a)) ∧ ∃ n, w' = w.drewN n := by
  have hinv : mul a (inv a) = 1 := mul_inv a ha h0
  have hil := inv_lt a ha
  have hi1 : 1 ≤ inv a := by
    rcases Nat.eq_zero_or_pos (inv a) with h | h
    · rw [h, mul_zero] at hinv; cases hinv
    · exact h
  have HI : Hid (mul a (inv a) = 1) := hinv
  clear hinv
  go_enter Try.func40, Try.ntmps40
  go_wp2
  go_loopw [3] (fun b w' => ∃ k : Nat, 1 ≤ k ∧ k ≤ 255 ∧ b = .int .i64 k ∧ k ≤ inv a ∧ ∃ n, w' = w.drewN n) (fun b _ => (256 - intOf b).toNat)
  case atStart => exact ⟨1, by omega, by omega, rfl, hi1, 0, rfl⟩
  case round =>
    obtain ⟨k, hk1, hk, rfl, hki, n, rfl⟩ := hrel
    by_cases hp : mul a k = 1
    · have hp' : (((mul a k : Nat) : Int) == 1) = true := by rw [hp]; rfl
      have HE : Hid (k = inv a) := inv_unique a k ha (by omega) hp
      clear hp
      go_wp2_with fail
      refine (product_nat a k _ ha (by omega)).mono ?_
      rintro e w' ⟨rfl, n', rfl⟩
      go_wp2
      go_ret
      exact ⟨ret_int (by rw [← HE.out]), _, rfl⟩
    · have hp' : (((mul a k : Nat) : Int) == 1) = false := by simp; omega
      have hlt : k < inv a := by
        rcases Nat.lt_or_eq_of_le hki with h | h
        · exact h
        · exact absurd (h ▸ HI.out) hp
      clear hp
      go_wp2_with fail
      refine (product_nat a k _ ha (by omega)).mono ?_
      rintro e w' ⟨rfl, n', rfl⟩
      go_wp2
      go_roundw
      case rel => exact ⟨k + 1, by omega, by omega, by go_num, by omega, _, rfl⟩
      case measure => simp [intOf]; omega
end Fld
end Go.Proofs.Ytkgnmcekeeannaa
namespace Go.Proofs.Ytkgnmcekeeannaa
open Go.RowKit
namespace Fld

theorem tup2 {k l : IntKind} {a b c d : Int} (h : a = b) (g : c = d) : Ending.returned (.tuple #[.int k a, .int l c]) = .returned (.tuple #[.int k b, .int l d]) := by rw [h, g]

theorem rMul (a b : Nat) (w : World) (ha : a < 256) (hb : b < 256) :
    Calls Try.prog 13 #[.int .u8 a, .int .u8 b] w fun e w' => e = .returned (.int .u8 (mul a b)) ∧ w' = w := by
  go_enter Try.func13, Try.ntmps13
  go_wp2_with fail
  refine (mul_nat a b _ ha hb).mono ?_
  rintro e w' ⟨rfl, rfl⟩
  go_wp2
  go_ret
  exact ⟨rfl, rfl⟩

theorem refMul (a b : Nat) (w : World) (ha : a < 256) (hb : b < 256) :
    Calls Try.prog 14 #[.int .u8 a, .int .u8 b] w fun e w' => e = .returned (.int .u8 (mul a b)) ∧ ∃ n, w' = w.drewN n := by
  have hl := mul_lt a b ha
  go_enter Try.func14, Try.ntmps14
  go_wp2_with fail
  refine (product_any _ _ _ (by omega) (by omega) (by omega) (by omega)).mono ?_
  rintro e w' ⟨rfl, n, rfl⟩
  simp only [Int.toNat_natCast]
  go_wp2
  go_ret
  exact ⟨ret_int (by omega), n, rfl⟩

theorem rInv0 (w : World) :
    Calls Try.prog 15 #[.int .u8 0] w fun e w' => e = .returned (.tuple #[.int .u8 0, .int .i64 1]) ∧ w' = w := by
  go_enter Try.func15, Try.ntmps15
  go_wp2
  go_ret2
  exact ⟨rfl, rfl⟩
theorem refInv0 (w : World) :
    Calls Try.prog 16 #[.int .u8 0] w fun e w' => e = .returned (.tuple #[.int .u8 0, .int .i64 1]) ∧ w' = w := by
  go_enter Try.func16, Try.ntmps16
  go_wp2
  go_ret2
  exact ⟨rfl, rfl⟩
theorem rInv (a : Nat) (w : World) (ha : a < 256) (h0 : 0 < a) :
    Calls Try.prog 15 #[.int .u8 a] w fun e w' => e = .returned (.tuple #[.int .u8 (inv a), .int .i64 0]) ∧ w' = w := by
  have hz : ((a : Int) == 0) = false := by simp; omega
  go_enter Try.func15, Try.ntmps15
  go_wp2_with fail
  refine (inverse_nat a _ ha).mono ?_
  rintro e w' ⟨rfl, rfl⟩
  go_wp2
  go_ret2
  exact ⟨rfl, rfl⟩
theorem refInv (a : Nat) (w : World) (ha : a < 256) (h0 : 0 < a) :
    Calls Try.prog 16 #[.int .u8 a] w fun e w' => e = .returned (.tuple #[.int .u8 (inv a), .int .i64 0]) ∧ ∃ n, w' = w.drewN n := by
  have hz : ((a : Int) == 0) = false := by simp; omega
  have hl := inv_lt a ha
  go_enter Try.func16, Try.ntmps16
  go_wp2_with fail
  refine (rinverse_nat a _ ha (by omega)).mono ?_
  rintro e w' ⟨rfl, n, rfl⟩
  go_wp2
  go_ret2
  exact ⟨tup2 (by omega) rfl, n, rfl⟩
end Fld
end Go.Proofs.Ytkgnmcekeeannaa
