import Derived.Test.YtkgnmcekeeannaaWR
namespace Go.Proofs.Ytkgnmcekeeannaa
open Go.RowKit
namespace Fld

theorem tup2 {k l : IntKind} {a b c d : Int} (h : a = b) (g : c = d) : Ending.returned (.tuple #[.int k a, .int l c]) = .returned (.tuple #[.int k b, .int l d]) := by rw [h, g]

theorem rMul (a b : Nat) (w : World) (ha : a < 256) (hb : b < 256) :
    Calls Try.prog 13 #[.int .u8 a, .int .u8 b] w fun e w' => e = .returned (.int .u8 (mul a b)) ∧ w' = w := by
  go_enter Try.func13, Try.ntmps13
  go_wp2_with fail
  refine (mul_nat a b _ ha hb).mono ?_
  rintro e w' ⟨rfl, rfl⟩
  go_wp2
  go_ret
  exact ⟨rfl, rfl⟩

theorem refMul (a b : Nat) (w : World) (ha : a < 256) (hb : b < 256) :
    Calls Try.prog 14 #[.int .u8 a, .int .u8 b] w fun e w' => e = .returned (.int .u8 (mul a b)) ∧ ∃ n, w' = w.drewN n := by
  have hl := mul_lt a b ha
  go_enter Try.func14, Try.ntmps14
  go_wp2_with fail
  refine (product_any _ _ _ (by omega) (by omega) (by omega) (by omega)).mono ?_
  rintro e w' ⟨rfl, n, rfl⟩
  simp only [Int.toNat_natCast]
  go_wp2
  go_ret
  exact ⟨ret_int (by omega), n, rfl⟩

theorem rInv0 (w : World) :
    Calls Try.prog 15 #[.int .u8 0] w fun e w' => e = .returned (.tuple #[.int .u8 0, .int .i64 1]) ∧ w' = w := by
  go_enter Try.func15, Try.ntmps15
  go_wp2
  go_ret2
  exact ⟨rfl, rfl⟩
theorem refInv0 (w : World) :
    Calls Try.prog 16 #[.int .u8 0] w fun e w' => e = .returned (.tuple #[.int .u8 0, .int .i64 1]) ∧ w' = w := by
  go_enter Try.func16, Try.ntmps16
  go_wp2
  go_ret2
  exact ⟨rfl, rfl⟩
theorem rInv (a : Nat) (w : World) (ha : a < 256) (h0 : 0 < a) :
    Calls Try.prog 15 #[.int .u8 a] w fun e w' => e = .returned (.tuple #[.int .u8 (inv a), .int .i64 0]) ∧ w' = w := by
  have hz : ((a : Int) == 0) = false := by simp; omega
  go_enter Try.func15, Try.ntmps15
  go_wp2_with fail
  refine (inverse_nat a _ ha).mono ?_
  rintro e w' ⟨rfl, rfl⟩
  go_wp2
  go_ret2
  exact ⟨rfl, rfl⟩
theorem refInv (a : Nat) (w : World) (ha : a < 256) (h0 : 0 < a) :
    Calls Try.prog 16 #[.int .u8 a] w fun e w' => e = .returned (.tuple #[.int .u8 (inv a), .int .i64 0]) ∧ ∃ n, w' = w.drewN n := by
  have hz : ((a : Int) == 0) = false := by simp; omega
  have hl := inv_lt a ha
  go_enter Try.func16, Try.ntmps16
  go_wp2_with fail
  refine (rinverse_nat a _ ha (by omega)).mono ?_
  rintro e w' ⟨rfl, n, rfl⟩
  go_wp2
  go_ret2
  exact ⟨tup2 (by omega) rfl, n, rfl⟩
end Fld
end Go.Proofs.Ytkgnmcekeeannaa
