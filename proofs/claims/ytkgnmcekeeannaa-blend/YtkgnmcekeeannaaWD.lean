import Derived.Test.YtkgnmcekeeannaaWC
namespace Go.Proofs.Ytkgnmcekeeannaa
open Go.RowKit
namespace Cod
open Pol (G fm fi prodBut share lag)
open Fld (ret_int val_int i64_xor_nat)

def g (n : Nat) : G := UInt8.ofNat n
def gx (ns : Nat → Nat) (i : Nat) : G := g (ns i)
theorem toNat_g {n : Nat} (h : n < 256) : (g n).toNat = n := UInt8.toNat_ofNat_of_lt' h
theorem g_xor {m n : Nat} (hm : m < 256) (hn : n < 256) : (g m ^^^ g n).toNat = m ^^^ n := by rw [UInt8.toNat_xor, toNat_g hm, toNat_g hn]

/-- the product, its arguments known by the field's numbers -/
theorem mul_g (x y : G) (a b : Int) (w : World) (ha : a = x.toNat) (hb : b = y.toNat) :
    Calls Try.prog 37 #[.int .u8 a, .int .u8 b] w fun e w' => e = .returned (.int .u8 (fm x y).toNat) ∧ w' = w := by
  subst ha hb
  rw [Pol.toNat_fm]
  exact Fld.mul_nat _ _ w (UInt8.toNat_lt x) (UInt8.toNat_lt y)
theorem inv_g (x : G) (w : World) :
    Calls Try.prog 39 #[.int .u8 x.toNat] w fun e w' => e = .returned (.int .u8 (fi x).toNat) ∧ w' = w := by
  rw [Pol.toNat_fi]
  exact Fld.inverse_nat _ w (UInt8.toNat_lt x)

theorem drawn_more {w wr : World} {q : Nat} (h : ∃ m, wr = w.drewN m) : ∃ m, wr.drewN q = w.drewN m := by
  obtain ⟨m, rfl⟩ := h
  exact ⟨m + q, World.drewN_drewN ..⟩

set_option maxHeartbeats 1000000 in
theorem shareAt_nat (t n own b off cap : Nat) (ns : Nat → Nat) (w : World) (ht : t < 16) (hns : ∀ i, i < n → ns i < 16) (hown : own < n) (hn : n ≤ 8)
    (hcell : ∀ i, i < n → w.cell? ⟨b, off + i, none⟩ = some (.int .i64 (ns i))) :
    Calls Try.prog 99 #[.int .i64 t, .slice (some ⟨b, off, none⟩) n cap, .int .i64 own] w fun e w' => e = .returned (.int .u8 (share n (gx ns) (g t) own).toNat) ∧ ∃ m, w' = w.drewN m := by
  have co := hcell own hown
  have lo := hns own hown
  go_enter Try.func99, Try.ntmps99
  go_wp2
  go_loopw [7, 8, 9] (fun x y i wr => ∃ k : Nat, k ≤ n ∧ i = .int .i64 k ∧ x = .int .u8 (prodBut own k (fun j => g t ^^^ gx ns j)).toNat ∧ y = .int .u8 (prodBut own k (fun j => gx ns own ^^^ gx ns j)).toNat ∧ ∃ m, wr = w.drewN m) (fun _ _ i _ => n - (intOf i).toNat)
  case atStart => exact ⟨0, Nat.zero_le _, rfl, rfl, rfl, 0, rfl⟩
  case round =>
    obtain ⟨k, hk, rfl, rfl, rfl, hwr⟩ := hrel
    have HW : Hid (∃ m, wr = w.drewN m) := hwr
    have hcr : ∀ i, i < n → wr.cell? ⟨b, off + i, none⟩ = some (.int .i64 (ns i)) := by
      obtain ⟨m, rfl⟩ := hwr; exact hcell
    clear hwr hcell co
    by_cases hlt : k < n
    · have ck := hcr k hlt
      have co := hcr own hown
      have lk := hns k hlt
      by_cases hko : k = own
      · have tst : ((k : Int) != (own : Int)) = false := by simp; omega
        have HA : Hid (prodBut own (k + 1) (fun j => g t ^^^ gx ns j) = prodBut own k (fun j => g t ^^^ gx ns j)) := by simp [prodBut, hko, Hid]
        have HB : Hid (prodBut own (k + 1) (fun j => gx ns own ^^^ gx ns j) = prodBut own k (fun j => gx ns own ^^^ gx ns j)) := by simp [prodBut, hko, Hid]
        clear hko hcr hns co lo ck lk
        go_wp2
        go_roundw
        case rel => exact ⟨k + 1, by omega, by go_num, by rw [HA.out], by rw [HB.out], HW.out⟩
        case measure => simp [intOf]; omega
      · have tst : ((k : Int) != (own : Int)) = true := by simp; omega
        have HA : Hid (prodBut own (k + 1) (fun j => g t ^^^ gx ns j) = fm (prodBut own k (fun j => g t ^^^ gx ns j)) (g t ^^^ gx ns k)) := by simp [prodBut, hko, Hid]
        have HB : Hid (prodBut own (k + 1) (fun j => gx ns own ^^^ gx ns j) = fm (prodBut own k (fun j => gx ns own ^^^ gx ns j)) (gx ns own ^^^ gx ns k)) := by simp [prodBut, hko, Hid]
        have x1 := i64_xor_nat t (ns k) (by omega) (by omega)
        have x2 := i64_xor_nat (ns own) (ns k) (by omega) (by omega)
        have l1 : t ^^^ ns k < 16 := Nat.xor_lt_two_pow (n := 4) ht lk
        have l2 : ns own ^^^ ns k < 16 := Nat.xor_lt_two_pow (n := 4) lo lk
        have G1 : Hid ((g t ^^^ gx ns k).toNat = t ^^^ ns k) := g_xor (by omega) (by omega)
        have G2 : Hid ((gx ns own ^^^ gx ns k).toNat = ns own ^^^ ns k) := g_xor (by omega) (by omega)
        clear hko hcr hns
        generalize prodBut own k (fun j => g t ^^^ gx ns j) = A at *
        generalize prodBut own k (fun j => gx ns own ^^^ gx ns j) = B at *
        go_wp2_with fail
        refine (mul_g A (g t ^^^ gx ns k) _ _ _ rfl (by rw [G1.out])).mono ?_
        rintro e w' ⟨rfl, rfl⟩
        go_wp2_with fail
        go_quiet ((go_at_call 37; exact Calls.quiet_of_same (mul_g B (gx ns own ^^^ gx ns k) _ _ _ rfl (by rw [G2.out]; exact IntWalk.u8_in _ ⟨by omega, by omega⟩))))
        go_wp2
        go_roundw
        case rel => exact ⟨k + 1, by omega, by go_num, by rw [HA.out], by rw [HB.out], drawn_more HW.out⟩
        case measure => simp [intOf]; omega
    · have e : k = n := by omega
      subst e
      clear hcr hns
      go_wp2_with fail
      refine (inv_g _ _).mono ?_
      rintro e w' ⟨rfl, rfl⟩
      go_wp2_with fail
      refine (mul_g (prodBut own k (fun j => g t ^^^ gx ns j)) (fi (prodBut own k (fun j => gx ns own ^^^ gx ns j))) _ _ _ rfl rfl).mono ?_
      rintro e w' ⟨rfl, rfl⟩
      go_wp2
      go_ret
      exact ⟨rfl, HW.out⟩
end Cod
end Go.Proofs.Ytkgnmcekeeannaa
