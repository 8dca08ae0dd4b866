import Derived.Test.YtkgnmcekeeannaaWM
namespace Go.Proofs.Ytkgnmcekeeannaa
open Go.RowKit Go.Deep
namespace Cod
open Pol (G fm fi prodBut share lag sumTo pw gauss gstep factor coef)
open Fld (ret_int val_int i64_xor_nat)

theorem apart_of {n : Nat} {ns : Nat → Nat} (hl : ∀ i, i < n → ns i < 16) (hd : ∀ i j, i < n → j < n → i ≠ j → ns i ≠ ns j) : Pol.Apart n (gx ns) := fun i j hi hj hne e => by
  have h1 := congrArg UInt8.toNat e
  unfold gx at h1
  rw [toNat_g (by have := hl i hi; omega), toNat_g (by have := hl j hj; omega)] at h1
  exact hd i j hi hj hne h1

theorem isEmpty_no (s : ByteArray) (h : 0 < s.size) : s.toList.isEmpty = false := by
  rw [ByteArray.toList_eq, List.isEmpty_eq_false_iff]
  intro e
  have : s.data.toList.length = 0 := by rw [e]; rfl
  have h2 : s.data.toList.length = s.size := by simp
  omega
theorem isEmpty_yes (s : ByteArray) (h : s.size = 0) : s.toList.isEmpty = true := by
  rw [ByteArray.toList_eq, List.isEmpty_iff]
  have h2 : s.data.toList.length = s.size := by simp
  exact List.length_eq_zero_iff.1 (by omega)

set_option maxHeartbeats 1000000 in
theorem refEncode_ok (data : ByteArray) (z sp k : Nat) (w : World) (hd : data.size ≤ maxLen) (hz1 : 1 ≤ z) (hz : z ≤ 16) (hk0 : 0 < k) (hk : k ≤ 8) (hdk : data.size = k * z) (hsp : sp ≤ 8) :
    Calls Try.prog 20 #[.string data, .int .i64 z, .int .i64 sp] w fun e w' => e = .returned (.tuple #[.string ⟨(flat z (symF k id data z k) sp).toArray⟩, .int .i64 0]) ∧ Below w.heap.size w w' := by
  unfold maxLen at hd
  have hq : data.size / z = k := by rw [hdk]; exact Nat.mul_div_cancel _ hz1
  have hr : data.size % z = 0 := by rw [hdk]; exact Nat.mul_mod_left _ _
  have h0 : 0 < data.size := by rw [hdk]; exact Nat.mul_pos hk0 hz1
  have t1 := isEmpty_no data h0
  have e2 : ((data.size : Int) % (z : Int)) = 0 := by rw [← Int.natCast_emod, hr]; rfl
  have e3 : ((data.size : Int) / (z : Int)) = (k : Int) := by rw [← hq]; simp
  have HC := refNumbers_nat k
  have HD : Hid (data.size = k * z) := hdk
  clear hdk hq hr
  go_enter Try.func20, Try.ntmps20
  go_wp2_with fail
  refine (HC _ hk).mono ?_
  rintro e w' ⟨v, rfl, hown, hbel⟩
  rw [ints_vals] at hown
  obtain ⟨b, cap, rfl, hb1, hb2, _, _, hc⟩ := row_cells hown hk0
  have HS := refSymbols_nat k sp k b 0 cap z id data w' (by omega) (fun i hi => by show i < 16; omega) (apart_of (fun i hi => by show i < 16; omega) (fun i j _ _ h => h)) hb2 hk hk0 hz1 hz HD.out (fun i hi => by rw [Nat.zero_add]; exact hc i hi)
  clear hown hc HC
  go_wp2_with fail
  refine HS.mono ?_
  rintro e w2 ⟨rfl, hbel2⟩
  clear HS
  have hb := hbel.trans (hbel2.mono hbel.size)
  go_wp2
  go_ret2
  exact ⟨rfl, hb⟩
theorem refEncode_size (data : ByteArray) (z sp : Int) (w : World) (hz : z < 1 ∨ 16 < z) :
    Calls Try.prog 20 #[.string data, .int .i64 z, .int .i64 sp] w fun e w' => e = .returned (.tuple #[.string nil, .int .i64 2]) ∧ w' = w := by
  by_cases h1 : z < 1
  · clear hz
    go_enter Try.func20, Try.ntmps20
    go_wp2
    go_ret2
    exact ⟨rfl, rfl⟩
  · have h2 : 16 < z := hz.resolve_left h1
    clear hz
    have h3 : 1 ≤ z := by omega
    clear h1
    go_enter Try.func20, Try.ntmps20
    go_wp2
    go_ret2
    exact ⟨rfl, rfl⟩
theorem refEncode_block (data : ByteArray) (z : Nat) (sp : Int) (w : World) (hd : data.size ≤ maxLen) (hz1 : 1 ≤ z) (hz : z ≤ 16) (hb : data.size = 0 ∨ data.size % z ≠ 0 ∨ 8 < data.size / z) :
    Calls Try.prog 20 #[.string data, .int .i64 z, .int .i64 sp] w fun e w' => e = .returned (.tuple #[.string nil, .int .i64 3]) ∧ w' = w := by
  unfold maxLen at hd
  have e2 : ((data.size : Int) % (z : Int)) = ((data.size % z : Nat) : Int) := (Int.natCast_emod _ _).symm
  have e3 : ((data.size : Int) / (z : Int)) = ((data.size / z : Nat) : Int) := (Int.natCast_ediv _ _).symm
  have hql : data.size / z ≤ data.size := Nat.div_le_self _ _
  generalize data.size % z = r at *
  generalize data.size / z = q at *
  by_cases h1 : data.size = 0
  · have t1 := isEmpty_yes data h1
    clear hb h1 e2 e3
    go_enter Try.func20, Try.ntmps20
    go_wp2
    go_ret2
    exact ⟨rfl, rfl⟩
  · have t1 := isEmpty_no data (by omega)
    by_cases h2 : r = 0
    · have t2 : (((r : Nat) : Int) != 0) = false := by simp [h2]
      have h3 : 8 < q := by omega
      clear hb h1 h2
      go_enter Try.func20, Try.ntmps20
      go_wp2
      go_ret2
      exact ⟨rfl, rfl⟩
    · have t2 : (((r : Nat) : Int) != 0) = true := by simp [h2]
      clear hb h1 h2
      go_enter Try.func20, Try.ntmps20
      go_wp2
      go_ret2
      exact ⟨rfl, rfl⟩
theorem refEncode_spare (data : ByteArray) (z : Nat) (sp : Int) (w : World) (hd : data.size ≤ maxLen) (hz1 : 1 ≤ z) (hz : z ≤ 16) (h0 : data.size ≠ 0) (hr : data.size % z = 0) (hq : data.size / z ≤ 8) (hs : sp < 0 ∨ 8 < sp) :
    Calls Try.prog 20 #[.string data, .int .i64 z, .int .i64 sp] w fun e w' => e = .returned (.tuple #[.string nil, .int .i64 4]) ∧ w' = w := by
  unfold maxLen at hd
  have e2 : ((data.size : Int) % (z : Int)) = ((data.size % z : Nat) : Int) := (Int.natCast_emod _ _).symm
  have e3 : ((data.size : Int) / (z : Int)) = ((data.size / z : Nat) : Int) := (Int.natCast_ediv _ _).symm
  rw [hr] at e2
  generalize data.size / z = q at *
  have t1 := isEmpty_no data (by omega)
  by_cases h1 : sp < 0
  · clear hs hr
    go_enter Try.func20, Try.ntmps20
    go_wp2
    go_ret2
    exact ⟨rfl, rfl⟩
  · have h2 : 8 < sp := hs.resolve_left h1
    have h3 : 0 ≤ sp := by omega
    clear hs h1 hr
    go_enter Try.func20, Try.ntmps20
    go_wp2
    go_ret2
    exact ⟨rfl, rfl⟩
/-- every Encode -/
theorem refEncode_any (data : ByteArray) (size spare : Int) (w : World) (hd : data.size ≤ maxLen) :
    Calls Try.prog 20 #[.string data, .int .i64 size, .int .i64 spare] w fun e w' => e = .returned (encV data size spare) ∧ Below w.heap.size w w' := by
  unfold encV encOut
  by_cases h1 : size < 1 ∨ 16 < size
  · simp only [h1, if_true]
    exact (refEncode_size data size spare w h1).mono fun e w' ⟨h, g⟩ => ⟨h, below_same g⟩
  · simp only [h1, if_false]
    obtain ⟨z, rfl⟩ := Int.eq_ofNat_of_zero_le (show 0 ≤ size by omega)
    simp only [Int.toNat_natCast]
    have hz1 : 1 ≤ z := by omega
    have hz : z ≤ 16 := by omega
    by_cases h2 : data.size = 0 ∨ data.size % z ≠ 0 ∨ 8 < data.size / z
    · simp only [h2, if_true]
      exact (refEncode_block data z spare w hd hz1 hz h2).mono fun e w' ⟨h, g⟩ => ⟨h, below_same g⟩
    · simp only [h2, if_false]
      by_cases h3 : spare < 0 ∨ 8 < spare
      · simp only [h3, if_true]
        exact (refEncode_spare data z spare w hd hz1 hz (fun e => h2 (.inl e)) (by omega) (by omega) h3).mono fun e w' ⟨h, g⟩ => ⟨h, below_same g⟩
      · simp only [h3, if_false]
        obtain ⟨sp, rfl⟩ := Int.eq_ofNat_of_zero_le (show 0 ≤ spare by omega)
        simp only [Int.toNat_natCast]
        have hr : data.size % z = 0 := by omega
        have hdk : data.size = data.size / z * z := (Nat.div_mul_cancel (Nat.dvd_of_mod_eq_zero hr)).symm
        have hk0 : 0 < data.size / z := by
          rcases Nat.eq_zero_or_pos (data.size / z) with h | h
          · rw [h, Nat.zero_mul] at hdk; exact absurd (.inl hdk) h2
          · exact h
        exact refEncode_ok data z sp (data.size / z) w hd hz1 hz hk0 (by omega) hdk (by omega)


theorem encodes_said (a0 : ByteArray) (a1 a2 : Int) (w0 : a0.size ≤ maxLen) (w : World) :
    Calls Try.prog 5 #[.string a0, .int .i64 a1, .int .i64 a2] w fun e w' => e = .returned (.bool true) ∧ Below w.heap.size w w' := by
  have H1 := rEncode a0 a1 a2 w w0
  have H2 := fun w => refEncode_any a0 a1 a2 w w0
  unfold encV at *
  generalize encOut a0 a1 a2 = o at *
  obtain ⟨o1, o2⟩ := o
  go_enter Try.func5, Try.ntmps5
  go_wp2_with fail
  refine H1.mono ?_
  rintro e w1 ⟨rfl, hb1⟩
  go_wp2_with fail
  refine (H2 _).mono ?_
  rintro e w2 ⟨rfl, hb2⟩
  clear H1 H2
  have hb := hb1.trans (hb2.mono hb1.size)
  go_wp2
  go_ret
  exact ⟨by simp, hb⟩
end Cod
end Go.Proofs.Ytkgnmcekeeannaa
