import Derived.Test.YtkgnmcekeeannaaWH
namespace Go.Proofs.Ytkgnmcekeeannaa
open Go.RowKit
namespace Cod
open Pol (G fm fi prodBut share lag sumTo)
open Fld (ret_int val_int i64_xor_nat)

def nil : ByteArray := ⟨#[]⟩
/-- what Encode answers -/
def encOut (data : ByteArray) (size spare : Int) : ByteArray × Int :=
  if size < 1 ∨ 16 < size then (nil, 2)
  else if data.size = 0 ∨ data.size % size.toNat ≠ 0 ∨ 8 < data.size / size.toNat then (nil, 3)
  else if spare < 0 ∨ 8 < spare then (nil, 4)
  else (⟨(flat size.toNat (symF (data.size / size.toNat) id data size.toNat (data.size / size.toNat)) spare.toNat).toArray⟩, 0)

abbrev encV (data : ByteArray) (size spare : Int) : Value := .tuple #[.string (encOut data size spare).1, .int .i64 (encOut data size spare).2]

theorem ints_vals (k : Nat) : ints k = vals (fun i => .int .i64 (i : Nat)) k := rfl

set_option maxHeartbeats 1000000 in
theorem encode_ok (data : ByteArray) (z sp k : Nat) (w : World) (hd : data.size ≤ maxLen) (hz1 : 1 ≤ z) (hz : z ≤ 16) (hk0 : 0 < k) (hk : k ≤ 8) (hdk : data.size = k * z) (hsp : sp ≤ 8) :
    Calls Try.prog 43 #[.string data, .int .i64 z, .int .i64 sp] w fun e w' => e = .returned (.tuple #[.string ⟨(flat z (symF k id data z k) sp).toArray⟩, .int .i64 0]) ∧ Below w.heap.size w w' := by
  unfold maxLen at hd
  have hq : data.size / z = k := by rw [hdk]; exact Nat.mul_div_cancel _ hz1
  have hr : data.size % z = 0 := by rw [hdk]; exact Nat.mul_mod_left _ _
  have h0 : 0 < data.size := by rw [hdk]; exact Nat.mul_pos hk0 hz1
  have t1 : (((data.size : Nat) : Int) == 0) = false := beq_eq_false_iff_ne.2 (by omega)
  have e2 : ((data.size : Int) % (z : Int)) = 0 := by rw [← Int.natCast_emod, hr]; rfl
  have e3 : ((data.size : Int) / (z : Int)) = (k : Int) := by rw [← hq]; simp
  have HC := numbersBelow_nat k
  have HD : Hid (data.size = k * z) := hdk
  clear hdk hq hr
  go_enter Try.func43, Try.ntmps43
  go_wp2_with fail
  refine (HC _ hk).mono ?_
  rintro e w' ⟨v, rfl, hown, hbel⟩
  rw [ints_vals] at hown
  obtain ⟨b, cap, rfl, hb1, hb2, _, _, hc⟩ := row_cells hown hk0
  have HS := symbolsFrom_nat k sp k b 0 cap z id data w' (by omega) (fun i hi => by show i < 16; omega) hb2 hk hk0 hz1 hz HD.out (fun i hi => by rw [Nat.zero_add]; exact hc i hi)
  clear hown hc HC
  go_wp2_with fail
  refine HS.mono ?_
  rintro e w2 ⟨rfl, hbel2⟩
  clear HS
  have hb := hbel.trans (hbel2.mono hbel.size)
  go_wp2
  go_ret2
  exact ⟨rfl, hb⟩
theorem encode_size (data : ByteArray) (z sp : Int) (w : World) (hz : z < 1 ∨ 16 < z) :
    Calls Try.prog 43 #[.string data, .int .i64 z, .int .i64 sp] w fun e w' => e = .returned (.tuple #[.string nil, .int .i64 2]) ∧ w' = w := by
  by_cases h1 : z < 1
  · clear hz
    go_enter Try.func43, Try.ntmps43
    go_wp2
    go_ret2
    exact ⟨rfl, rfl⟩
  · have h2 : 16 < z := hz.resolve_left h1
    clear hz
    have h3 : 1 ≤ z := by omega
    clear h1
    go_enter Try.func43, Try.ntmps43
    go_wp2
    go_ret2
    exact ⟨rfl, rfl⟩
theorem encode_block (data : ByteArray) (z : Nat) (sp : Int) (w : World) (hd : data.size ≤ maxLen) (hz1 : 1 ≤ z) (hz : z ≤ 16) (hb : data.size = 0 ∨ data.size % z ≠ 0 ∨ 8 < data.size / z) :
    Calls Try.prog 43 #[.string data, .int .i64 z, .int .i64 sp] w fun e w' => e = .returned (.tuple #[.string nil, .int .i64 3]) ∧ w' = w := by
  unfold maxLen at hd
  have e2 : ((data.size : Int) % (z : Int)) = ((data.size % z : Nat) : Int) := (Int.natCast_emod _ _).symm
  have e3 : ((data.size : Int) / (z : Int)) = ((data.size / z : Nat) : Int) := (Int.natCast_ediv _ _).symm
  have hql : data.size / z ≤ data.size := Nat.div_le_self _ _
  generalize data.size % z = r at *
  generalize data.size / z = q at *
  by_cases h1 : data.size = 0
  · have t1 : (((data.size : Nat) : Int) == 0) = true := by simp [h1]
    clear hb h1 e2 e3
    go_enter Try.func43, Try.ntmps43
    go_wp2
    go_ret2
    exact ⟨rfl, rfl⟩
  · have t1 : (((data.size : Nat) : Int) == 0) = false := by simp [h1]
    by_cases h2 : r = 0
    · have t2 : (((r : Nat) : Int) != 0) = false := by simp [h2]
      have h3 : 8 < q := by omega
      clear hb h1 h2
      go_enter Try.func43, Try.ntmps43
      go_wp2
      go_ret2
      exact ⟨rfl, rfl⟩
    · have t2 : (((r : Nat) : Int) != 0) = true := by simp [h2]
      clear hb h1 h2
      go_enter Try.func43, Try.ntmps43
      go_wp2
      go_ret2
      exact ⟨rfl, rfl⟩
theorem encode_spare (data : ByteArray) (z : Nat) (sp : Int) (w : World) (hd : data.size ≤ maxLen) (hz1 : 1 ≤ z) (hz : z ≤ 16) (h0 : data.size ≠ 0) (hr : data.size % z = 0) (hq : data.size / z ≤ 8) (hs : sp < 0 ∨ 8 < sp) :
    Calls Try.prog 43 #[.string data, .int .i64 z, .int .i64 sp] w fun e w' => e = .returned (.tuple #[.string nil, .int .i64 4]) ∧ w' = w := by
  unfold maxLen at hd
  have e2 : ((data.size : Int) % (z : Int)) = ((data.size % z : Nat) : Int) := (Int.natCast_emod _ _).symm
  have e3 : ((data.size : Int) / (z : Int)) = ((data.size / z : Nat) : Int) := (Int.natCast_ediv _ _).symm
  rw [hr] at e2
  generalize data.size / z = q at *
  have t1 : (((data.size : Nat) : Int) == 0) = false := by simp [h0]
  by_cases h1 : sp < 0
  · clear hs hr
    go_enter Try.func43, Try.ntmps43
    go_wp2
    go_ret2
    exact ⟨rfl, rfl⟩
  · have h2 : 8 < sp := hs.resolve_left h1
    have h3 : 0 ≤ sp := by omega
    clear hs h1 hr
    go_enter Try.func43, Try.ntmps43
    go_wp2
    go_ret2
    exact ⟨rfl, rfl⟩
theorem below_same {w w' : World} (h : w' = w) : Below w.heap.size w w' := by subst h; exact Below.refl _ _

/-- every Encode -/
theorem encode_any (data : ByteArray) (size spare : Int) (w : World) (hd : data.size ≤ maxLen) :
    Calls Try.prog 43 #[.string data, .int .i64 size, .int .i64 spare] w fun e w' => e = .returned (encV data size spare) ∧ Below w.heap.size w w' := by
  unfold encV encOut
  by_cases h1 : size < 1 ∨ 16 < size
  · simp only [h1, if_true]
    exact (encode_size data size spare w h1).mono fun e w' ⟨h, g⟩ => ⟨h, below_same g⟩
  · simp only [h1, if_false]
    obtain ⟨z, rfl⟩ := Int.eq_ofNat_of_zero_le (show 0 ≤ size by omega)
    simp only [Int.toNat_natCast]
    have hz1 : 1 ≤ z := by omega
    have hz : z ≤ 16 := by omega
    by_cases h2 : data.size = 0 ∨ data.size % z ≠ 0 ∨ 8 < data.size / z
    · simp only [h2, if_true]
      exact (encode_block data z spare w hd hz1 hz h2).mono fun e w' ⟨h, g⟩ => ⟨h, below_same g⟩
    · simp only [h2, if_false]
      by_cases h3 : spare < 0 ∨ 8 < spare
      · simp only [h3, if_true]
        exact (encode_spare data z spare w hd hz1 hz (fun e => h2 (.inl e)) (by omega) (by omega) h3).mono fun e w' ⟨h, g⟩ => ⟨h, below_same g⟩
      · simp only [h3, if_false]
        obtain ⟨sp, rfl⟩ := Int.eq_ofNat_of_zero_le (show 0 ≤ spare by omega)
        simp only [Int.toNat_natCast]
        have hr : data.size % z = 0 := by omega
        have hdk : data.size = data.size / z * z := (Nat.div_mul_cancel (Nat.dvd_of_mod_eq_zero hr)).symm
        have hk0 : 0 < data.size / z := by
          rcases Nat.eq_zero_or_pos (data.size / z) with h | h
          · rw [h, Nat.zero_mul] at hdk; exact absurd (.inl hdk) h2
          · exact h
        exact encode_ok data z sp (data.size / z) w hd hz1 hz hk0 (by omega) hdk (by omega)

theorem rEncode (data : ByteArray) (size spare : Int) (w : World) (hd : data.size ≤ maxLen) :
    Calls Try.prog 19 #[.string data, .int .i64 size, .int .i64 spare] w fun e w' => e = .returned (encV data size spare) ∧ Below w.heap.size w w' := by
  have HC := encode_any data size spare w hd
  unfold encV at *
  generalize encOut data size spare = o at *
  go_enter Try.func19, Try.ntmps19
  go_wp2_with fail
  refine HC.mono ?_
  rintro e w' ⟨rfl, hb⟩
  clear HC
  go_wp2
  go_ret2
  exact ⟨rfl, hb⟩
end Cod
end Go.Proofs.Ytkgnmcekeeannaa
