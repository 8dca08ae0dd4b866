import Derived.Test.YtkgnmcekeeannaaWJ
namespace Go.Proofs.Ytkgnmcekeeannaa
open Go.RowKit
namespace Cod
open Pol (G fm fi prodBut share lag sumTo)
open Fld (ret_int val_int i64_xor_nat)

def goodB (n : Nat) (zs : Nat → Int) : Bool := (List.range n).all fun i => decide (0 ≤ zs i) && decide (zs i < 16) && (List.range i).all fun j => zs j != zs i
theorem goodB_iff (n : Nat) (zs : Nat → Int) : goodB n zs = true ↔ Good n zs := by
  unfold goodB Good
  simp only [List.all_eq_true, List.mem_range, Bool.and_eq_true, decide_eq_true_eq, bne_iff_ne]

def natOf (zs : Nat → Int) (i : Nat) : Nat := (zs i).toNat
/-- what Decode answers -/
def decOut (n : Nat) (zs : Nat → Int) (s : ByteArray) (size : Int) : ByteArray × Int :=
  if size < 1 ∨ 16 < size then (nil, 2)
  else if n = 0 ∨ 8 < n ∨ s.size ≠ n * size.toNat then (nil, 3)
  else if goodB n zs = false then (nil, 5)
  else (⟨(flat size.toNat (symF n (natOf zs) s size.toNat 0) n).toArray⟩, 0)
abbrev decV (n : Nat) (zs : Nat → Int) (s : ByteArray) (size : Int) : Value := .tuple #[.string (decOut n zs s size).1, .int .i64 (decOut n zs s size).2]

theorem decode_size (ao : Option Addr) (n cap : Nat) (s : ByteArray) (z : Int) (w : World) (hz : z < 1 ∨ 16 < z) :
    Calls Try.prog 46 #[.slice ao n cap, .string s, .int .i64 z] w fun e w' => e = .returned (.tuple #[.string nil, .int .i64 2]) ∧ w' = w := by
  by_cases h1 : z < 1
  · clear hz
    go_enter Try.func46, Try.ntmps46
    go_wp2
    go_ret2
    exact ⟨rfl, rfl⟩
  · have h2 : 16 < z := hz.resolve_left h1
    clear hz
    have h3 : 1 ≤ z := by omega
    clear h1
    go_enter Try.func46, Try.ntmps46
    go_wp2
    go_ret2
    exact ⟨rfl, rfl⟩
theorem decode_block (ao : Option Addr) (n cap z : Nat) (s : ByteArray) (w : World) (hn : n ≤ maxLen) (hz1 : 1 ≤ z) (hz : z ≤ 16) (hb : n = 0 ∨ 8 < n ∨ s.size ≠ n * z) :
    Calls Try.prog 46 #[.slice ao n cap, .string s, .int .i64 z] w fun e w' => e = .returned (.tuple #[.string nil, .int .i64 3]) ∧ w' = w := by
  unfold maxLen at hn
  by_cases h1 : n = 0
  · have t1 : ((n : Int) == 0) = true := by simp [h1]
    clear hb h1
    go_enter Try.func46, Try.ntmps46
    go_wp2
    go_ret2
    exact ⟨rfl, rfl⟩
  · have t1 : ((n : Int) == 0) = false := by simp [h1]
    by_cases h2 : 8 < n
    · clear hb h1
      go_enter Try.func46, Try.ntmps46
      go_wp2
      go_ret2
      exact ⟨rfl, rfl⟩
    · have h3 : s.size ≠ n * z := by omega
      have hp : ((n : Int) * (z : Int)) = ((n * z : Nat) : Int) := by simp
      have hl : n * z ≤ 8 * 16 := Nat.mul_le_mul (by omega) hz
      have h4 : n ≤ 8 := by omega
      clear hb h1 h2
      generalize n * z = P at *
      have t2 : ((s.size : Int) != (P : Int)) = true := by simp; omega
      clear h3
      go_enter Try.func46, Try.ntmps46
      go_wp2
      go_ret2
      exact ⟨rfl, rfl⟩

set_option maxHeartbeats 1000000 in
theorem decode_good (b off n cap z : Nat) (zs : Nat → Int) (s : ByteArray) (w : World) (hn0 : 0 < n) (hn : n ≤ 8) (hz1 : 1 ≤ z) (hz : z ≤ 16) (hs : s.size = n * z) (hb : b < w.heap.size)
    (hcell : ∀ i, i < n → w.cell? ⟨b, off + i, none⟩ = some (.int .i64 (zs i))) (hg : Good n zs) :
    Calls Try.prog 46 #[.slice (some ⟨b, off, none⟩) n cap, .string s, .int .i64 z] w fun e w' => e = .returned (.tuple #[.string ⟨(flat z (symF n (natOf zs) s z 0) n).toArray⟩, .int .i64 0]) ∧ Below w.heap.size w w' := by
  have HA := areNumbers_any n b off cap zs w hn hcell
  have t1 : ((n : Int) == 0) = false := by simp; omega
  have hp : ((n : Int) * (z : Int)) = ((n * z : Nat) : Int) := by simp
  have hl : n * z ≤ 8 * 16 := Nat.mul_le_mul (by omega) hz
  have t2 : ((s.size : Int) != ((n * z : Nat) : Int)) = false := by rw [hs]; simp
  have HS : Hid (s.size = n * z) := hs
  have HG : Hid (Good n zs) := hg
  have HC : Hid (∀ i, i < n → w.cell? ⟨b, off + i, none⟩ = some (.int .i64 (zs i))) := hcell
  clear hs hg hcell
  generalize n * z = P at *
  go_enter Try.func46, Try.ntmps46
  go_wp2_with fail
  refine HA.mono ?_
  rintro e w' ⟨⟨r, rfl, hr⟩, m, rfl⟩
  obtain rfl : r = true := hr.2 HG.out
  clear HA hr
  have HSF := symbolsFrom_nat 0 n n b off cap z (natOf zs) s (w.drewN m) (by omega) (fun i hi => by have := (HG.out i hi).1; unfold natOf; omega) hb hn hn0 hz1 hz (by rw [HS.out]; exact Int.ofNat.inj hp.symm)
    (fun i hi => by show w.cell? _ = _; rw [HC.out i hi]; have := (HG.out i hi).1; unfold natOf; rw [Int.toNat_of_nonneg this.1])
  go_wp2_with fail
  refine HSF.mono ?_
  rintro e w2 ⟨rfl, hb2⟩
  clear HSF
  have hbb : Below w.heap.size w w2 := (below_drewN (Below.refl _ _) m).trans hb2
  go_wp2
  go_ret2
  exact ⟨rfl, hbb⟩
set_option maxHeartbeats 1000000 in
theorem decode_bad (b off n cap z : Nat) (zs : Nat → Int) (s : ByteArray) (w : World) (hn0 : 0 < n) (hn : n ≤ 8) (hz1 : 1 ≤ z) (hz : z ≤ 16) (hs : s.size = n * z)
    (hcell : ∀ i, i < n → w.cell? ⟨b, off + i, none⟩ = some (.int .i64 (zs i))) (hg : ¬ Good n zs) :
    Calls Try.prog 46 #[.slice (some ⟨b, off, none⟩) n cap, .string s, .int .i64 z] w fun e w' => e = .returned (.tuple #[.string nil, .int .i64 5]) ∧ Below w.heap.size w w' := by
  have HA := areNumbers_any n b off cap zs w hn hcell
  have t1 : ((n : Int) == 0) = false := by simp; omega
  have hp : ((n : Int) * (z : Int)) = ((n * z : Nat) : Int) := by simp
  have hl : n * z ≤ 8 * 16 := Nat.mul_le_mul (by omega) hz
  have t2 : ((s.size : Int) != ((n * z : Nat) : Int)) = false := by rw [hs]; simp
  have HG : Hid (¬ Good n zs) := hg
  clear hs hg hcell
  generalize n * z = P at *
  go_enter Try.func46, Try.ntmps46
  go_wp2_with fail
  refine HA.mono ?_
  rintro e w' ⟨⟨r, rfl, hr⟩, m, rfl⟩
  obtain rfl : r = false := by cases r with
    | false => rfl
    | true => exact absurd (hr.1 rfl) HG.out
  clear HA hr
  go_wp2
  go_ret2
  exact ⟨rfl, below_drewN (Below.refl _ _) m⟩

/-- how a list of numbers lies in memory -/
def Lies (w : World) (ao : Option Addr) (n : Nat) (zs : Nat → Int) : Prop := n = 0 ∨ ∃ b off, ao = some ⟨b, off, none⟩ ∧ b < w.heap.size ∧ ∀ i, i < n → w.cell? ⟨b, off + i, none⟩ = some (.int .i64 (zs i))

theorem decode_any (ao : Option Addr) (n cap : Nat) (zs : Nat → Int) (s : ByteArray) (size : Int) (w : World) (hn : n ≤ maxLen) (hl : Lies w ao n zs) :
    Calls Try.prog 46 #[.slice ao n cap, .string s, .int .i64 size] w fun e w' => e = .returned (decV n zs s size) ∧ Below w.heap.size w w' := by
  unfold decV decOut
  by_cases h1 : size < 1 ∨ 16 < size
  · simp only [h1, if_true]
    exact (decode_size ao n cap s size w h1).mono fun e w' ⟨h, g⟩ => ⟨h, below_same g⟩
  · simp only [h1, if_false]
    obtain ⟨z, rfl⟩ := Int.eq_ofNat_of_zero_le (show 0 ≤ size by omega)
    simp only [Int.toNat_natCast]
    have hz1 : 1 ≤ z := by omega
    have hz : z ≤ 16 := by omega
    by_cases h2 : n = 0 ∨ 8 < n ∨ s.size ≠ n * z
    · simp only [h2, if_true]
      exact (decode_block ao n cap z s w hn hz1 hz h2).mono fun e w' ⟨h, g⟩ => ⟨h, below_same g⟩
    · simp only [h2, if_false]
      rcases hl with h0 | ⟨b, off, rfl, hb, hc⟩
      · exact absurd (.inl h0) h2
      · by_cases h3 : goodB n zs = false
        · simp only [h3, if_true]
          exact decode_bad b off n cap z zs s w (by omega) (by omega) hz1 hz (by omega) hc (fun h => by rw [(goodB_iff n zs).2 h] at h3; cases h3)
        · simp only [h3]
          exact decode_good b off n cap z zs s w (by omega) (by omega) hz1 hz (by omega) hb hc ((goodB_iff n zs).1 (by simpa using h3))

theorem rDecode (ao : Option Addr) (n cap : Nat) (zs : Nat → Int) (s : ByteArray) (size : Int) (w : World) (hn : n ≤ maxLen) (hl : Lies w ao n zs) :
    Calls Try.prog 21 #[.slice ao n cap, .string s, .int .i64 size] w fun e w' => e = .returned (decV n zs s size) ∧ Below w.heap.size w w' := by
  have HC := decode_any ao n cap zs s size w hn hl
  unfold decV at *
  generalize decOut n zs s size = o at *
  go_enter Try.func21, Try.ntmps21
  go_wp2_with fail
  refine HC.mono ?_
  rintro e w' ⟨rfl, hb⟩
  clear HC
  go_wp2
  go_ret2
  exact ⟨rfl, hb⟩
end Cod
end Go.Proofs.Ytkgnmcekeeannaa
