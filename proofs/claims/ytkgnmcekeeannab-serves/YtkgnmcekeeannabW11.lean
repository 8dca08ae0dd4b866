import Derived.Test.YtkgnmcekeeannabW10
import Derived.Deep.OwnRows
namespace Go.Proofs.Ytkgnmcekeeannab
open Go.RowKit
namespace Cod
open Pol (G fm fi prodBut share lag sumTo)
open Fld (ret_int val_int i64_xor_nat)

def goodB (n : Nat) (zs : Nat → Int) : Bool := (List.range n).all fun i => decide (0 ≤ zs i) && decide (zs i < 16) && (List.range i).all fun j => zs j != zs i
theorem goodB_iff (n : Nat) (zs : Nat → Int) : goodB n zs = true ↔ Good n zs := by
  unfold goodB Good
  simp only [List.all_eq_true, List.mem_range, Bool.and_eq_true, decide_eq_true_eq, bne_iff_ne]

def natOf (zs : Nat → Int) (i : Nat) : Nat := (zs i).toNat
/-- what Decode answers -/
def decOut (n : Nat) (zs : Nat → Int) (s : ByteArray) (size : Int) : ByteArray × Int :=
  if size < 1 ∨ 16 < size then (nil, 2)
  else if n = 0 ∨ 8 < n ∨ s.size ≠ n * size.toNat then (nil, 3)
  else if goodB n zs = false then (nil, 5)
  else (⟨(flat size.toNat (symF n (natOf zs) s size.toNat 0) n).toArray⟩, 0)
abbrev decV (n : Nat) (zs : Nat → Int) (s : ByteArray) (size : Int) : Value := .tuple #[.string (decOut n zs s size).1, .int .i64 (decOut n zs s size).2]

theorem decode_size (ao : Option Addr) (n cap : Nat) (s : ByteArray) (z : Int) (w : World) (hz : z < 1 ∨ 16 < z) :
    Calls Try.prog 74 #[.slice ao n cap, .string s, .int .i64 z] w fun e w' => e = .returned (.tuple #[.string nil, .int .i64 2]) ∧ w' = w := by
  by_cases h1 : z < 1
  · clear hz
    go_enter Try.func74, Try.ntmps74
    go_wp2
    go_ret2
    exact ⟨rfl, rfl⟩
  · have h2 : 16 < z := hz.resolve_left h1
    clear hz
    have h3 : 1 ≤ z := by omega
    clear h1
    go_enter Try.func74, Try.ntmps74
    go_wp2
    go_ret2
    exact ⟨rfl, rfl⟩
theorem decode_block (ao : Option Addr) (n cap z : Nat) (s : ByteArray) (w : World) (hn : n ≤ maxLen) (hz1 : 1 ≤ z) (hz : z ≤ 16) (hb : n = 0 ∨ 8 < n ∨ s.size ≠ n * z) :
    Calls Try.prog 74 #[.slice ao n cap, .string s, .int .i64 z] w fun e w' => e = .returned (.tuple #[.string nil, .int .i64 3]) ∧ w' = w := by
  unfold maxLen at hn
  by_cases h1 : n = 0
  · have t1 : ((n : Int) == 0) = true := by simp [h1]
    clear hb h1
    go_enter Try.func74, Try.ntmps74
    go_wp2
    go_ret2
    exact ⟨rfl, rfl⟩
  · have t1 : ((n : Int) == 0) = false := by simp [h1]
    by_cases h2 : 8 < n
    · clear hb h1
      go_enter Try.func74, Try.ntmps74
      go_wp2
      go_ret2
      exact ⟨rfl, rfl⟩
    · have h3 : s.size ≠ n * z := by omega
      have hp : ((n : Int) * (z : Int)) = ((n * z : Nat) : Int) := by simp
      have hl : n * z ≤ 8 * 16 := Nat.mul_le_mul (by omega) hz
      have h4 : n ≤ 8 := by omega
      clear hb h1 h2
      generalize n * z = P at *
      have t2 : ((s.size : Int) != (P : Int)) = true := by simp; omega
      clear h3
      go_enter Try.func74, Try.ntmps74
      go_wp2
      go_ret2
      exact ⟨rfl, rfl⟩

set_option maxHeartbeats 1000000 in
theorem decode_good (b off n cap z : Nat) (zs : Nat → Int) (s : ByteArray) (w : World) (hn0 : 0 < n) (hn : n ≤ 8) (hz1 : 1 ≤ z) (hz : z ≤ 16) (hs : s.size = n * z) (hb : b < w.heap.size)
    (hcell : ∀ i, i < n → w.cell? ⟨b, off + i, none⟩ = some (.int .i64 (zs i))) (hg : Good n zs) :
    Calls Try.prog 74 #[.slice (some ⟨b, off, none⟩) n cap, .string s, .int .i64 z] w fun e w' => e = .returned (.tuple #[.string ⟨(flat z (symF n (natOf zs) s z 0) n).toArray⟩, .int .i64 0]) ∧ Below w.heap.size w w' := by
  have HA := areNumbers_any n b off cap zs w hn hcell
  have t1 : ((n : Int) == 0) = false := by simp; omega
  have hp : ((n : Int) * (z : Int)) = ((n * z : Nat) : Int) := by simp
  have hl : n * z ≤ 8 * 16 := Nat.mul_le_mul (by omega) hz
  have t2 : ((s.size : Int) != ((n * z : Nat) : Int)) = false := by rw [hs]; simp
  have HS : Hid (s.size = n * z) := hs
  have HG : Hid (Good n zs) := hg
  have HC : Hid (∀ i, i < n → w.cell? ⟨b, off + i, none⟩ = some (.int .i64 (zs i))) := hcell
  clear hs hg hcell
  generalize n * z = P at *
  go_enter Try.func74, Try.ntmps74
  go_wp2_with fail
  refine HA.mono ?_
  rintro e w' ⟨⟨r, rfl, hr⟩, m, rfl⟩
  obtain rfl : r = true := hr.2 HG.out
  clear HA hr
  have HSF := symbolsFrom_nat 0 n n b off cap z (natOf zs) s (w.drewN m) (by omega) (fun i hi => by have := (HG.out i hi).1; unfold natOf; omega) hb hn hn0 hz1 hz (by rw [HS.out]; exact Int.ofNat.inj hp.symm)
    (fun i hi => by show w.cell? _ = _; rw [HC.out i hi]; have := (HG.out i hi).1; unfold natOf; rw [Int.toNat_of_nonneg this.1])
  go_wp2_with fail
  refine HSF.mono ?_
  rintro e w2 ⟨rfl, hb2⟩
  clear HSF
  have hbb : Below w.heap.size w w2 := (below_drewN (Below.refl _ _) m).trans hb2
  go_wp2
  go_ret2
  exact ⟨rfl, hbb⟩
set_option maxHeartbeats 1000000 in
theorem decode_bad (b off n cap z : Nat) (zs : Nat → Int) (s : ByteArray) (w : World) (hn0 : 0 < n) (hn : n ≤ 8) (hz1 : 1 ≤ z) (hz : z ≤ 16) (hs : s.size = n * z)
    (hcell : ∀ i, i < n → w.cell? ⟨b, off + i, none⟩ = some (.int .i64 (zs i))) (hg : ¬ Good n zs) :
    Calls Try.prog 74 #[.slice (some ⟨b, off, none⟩) n cap, .string s, .int .i64 z] w fun e w' => e = .returned (.tuple #[.string nil, .int .i64 5]) ∧ Below w.heap.size w w' := by
  have HA := areNumbers_any n b off cap zs w hn hcell
  have t1 : ((n : Int) == 0) = false := by simp; omega
  have hp : ((n : Int) * (z : Int)) = ((n * z : Nat) : Int) := by simp
  have hl : n * z ≤ 8 * 16 := Nat.mul_le_mul (by omega) hz
  have t2 : ((s.size : Int) != ((n * z : Nat) : Int)) = false := by rw [hs]; simp
  have HG : Hid (¬ Good n zs) := hg
  clear hs hg hcell
  generalize n * z = P at *
  go_enter Try.func74, Try.ntmps74
  go_wp2_with fail
  refine HA.mono ?_
  rintro e w' ⟨⟨r, rfl, hr⟩, m, rfl⟩
  obtain rfl : r = false := by cases r with
    | false => rfl
    | true => exact absurd (hr.1 rfl) HG.out
  clear HA hr
  go_wp2
  go_ret2
  exact ⟨rfl, below_drewN (Below.refl _ _) m⟩

/-- how a list of numbers lies in memory -/
def Lies (w : World) (ao : Option Addr) (n : Nat) (zs : Nat → Int) : Prop := n = 0 ∨ ∃ b off, ao = some ⟨b, off, none⟩ ∧ b < w.heap.size ∧ ∀ i, i < n → w.cell? ⟨b, off + i, none⟩ = some (.int .i64 (zs i))

theorem decode_any (ao : Option Addr) (n cap : Nat) (zs : Nat → Int) (s : ByteArray) (size : Int) (w : World) (hn : n ≤ maxLen) (hl : Lies w ao n zs) :
    Calls Try.prog 74 #[.slice ao n cap, .string s, .int .i64 size] w fun e w' => e = .returned (decV n zs s size) ∧ Below w.heap.size w w' := by
  unfold decV decOut
  by_cases h1 : size < 1 ∨ 16 < size
  · simp only [h1, if_true]
    exact (decode_size ao n cap s size w h1).mono fun e w' ⟨h, g⟩ => ⟨h, below_same g⟩
  · simp only [h1, if_false]
    obtain ⟨z, rfl⟩ := Int.eq_ofNat_of_zero_le (show 0 ≤ size by omega)
    simp only [Int.toNat_natCast]
    have hz1 : 1 ≤ z := by omega
    have hz : z ≤ 16 := by omega
    by_cases h2 : n = 0 ∨ 8 < n ∨ s.size ≠ n * z
    · simp only [h2, if_true]
      exact (decode_block ao n cap z s w hn hz1 hz h2).mono fun e w' ⟨h, g⟩ => ⟨h, below_same g⟩
    · simp only [h2, if_false]
      rcases hl with h0 | ⟨b, off, rfl, hb, hc⟩
      · exact absurd (.inl h0) h2
      · by_cases h3 : goodB n zs = false
        · simp only [h3, if_true]
          exact decode_bad b off n cap z zs s w (by omega) (by omega) hz1 hz (by omega) hc (fun h => by rw [(goodB_iff n zs).2 h] at h3; cases h3)
        · simp only [h3]
          exact decode_good b off n cap z zs s w (by omega) (by omega) hz1 hz (by omega) hb hc ((goodB_iff n zs).1 (by simpa using h3))

end Cod
end Go.Proofs.Ytkgnmcekeeannab
namespace Go.Proofs.Ytkgnmcekeeannab
open Go.RowKit Go.Deep
namespace Cod
open Pol (G fm fi prodBut share lag sumTo)

def iv (x : G) : Value := .int .i64 x.toNat

/-- the rows of the document's answer, as they lie in memory: the list of rows in block N, row i in block N + 1 + i; c of them made -/
structure Mat (w wr : World) (N k c : Nat) (M : Nat → Nat → G) : Prop where
  rows : wr.rowIs N 54 k (fun i => if i < c then .slice (some ⟨N + 1 + i, 0, none⟩) (k + 1) (k + 1) else .slice none 0 0)
  row : ∀ i, i < c → wr.rowIs (N + 1 + i) 3 (k + 1) (fun j => iv (M i j))
  below : Below N w wr
  size : wr.heap.size = N + 1 + c

theorem Mat.congr {w wr : World} {N k c : Nat} {M M' : Nat → Nat → G} (h : Mat w wr N k c M) (e : ∀ i j, i < c → j ≤ k → M i j = M' i j) : Mat w wr N k c M' :=
  ⟨h.rows, fun i hi => (h.row i hi).congr (fun j hj => by rw [e i j hi (by omega)]), h.below, h.size⟩
theorem Mat.drewN {w wr : World} {N k c : Nat} {M : Nat → Nat → G} (h : Mat w wr N k c M) (n : Nat) : Mat w (wr.drewN n) N k c M := ⟨h.rows, h.row, below_drewN h.below n, h.size⟩
theorem Mat.drew {w wr : World} {N k c : Nat} {M : Nat → Nat → G} (h : Mat w wr N k c M) : Mat w wr.drew N k c M := ⟨h.rows, h.row, h.below.drew, h.size⟩
theorem Mat.set {w wr : World} {N k c : Nat} {M : Nat → Nat → G} (h : Mat w wr N k c M) (i j : Nat) (hi : i < c) (x : G) :
    Mat w (wr.setCell ⟨N + 1 + i, j, none⟩ (iv x)) N k c (fun i' j' => if i' = i ∧ j' = j then x else M i' j') := by
  refine ⟨h.rows.setOther (by show N ≠ N + 1 + i; omega) _, fun i' hi' => ?_, h.below.setCell (by show N ≤ N + 1 + i; omega) _, by simpa using h.size⟩
  by_cases e : i' = i
  · subst e
    exact ((h.row i' hi').set j (iv x)).congr (fun j' _ => by by_cases e2 : j' = j <;> simp [e2])
  · exact ((h.row i' hi').setOther (by show N + 1 + i' ≠ N + 1 + i; omega) _).congr (fun j' _ => by simp [e])
/-- the list of rows is written over with what it holds -/
theorem Mat.again {w wr : World} {N k c : Nat} {M : Nat → Nat → G} (h : Mat w wr N k c M) (i : Nat) (hi : i < c) : Mat w (wr.setCell ⟨N, i, none⟩ (.slice (some ⟨N + 1 + i, 0, none⟩) (k + 1) (k + 1))) N k c M := by
  refine ⟨(h.rows.set i _).congr (fun j _ => ?_), fun i' hi' => (h.row i' hi').setOther (by show N + 1 + i' ≠ N; omega) _, h.below.setCell (Nat.le_refl _) _, by simpa using h.size⟩
  by_cases e : j = i
  · subst e; simp [hi]
  · simp [e]
/-- a new row -/
theorem Mat.make {w wr : World} {N k c : Nat} {M : Nat → Nat → G} (h : Mat w wr N k c M) (hc : c < k) :
    Mat w ((wr.alloc (.cells (madeCells #[.int .i64 0] (k + 1)) 3)).setCell ⟨N, c, none⟩ (.slice (some ⟨N + 1 + c, 0, none⟩) (k + 1) (k + 1))) N k (c + 1) (fun i j => if i < c then M i j else 0) := by
  have hn := World.rowIs_made wr (.int .i64 0) (k + 1) 3
  rw [h.size] at hn
  refine ⟨((h.rows.alloc _).set c _).congr (fun j hj => ?_), fun i hi => ?_, (h.below.alloc (by rw [h.size]; omega) _).setCell (Nat.le_refl _) _, by simp [h.size]; omega⟩
  · by_cases e : j = c
    · subst e; simp
    · by_cases e2 : j < c
      · simp [e, e2, show j < c + 1 by omega]
      · simp [e, e2, show ¬ j < c + 1 by omega]
  · by_cases e : i = c
    · subst e
      exact (hn.setOther (by show N + 1 + i ≠ N; omega) _).congr (fun j _ => by simp [iv])
    · exact (((h.row i (by omega)).alloc _).setOther (by show N + 1 + i ≠ N; omega) _).congr (fun j _ => by simp [show i < c by omega])
theorem Mat.start {w : World} {k : Nat} (M : Nat → Nat → G) : Mat w (w.alloc (.cells (madeCells #[.slice none 0 0] k) 54)) w.heap.size k 0 M :=
  ⟨(World.rowIs_made w (.slice none 0 0) k 54).congr (fun i _ => by simp), fun i hi => by omega, (Below.refl _ _).alloc (Nat.le_refl _) _, by simp⟩
theorem Mat.rowCell {w wr : World} {N k c : Nat} {M : Nat → Nat → G} (h : Mat w wr N k c M) (i : Nat) (hi : i < c) (hk : i < k) : wr.cell? ⟨N, i, none⟩ = some (.slice (some ⟨N + 1 + i, 0, none⟩) (k + 1) (k + 1)) := by
  rw [h.rows.cell hk]; simp [hi]
theorem Mat.cell {w wr : World} {N k c : Nat} {M : Nat → Nat → G} (h : Mat w wr N k c M) (i j : Nat) (hi : i < c) (hj : j ≤ k) : wr.cell? ⟨N + 1 + i, j, none⟩ = some (.int .i64 (M i j).toNat) := (h.row i hi).cell (by omega)
theorem Mat.old {w wr : World} {N k c : Nat} {M : Nat → Nat → G} (h : Mat w wr N k c M) {b o : Nat} {v : Value} (hb : b < N) (hv : w.cell? ⟨b, o, none⟩ = some v) : wr.cell? ⟨b, o, none⟩ = some v := (h.below.cell (p := ⟨b, o, none⟩) hb).trans hv

end Cod
end Go.Proofs.Ytkgnmcekeeannab
