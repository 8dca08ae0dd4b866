import Derived.Test.YtkgnmcekeeannabW11
namespace Go.Proofs.Ytkgnmcekeeannab
open Go.RowKit Go.Deep
namespace Cod
open Pol (G fm fi prodBut share lag sumTo pw gauss gstep factor)
open Fld (ret_int val_int i64_xor_nat)

theorem infoRows : (Try.prog.info? 54).map (fun i => (i.zero, i.size, i.bytes)) = some (some (.slice none 0 0), 1, 24) := by kernel_rfl

/-- the rows as far as the first two loops have come: c rows whole, of row c the first j -/
def M1 (k : Nat) (xs vs : Nat → G) (c j i' j' : Nat) : G := if i' < c ∨ (i' = c ∧ j' < j) then Pol.start k xs vs i' j' else 0
theorem mat_set {w wr : World} {N k c : Nat} {M : Nat → Nat → G} (h : Mat w wr N k c M) (i j : Nat) (hi : i < c) (x : G) (M' : Nat → Nat → G) (e : ∀ i' j', i' < c → j' ≤ k → (if i' = i ∧ j' = j then x else M i' j') = M' i' j') :
    Mat w (wr.setCell ⟨N + 1 + i, j, none⟩ (.int .i64 x.toNat)) N k c M' := (h.set i j hi x).congr e

/-- the rows while row m is multiplied: its first p have been -/
def M5 (M : Nat → Nat → G) (m p i j : Nat) : G := if i = m ∧ j < p then fm (M i j) (fi (M m m)) else M i j
/-- the rows while row m is taken off the others: off those ahead of row i, and off the first q of row i -/
def M6 (M : Nat → Nat → G) (m i q i' j' : Nat) : G := if i' = m ∨ i' < i ∨ (i' = i ∧ j' < q) then gstep m M i' j' else M i' j'
theorem M6_self (M : Nat → Nat → G) (m i q j : Nat) : M6 M m i q m j = fm (M m j) (fi (M m m)) := by simp [M6, gstep]
theorem M6_col (M : Nat → Nat → G) (m i : Nat) (h : i ≠ m) : M6 M m i 0 i m = M i m := by simp [M6, h]
theorem M6_next (M : Nat → Nat → G) (m i q : Nat) (h : i ≠ m) : M6 M m i q i q = M i q := by simp [M6, h]
theorem gxor (x y : G) : bits .xor .i64 (x.toNat : Int) (y.toNat : Int) = ((x ^^^ y).toNat : Int) := by
  have hx := UInt8.toNat_lt x
  have hy := UInt8.toNat_lt y
  rw [i64_xor_nat _ _ (by omega) (by omega), UInt8.toNat_xor]
/-- behind the steps: the rows, and what is made of them -/
structure Fin8 (w wr : World) (N k : Nat) (M : Nat → Nat → G) (i : Nat) : Prop where
  rows : wr.rowIs N 54 k (fun i => if i < k then .slice (some ⟨N + 1 + i, 0, none⟩) (k + 1) (k + 1) else .slice none 0 0)
  row : ∀ i, i < k → wr.rowIs (N + 1 + i) 3 (k + 1) (fun j => iv (M i j))
  below : Below N w wr
  out : wr.rowIs (N + 1 + k) 3 k (fun j => if j < i then iv (M j k) else .int .i64 0)
theorem Fin8.start {w wr : World} {N k : Nat} {M : Nat → Nat → G} (h : Mat w wr N k k M) : Fin8 w (wr.alloc (.cells (madeCells #[.int .i64 0] k) 3)) N k M 0 := by
  have hn := World.rowIs_made wr (.int .i64 0) k 3
  rw [h.size] at hn
  exact ⟨h.rows.alloc _, fun i hi => (h.row i hi).alloc _, h.below.alloc (by rw [h.size]; omega) _, hn.congr (fun j _ => by simp)⟩
theorem Fin8.step {w wr : World} {N k : Nat} {M : Nat → Nat → G} {i : Nat} (h : Fin8 w wr N k M i) : Fin8 w (wr.setCell ⟨N + 1 + k, i, none⟩ (.int .i64 (M i k).toNat)) N k M (i + 1) := by
  refine ⟨h.rows.setOther (by show N ≠ N + 1 + k; omega) _, fun j hj => (h.row j hj).setOther (by show N + 1 + j ≠ N + 1 + k; omega) _, h.below.setCell (by show N ≤ N + 1 + k; omega) _, (h.out.set i _).congr (fun j _ => ?_)⟩
  by_cases e : j = i
  · subst e; simp [iv]
  · by_cases e2 : j < i
    · simp [e, e2, show j < i + 1 by omega]
    · simp [e, e2, show ¬ j < i + 1 by omega]

end Cod
end Go.Proofs.Ytkgnmcekeeannab
