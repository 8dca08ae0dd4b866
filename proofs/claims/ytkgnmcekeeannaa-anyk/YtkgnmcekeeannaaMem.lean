import Derived.Test.YtkgnmcekeeannaaWK
import Derived.Deep.OwnRows
namespace Go.Proofs.Ytkgnmcekeeannaa
open Go.RowKit Go.Deep
namespace Cod
open Pol (G fm fi prodBut share lag sumTo)

def iv (x : G) : Value := .int .i64 x.toNat

/-- the rows of the document's answer, as they lie in memory: the list of rows in block N, row i in block N + 1 + i; c of them made -/
structure Mat (w wr : World) (N k c : Nat) (M : Nat → Nat → G) : Prop where
  rows : wr.rowIs N 33 k (fun i => if i < c then .slice (some ⟨N + 1 + i, 0, none⟩) (k + 1) (k + 1) else .slice none 0 0)
  row : ∀ i, i < c → wr.rowIs (N + 1 + i) 3 (k + 1) (fun j => iv (M i j))
  below : Below N w wr
  size : wr.heap.size = N + 1 + c

theorem Mat.congr {w wr : World} {N k c : Nat} {M M' : Nat → Nat → G} (h : Mat w wr N k c M) (e : ∀ i j, i < c → j ≤ k → M i j = M' i j) : Mat w wr N k c M' :=
  ⟨h.rows, fun i hi => (h.row i hi).congr (fun j hj => by rw [e i j hi (by omega)]), h.below, h.size⟩
theorem Mat.drewN {w wr : World} {N k c : Nat} {M : Nat → Nat → G} (h : Mat w wr N k c M) (n : Nat) : Mat w (wr.drewN n) N k c M := ⟨h.rows, h.row, below_drewN h.below n, h.size⟩
theorem Mat.drew {w wr : World} {N k c : Nat} {M : Nat → Nat → G} (h : Mat w wr N k c M) : Mat w wr.drew N k c M := ⟨h.rows, h.row, h.below.drew, h.size⟩
theorem Mat.set {w wr : World} {N k c : Nat} {M : Nat → Nat → G} (h : Mat w wr N k c M) (i j : Nat) (hi : i < c) (x : G) :
    Mat w (wr.setCell ⟨N + 1 + i, j, none⟩ (iv x)) N k c (fun i' j' => if i' = i ∧ j' = j then x else M i' j') := by
  refine ⟨h.rows.setOther (by show N ≠ N + 1 + i; omega) _, fun i' hi' => ?_, h.below.setCell (by show N ≤ N + 1 + i; omega) _, by simpa using h.size⟩
  by_cases e : i' = i
  · subst e
    exact ((h.row i' hi').set j (iv x)).congr (fun j' _ => by by_cases e2 : j' = j <;> simp [e2])
  · exact ((h.row i' hi').setOther (by show N + 1 + i' ≠ N + 1 + i; omega) _).congr (fun j' _ => by simp [e])
/-- the list of rows is written over with what it holds -/
theorem Mat.again {w wr : World} {N k c : Nat} {M : Nat → Nat → G} (h : Mat w wr N k c M) (i : Nat) (hi : i < c) : Mat w (wr.setCell ⟨N, i, none⟩ (.slice (some ⟨N + 1 + i, 0, none⟩) (k + 1) (k + 1))) N k c M := by
  refine ⟨(h.rows.set i _).congr (fun j _ => ?_), fun i' hi' => (h.row i' hi').setOther (by show N + 1 + i' ≠ N; omega) _, h.below.setCell (Nat.le_refl _) _, by simpa using h.size⟩
  by_cases e : j = i
  · subst e; simp [hi]
  · simp [e]
/-- a new row -/
theorem Mat.make {w wr : World} {N k c : Nat} {M : Nat → Nat → G} (h : Mat w wr N k c M) (hc : c < k) :
    Mat w ((wr.alloc (.cells (madeCells #[.int .i64 0] (k + 1)) 3)).setCell ⟨N, c, none⟩ (.slice (some ⟨N + 1 + c, 0, none⟩) (k + 1) (k + 1))) N k (c + 1) (fun i j => if i < c then M i j else 0) := by
  have hn := World.rowIs_made wr (.int .i64 0) (k + 1) 3
  rw [h.size] at hn
  refine ⟨((h.rows.alloc _).set c _).congr (fun j hj => ?_), fun i hi => ?_, (h.below.alloc (by rw [h.size]; omega) _).setCell (Nat.le_refl _) _, by simp [h.size]; omega⟩
  · by_cases e : j = c
    · subst e; simp
    · by_cases e2 : j < c
      · simp [e, e2, show j < c + 1 by omega]
      · simp [e, e2, show ¬ j < c + 1 by omega]
  · by_cases e : i = c
    · subst e
      exact (hn.setOther (by show N + 1 + i ≠ N; omega) _).congr (fun j _ => by simp [iv])
    · exact (((h.row i (by omega)).alloc _).setOther (by show N + 1 + i ≠ N; omega) _).congr (fun j _ => by simp [show i < c by omega])
theorem Mat.start {w : World} {k : Nat} (M : Nat → Nat → G) : Mat w (w.alloc (.cells (madeCells #[.slice none 0 0] k) 33)) w.heap.size k 0 M :=
  ⟨(World.rowIs_made w (.slice none 0 0) k 33).congr (fun i _ => by simp), fun i hi => by omega, (Below.refl _ _).alloc (Nat.le_refl _) _, by simp⟩
theorem Mat.rowCell {w wr : World} {N k c : Nat} {M : Nat → Nat → G} (h : Mat w wr N k c M) (i : Nat) (hi : i < c) (hk : i < k) : wr.cell? ⟨N, i, none⟩ = some (.slice (some ⟨N + 1 + i, 0, none⟩) (k + 1) (k + 1)) := by
  rw [h.rows.cell hk]; simp [hi]
theorem Mat.cell {w wr : World} {N k c : Nat} {M : Nat → Nat → G} (h : Mat w wr N k c M) (i j : Nat) (hi : i < c) (hj : j ≤ k) : wr.cell? ⟨N + 1 + i, j, none⟩ = some (.int .i64 (M i j).toNat) := (h.row i hi).cell (by omega)
theorem Mat.old {w wr : World} {N k c : Nat} {M : Nat → Nat → G} (h : Mat w wr N k c M) {b o : Nat} {v : Value} (hb : b < N) (hv : w.cell? ⟨b, o, none⟩ = some v) : wr.cell? ⟨b, o, none⟩ = some v := (h.below.cell (p := ⟨b, o, none⟩) hb).trans hv

/-- the product of the document's answer, its arguments known by the field's numbers -/
theorem prod_g (x y : G) (a b : Int) (w : World) (ha : a = x.toNat) (hb : b = y.toNat) :
    Calls Try.prog 38 #[.int .i64 a, .int .i64 b] w fun e w' => e = .returned (.int .i64 (fm x y).toNat) ∧ ∃ n, w' = w.drewN n := by
  subst ha hb
  rw [Pol.toNat_fm]
  exact Fld.product_nat _ _ w (UInt8.toNat_lt x) (UInt8.toNat_lt y)
theorem rinv_g (x : G) (w : World) (h : x ≠ 0) :
    Calls Try.prog 40 #[.int .i64 x.toNat] w fun e w' => e = .returned (.int .i64 (fi x).toNat) ∧ ∃ n, w' = w.drewN n := by
  rw [Pol.toNat_fi]
  exact Fld.rinverse_nat _ w (UInt8.toNat_lt x) (fun e => h (Pol.ext e))
end Cod
end Go.Proofs.Ytkgnmcekeeannaa
