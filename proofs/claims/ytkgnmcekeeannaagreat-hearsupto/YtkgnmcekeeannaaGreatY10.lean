import Derived.Test.YtkgnmcekeeannaaGreatY09
import Derived.Deep.OwnRows
namespace Go.Proofs.YtkgnmcekeeannaaGreat
open Go.RowKit Go.Deep
namespace Cod
open Pol (G fm fi prodBut share lag sumTo)

def iv (x : G) : Value := .int .i64 x.toNat

/-- the rows of the document's answer, as they lie in memory: the list of rows in block N, row i in block N + 1 + i; c of them made -/
structure Mat (w wr : World) (N k c : Nat) (M : Nat → Nat → G) : Prop where
  rows : wr.rowIs N 105 k (fun i => if i < c then .slice (some ⟨N + 1 + i, 0, none⟩) (k + 1) (k + 1) else .slice none 0 0)
  row : ∀ i, i < c → wr.rowIs (N + 1 + i) 3 (k + 1) (fun j => iv (M i j))
  below : Below N w wr
  size : wr.heap.size = N + 1 + c

theorem Mat.congr {w wr : World} {N k c : Nat} {M M' : Nat → Nat → G} (h : Mat w wr N k c M) (e : ∀ i j, i < c → j ≤ k → M i j = M' i j) : Mat w wr N k c M' :=
  ⟨h.rows, fun i hi => (h.row i hi).congr (fun j hj => by rw [e i j hi (by omega)]), h.below, h.size⟩
theorem Mat.drewN {w wr : World} {N k c : Nat} {M : Nat → Nat → G} (h : Mat w wr N k c M) (n : Nat) : Mat w (wr.drewN n) N k c M := ⟨h.rows, h.row, below_drewN h.below n, h.size⟩
theorem Mat.drew {w wr : World} {N k c : Nat} {M : Nat → Nat → G} (h : Mat w wr N k c M) : Mat w wr.drew N k c M := ⟨h.rows, h.row, h.below.drew, h.size⟩
theorem Mat.set {w wr : World} {N k c : Nat} {M : Nat → Nat → G} (h : Mat w wr N k c M) (i j : Nat) (hi : i < c) (x : G) :
    Mat w (wr.setCell ⟨N + 1 + i, j, none⟩ (iv x)) N k c (fun i' j' => if i' = i ∧ j' = j then x else M i' j') := by
  refine ⟨h.rows.setOther (by show N ≠ N + 1 + i; omega) _, fun i' hi' => ?_, h.below.setCell (by show N ≤ N + 1 + i; omega) _, by simpa using h.size⟩
  by_cases e : i' = i
  · subst e
    exact ((h.row i' hi').set j (iv x)).congr (fun j' _ => by by_cases e2 : j' = j <;> simp [e2])
  · exact ((h.row i' hi').setOther (by show N + 1 + i' ≠ N + 1 + i; omega) _).congr (fun j' _ => by simp [e])
/-- the list of rows is written over with what it holds -/
theorem Mat.again {w wr : World} {N k c : Nat} {M : Nat → Nat → G} (h : Mat w wr N k c M) (i : Nat) (hi : i < c) : Mat w (wr.setCell ⟨N, i, none⟩ (.slice (some ⟨N + 1 + i, 0, none⟩) (k + 1) (k + 1))) N k c M := by
  refine ⟨(h.rows.set i _).congr (fun j _ => ?_), fun i' hi' => (h.row i' hi').setOther (by show N + 1 + i' ≠ N; omega) _, h.below.setCell (Nat.le_refl _) _, by simpa using h.size⟩
  by_cases e : j = i
  · subst e; simp [hi]
  · simp [e]
/-- a new row -/
theorem Mat.make {w wr : World} {N k c : Nat} {M : Nat → Nat → G} (h : Mat w wr N k c M) (hc : c < k) :
    Mat w ((wr.alloc (.cells (madeCells #[.int .i64 0] (k + 1)) 3)).setCell ⟨N, c, none⟩ (.slice (some ⟨N + 1 + c, 0, none⟩) (k + 1) (k + 1))) N k (c + 1) (fun i j => if i < c then M i j else 0) := by
  have hn := World.rowIs_made wr (.int .i64 0) (k + 1) 3
  rw [h.size] at hn
  refine ⟨((h.rows.alloc _).set c _).congr (fun j hj => ?_), fun i hi => ?_, (h.below.alloc (by rw [h.size]; omega) _).setCell (Nat.le_refl _) _, by simp [h.size]; omega⟩
  · by_cases e : j = c
    · subst e; simp
    · by_cases e2 : j < c
      · simp [e, e2, show j < c + 1 by omega]
      · simp [e, e2, show ¬ j < c + 1 by omega]
  · by_cases e : i = c
    · subst e
      exact (hn.setOther (by show N + 1 + i ≠ N; omega) _).congr (fun j _ => by simp [iv])
    · exact (((h.row i (by omega)).alloc _).setOther (by show N + 1 + i ≠ N; omega) _).congr (fun j _ => by simp [show i < c by omega])
theorem Mat.start {w : World} {k : Nat} (M : Nat → Nat → G) : Mat w (w.alloc (.cells (madeCells #[.slice none 0 0] k) 105)) w.heap.size k 0 M :=
  ⟨(World.rowIs_made w (.slice none 0 0) k 105).congr (fun i _ => by simp), fun i hi => by omega, (Below.refl _ _).alloc (Nat.le_refl _) _, by simp⟩
theorem Mat.rowCell {w wr : World} {N k c : Nat} {M : Nat → Nat → G} (h : Mat w wr N k c M) (i : Nat) (hi : i < c) (hk : i < k) : wr.cell? ⟨N, i, none⟩ = some (.slice (some ⟨N + 1 + i, 0, none⟩) (k + 1) (k + 1)) := by
  rw [h.rows.cell hk]; simp [hi]
theorem Mat.cell {w wr : World} {N k c : Nat} {M : Nat → Nat → G} (h : Mat w wr N k c M) (i j : Nat) (hi : i < c) (hj : j ≤ k) : wr.cell? ⟨N + 1 + i, j, none⟩ = some (.int .i64 (M i j).toNat) := (h.row i hi).cell (by omega)
theorem Mat.old {w wr : World} {N k c : Nat} {M : Nat → Nat → G} (h : Mat w wr N k c M) {b o : Nat} {v : Value} (hb : b < N) (hv : w.cell? ⟨b, o, none⟩ = some v) : wr.cell? ⟨b, o, none⟩ = some v := (h.below.cell (p := ⟨b, o, none⟩) hb).trans hv

/-- the product of the document's answer, its arguments known by the field's numbers -/
theorem prod_g (x y : G) (a b : Int) (w : World) (ha : a = x.toNat) (hb : b = y.toNat) :
    Calls Tryz.prog 83 #[.int .i64 a, .int .i64 b] w fun e w' => e = .returned (.int .i64 (fm x y).toNat) ∧ ∃ n, w' = w.drewN n := by
  subst ha hb
  rw [Pol.toNat_fm]
  exact Fld.product_nat _ _ w (UInt8.toNat_lt x) (UInt8.toNat_lt y)
theorem rinv_g (x : G) (w : World) (h : x ≠ 0) :
    Calls Tryz.prog 84 #[.int .i64 x.toNat] w fun e w' => e = .returned (.int .i64 (fi x).toNat) ∧ ∃ n, w' = w.drewN n := by
  rw [Pol.toNat_fi]
  exact Fld.rinverse_nat _ w (UInt8.toNat_lt x) (fun e => h (Pol.ext e))
end Cod
end Go.Proofs.YtkgnmcekeeannaaGreat
namespace Go.Proofs.YtkgnmcekeeannaaGreat
open Go.RowKit Go.Deep
namespace Cod
open Pol (G fm fi prodBut share lag sumTo pw gauss gstep factor)
open Fld (ret_int val_int i64_xor_nat)

theorem infoRows : (Tryz.prog.info? 105).map (fun i => (i.zero, i.size, i.bytes)) = some (some (.slice none 0 0), 1, 24) := by kernel_rfl

/-- the rows as far as the first two loops have come: c rows whole, of row c the first j -/
def M1 (k : Nat) (xs vs : Nat → G) (c j i' j' : Nat) : G := if i' < c ∨ (i' = c ∧ j' < j) then Pol.start k xs vs i' j' else 0
theorem mat_set {w wr : World} {N k c : Nat} {M : Nat → Nat → G} (h : Mat w wr N k c M) (i j : Nat) (hi : i < c) (x : G) (M' : Nat → Nat → G) (e : ∀ i' j', i' < c → j' ≤ k → (if i' = i ∧ j' = j then x else M i' j') = M' i' j') :
    Mat w (wr.setCell ⟨N + 1 + i, j, none⟩ (.int .i64 x.toNat)) N k c M' := (h.set i j hi x).congr e

/-- the rows while row m is multiplied: its first p have been -/
def M5 (M : Nat → Nat → G) (m p i j : Nat) : G := if i = m ∧ j < p then fm (M i j) (fi (M m m)) else M i j
/-- the rows while row m is taken off the others: off those ahead of row i, and off the first q of row i -/
def M6 (M : Nat → Nat → G) (m i q i' j' : Nat) : G := if i' = m ∨ i' < i ∨ (i' = i ∧ j' < q) then gstep m M i' j' else M i' j'
theorem M6_self (M : Nat → Nat → G) (m i q j : Nat) : M6 M m i q m j = fm (M m j) (fi (M m m)) := by simp [M6, gstep]
theorem M6_col (M : Nat → Nat → G) (m i : Nat) (h : i ≠ m) : M6 M m i 0 i m = M i m := by simp [M6, h]
theorem M6_next (M : Nat → Nat → G) (m i q : Nat) (h : i ≠ m) : M6 M m i q i q = M i q := by simp [M6, h]
theorem gxor (x y : G) : bits .xor .i64 (x.toNat : Int) (y.toNat : Int) = ((x ^^^ y).toNat : Int) := by
  have hx := UInt8.toNat_lt x
  have hy := UInt8.toNat_lt y
  rw [i64_xor_nat _ _ (by omega) (by omega), UInt8.toNat_xor]
/-- behind the steps: the rows, and what is made of them -/
structure Fin8 (w wr : World) (N k : Nat) (M : Nat → Nat → G) (i : Nat) : Prop where
  rows : wr.rowIs N 105 k (fun i => if i < k then .slice (some ⟨N + 1 + i, 0, none⟩) (k + 1) (k + 1) else .slice none 0 0)
  row : ∀ i, i < k → wr.rowIs (N + 1 + i) 3 (k + 1) (fun j => iv (M i j))
  below : Below N w wr
  out : wr.rowIs (N + 1 + k) 3 k (fun j => if j < i then iv (M j k) else .int .i64 0)
theorem Fin8.start {w wr : World} {N k : Nat} {M : Nat → Nat → G} (h : Mat w wr N k k M) : Fin8 w (wr.alloc (.cells (madeCells #[.int .i64 0] k) 3)) N k M 0 := by
  have hn := World.rowIs_made wr (.int .i64 0) k 3
  rw [h.size] at hn
  exact ⟨h.rows.alloc _, fun i hi => (h.row i hi).alloc _, h.below.alloc (by rw [h.size]; omega) _, hn.congr (fun j _ => by simp)⟩
theorem Fin8.step {w wr : World} {N k : Nat} {M : Nat → Nat → G} {i : Nat} (h : Fin8 w wr N k M i) : Fin8 w (wr.setCell ⟨N + 1 + k, i, none⟩ (.int .i64 (M i k).toNat)) N k M (i + 1) := by
  refine ⟨h.rows.setOther (by show N ≠ N + 1 + k; omega) _, fun j hj => (h.row j hj).setOther (by show N + 1 + j ≠ N + 1 + k; omega) _, h.below.setCell (by show N ≤ N + 1 + k; omega) _, (h.out.set i _).congr (fun j _ => ?_)⟩
  by_cases e : j = i
  · subst e; simp [iv]
  · by_cases e2 : j < i
    · simp [e, e2, show j < i + 1 by omega]
    · simp [e, e2, show ¬ j < i + 1 by omega]

set_option maxRecDepth 100000 in
set_option maxHeartbeats 4000000 in
theorem factors_any (k b1 o1 c1 b2 o2 c2 : Nat) (ns : Nat → Nat) (vs : Nat → G) (w : World) (hk0 : 0 < k) (hk : k ≤ 8) (hns : ∀ i, i < k → ns i < 16) (hap : Pol.Apart k (gx ns))
    (hb1 : b1 < w.heap.size) (hb2 : b2 < w.heap.size)
    (h1 : ∀ i, i < k → w.cell? ⟨b1, o1 + i, none⟩ = some (.int .i64 (ns i))) (h2 : ∀ i, i < k → w.cell? ⟨b2, o2 + i, none⟩ = some (.int .i64 (vs i).toNat)) :
    Calls Tryz.prog 67 #[.slice (some ⟨b1, o1, none⟩) k c1, .slice (some ⟨b2, o2, none⟩) k c2] w
      fun e w' => ∃ b, e = .returned (.slice (some ⟨b, 0, none⟩) k k) ∧ w.heap.size ≤ b ∧ b < w'.heap.size ∧ (∀ i, i < k → w'.cell? ⟨b, i, none⟩ = some (.int .i64 (factor k (gx ns) vs i).toNat)) ∧ Below w.heap.size w w' := by
  have hmk0 := run_make_row' (P := Tryz.prog) 145 105 (.slice none 0 0) 24 Tryz.underlying145 infoRows rfl .i64 .i64 k (by omega) (by omega)
  have hmk1 := run_make_row' (P := Tryz.prog) 105 3 (.int .i64 0) 8 Tryz.underlying105 infoInt rfl .i64 .i64 (k + 1) (by omega) (by omega)
  have hmk2 := run_make_row' (P := Tryz.prog) 105 3 (.int .i64 0) 8 Tryz.underlying105 infoInt rfl .i64 .i64 k (by omega) (by omega)
  have ec : ((k + 1 : Nat) : Int) = (k : Int) + 1 := by omega
  rw [ec] at hmk1
  have H1 : Hid (∀ i, i < k → w.cell? ⟨b1, o1 + i, none⟩ = some (.int .i64 (ns i))) := h1
  have H2 : Hid (∀ i, i < k → w.cell? ⟨b2, o2 + i, none⟩ = some (.int .i64 (vs i).toNat)) := h2
  have HN : Hid (∀ i, i < k → ns i < 16) := hns
  have HAP : Hid (Pol.Apart k (gx ns)) := hap
  obtain ⟨N, hN⟩ : ∃ N, N = w.heap.size := ⟨_, rfl⟩
  have MS : Mat w (w.alloc (.cells (madeCells #[.slice none 0 0] k) 105)) N k 0 (Pol.start k (gx ns) vs) := by rw [hN]; exact Mat.start _
  have hN' : w.heap.size = N := hN.symm
  rw [hN'] at hb1 hb2 ⊢
  clear h1 h2 hns hap ec hN
  go_enter Tryz.func67, Tryz.ntmps67
  go_wp2
  go_loopw [7] (fun i wr => ∃ c : Nat, c ≤ k ∧ i = .int .i64 c ∧ Mat w wr N k c (Pol.start k (gx ns) vs)) (fun i _ => k - (intOf i).toNat)
  case atStart => exact ⟨0, by omega, rfl, MS⟩
  case round =>
    clear MS hmk0 hN'
    obtain ⟨c, hc, rfl, hM⟩ := hrel
    have hsz := hM.size
    by_cases hlt : c < k
    · clear hmk2
      have hr2 := hM.rows.alloc (.cells (madeCells #[.int .i64 0] (k + 1)) 3)
      have hf := hr2.frozen c
      have hcl := hr2.cell hlt
      simp only [Nat.lt_irrefl, if_false] at hcl
      have MK := hM.make hlt
      clear hr2 hM
      go_wp2
      go_loopw [8, 9] (fun p j wr => ∃ m : Nat, m ≤ k ∧ j = .int .i64 m ∧ p = .int .i64 (pw (gx ns c) m).toNat ∧ Mat w wr N k (c + 1) (M1 k (gx ns) vs c m)) (fun _ j _ => k - (intOf j).toNat)
      case atStart => exact ⟨0, by omega, rfl, rfl, MK.congr (fun i j _ _ => by simp [M1])⟩
      case round =>
        clear MK hf hcl hsz hmk1
        obtain ⟨m, hm, rfl, rfl, hM⟩ := hrel
        by_cases hlm : m < k
        · have rc := hM.rowCell c (by omega) hlt
          have cc := hM.cell c m (by omega) (by omega)
          have cf := (hM.row c (by omega)).frozen m
          have M2 : Mat w (wr.setCell ⟨N + 1 + c, m, none⟩ (.int .i64 (pw (gx ns c) m).toNat)) N k (c + 1) (M1 k (gx ns) vs c (m + 1)) := mat_set hM c m (by omega) _ _ (fun i' j' hi' hj' => by
            by_cases e1 : i' = c ∧ j' = m
            · obtain ⟨rfl, rfl⟩ := e1; simp [M1, Pol.start, hlm]
            · simp only [e1, if_false]; unfold M1; congr 1; simp only [eq_iff_iff]; omega)
          have cb := M2.old hb1 (H1.out c hlt)
          have HX : Hid (((ns c : Nat) : Int) = ((gx ns c).toNat : Int)) := by
            unfold Hid gx; rw [toNat_g (by have := HN.out c hlt; omega)]
          have HP : Hid (pw (gx ns c) (m + 1) = fm (pw (gx ns c) m) (gx ns c)) := rfl
          clear hM
          go_wp2_with fail
          refine (prod_g (pw (gx ns c) m) (gx ns c) _ _ _ rfl HX.out).mono ?_
          rintro e w' ⟨rfl, q, rfl⟩
          have M3 := M2.drewN q
          clear M2 cb rc cc cf
          go_wp2
          go_roundw
          case rel => exact ⟨m + 1, by omega, by go_num, by rw [HP.out], M3⟩
          case measure => simp [intOf]; omega
        · have e : m = k := by omega
          subst e
          have rc := hM.rowCell c (by omega) hlt
          have cc := hM.cell c m (by omega) (by omega)
          have cf := (hM.row c (by omega)).frozen m
          have cb := hM.old hb2 (H2.out c hlt)
          have M2 : Mat w (wr.setCell ⟨N + 1 + c, m, none⟩ (.int .i64 (vs c).toNat)) N m (c + 1) (Pol.start m (gx ns) vs) := mat_set hM c m (by omega) _ _ (fun i' j' hi' hj' => by
            by_cases e1 : i' = c ∧ j' = m
            · obtain ⟨rfl, rfl⟩ := e1; simp [Pol.start]
            · simp only [e1, if_false]; unfold M1; rw [if_pos (by omega)])
          clear hM
          go_wp2
          go_region
          go_wp2
          go_roundw
          case rel => exact ⟨c + 1, by omega, by go_num, M2.drew⟩
          case measure => simp [intOf]; omega
    · have e : c = k := by omega
      subst e
      clear hmk1 hsz
      go_wp2
      go_loopw [10] (fun j wr => ∃ m : Nat, m ≤ c ∧ j = .int .i64 m ∧ Mat w wr N c c (gauss c (gx ns) vs m)) (fun j _ => c - (intOf j).toNat)
      case atStart => exact ⟨0, by omega, rfl, hM⟩
      case round =>
        clear hM
        obtain ⟨m, hm, rfl, hM⟩ := hrel
        by_cases hlm : m < c
        · clear hmk2
          have hpv : gauss c (gx ns) vs m m m ≠ 0 := Pol.pivot HAP.out (Pol.steps HAP.out m hm) hlm
          have HPV : Hid (gauss c (gx ns) vs m m m ≠ 0) := hpv
          have rc := hM.rowCell m hlm hlm
          have cc := hM.cell m m hlm hm
          have tst : (((gauss c (gx ns) vs m m m).toNat : Int) == 0) = false := beq_eq_false_iff_ne.2 (fun e => hpv (Pol.ext (by simpa using e)))
          clear hpv
          go_wp2
          go_loopw [11] (fun l w2 => l = .int .i64 m ∧ w2 = wr) (fun _ _ => 0)
          case atStart => exact ⟨rfl, rfl⟩
          case round =>
            obtain ⟨rfl, hww⟩ := hrel
            subst hww
            have rf := hM.rows.frozen m
            have M2 := hM.again m hlm
            have rc2 := M2.rowCell m hlm hlm
            have cc2 := M2.cell m m hlm hm
            go_wp2_with fail
            refine (rinv_g (gauss c (gx ns) vs m m m) _ HPV.out).mono ?_
            rintro e w' ⟨rfl, q, rfl⟩
            have M3 := M2.drewN q
            clear M2 rc2 cc2 rf rc cc tst hM
            go_wp2
            go_loopw [14] (fun i wr => ∃ p : Nat, p ≤ c + 1 ∧ i = .int .i64 p ∧ Mat w wr N c c (M5 (gauss c (gx ns) vs m) m p)) (fun i _ => c + 1 - (intOf i).toNat)
            case atStart => exact ⟨0, by omega, rfl, M3.congr (fun i j _ _ => by simp [M5])⟩
            case round =>
              clear M3
              obtain ⟨p, hp, rfl, hM⟩ := hrel
              by_cases hlp : p ≤ c
              · have cc := hM.cell m p hlm hlp
                have cf := (hM.row m hlm).frozen p
                have e5 : M5 (gauss c (gx ns) vs m) m p m p = gauss c (gx ns) vs m m p := by simp [M5]
                rw [e5] at cc
                clear e5
                go_wp2_with fail
                refine (prod_g (gauss c (gx ns) vs m m p) (fi (gauss c (gx ns) vs m m m)) _ _ _ rfl rfl).mono ?_
                rintro e w' ⟨rfl, q, rfl⟩
                have M4 : Mat w ((wr.drewN q).setCell ⟨N + 1 + m, p, none⟩ (.int .i64 (fm (gauss c (gx ns) vs m m p) (fi (gauss c (gx ns) vs m m m))).toNat)) N c c (M5 (gauss c (gx ns) vs m) m (p + 1)) := mat_set (hM.drewN q) m p hlm _ _ (fun i' j' _ _ => by
                  by_cases e1 : i' = m ∧ j' = p
                  · obtain ⟨rfl, rfl⟩ := e1; simp [M5]
                  · simp only [e1, if_false]; unfold M5; congr 1; simp only [eq_iff_iff]; omega)
                clear hM
                go_wp2
                go_roundw
                case rel => exact ⟨p + 1, by omega, by go_num, M4⟩
                case measure => simp [intOf]; omega
              · have e : p = c + 1 := by omega
                subst e
                have rf := hM.rows.frozen m
                have rc := hM.rowCell m hlm hlm
                have M4 := (hM.again m hlm).congr (M' := M6 (gauss c (gx ns) vs m) m 0 0) (fun i j _ hj => by
                  unfold M5 M6 gstep
                  by_cases e : i = m
                  · subst e; simp [show j < c + 1 by omega]
                  · simp [e])
                clear hM
                go_wp2
                go_loopw [15] (fun i wr => ∃ r : Nat, r ≤ c ∧ i = .int .i64 r ∧ Mat w wr N c c (M6 (gauss c (gx ns) vs m) m r 0)) (fun i _ => c - (intOf i).toNat)
                case atStart => exact ⟨0, by omega, rfl, M4⟩
                case round =>
                  clear M4 rf rc
                  obtain ⟨r, hr, rfl, hM⟩ := hrel
                  by_cases hlr : r < c
                  · have rc := hM.rowCell r hlr hlr
                    have cc := hM.cell r m hlr hm
                    by_cases hrm : r = m
                    · have tst : ((r : Int) != (m : Int)) = false := by simp [hrm]
                      have HRM : Hid (r = m) := hrm
                      clear hrm
                      go_wp2
                      go_loopw [17] (fun i w2 => i = .int .i64 0 ∧ w2 = wr) (fun _ _ => 0)
                      case atStart => exact ⟨rfl, rfl⟩
                      case round =>
                        obtain ⟨rfl, hww⟩ := hrel
                        subst hww
                        go_wp2
                        go_roundw
                        case rel => exact ⟨r + 1, by omega, by go_num, hM.congr (fun i j _ _ => by have := HRM.out; unfold M6; congr 1; simp only [eq_iff_iff]; omega)⟩
                        case measure => simp [intOf]; omega
                    · have tst : ((r : Int) != (m : Int)) = true := by simp; omega
                      rw [M6_col _ _ _ hrm] at cc
                      have HRM : Hid (r ≠ m) := hrm
                      clear hrm
                      go_wp2
                      go_loopw [17] (fun i wr => ∃ q : Nat, q ≤ c + 1 ∧ i = .int .i64 q ∧ Mat w wr N c c (M6 (gauss c (gx ns) vs m) m r q)) (fun i _ => c + 1 - (intOf i).toNat)
                      case atStart => exact ⟨0, by omega, rfl, hM⟩
                      case round =>
                        clear hM rc cc
                        obtain ⟨q, hq, rfl, hM⟩ := hrel
                        by_cases hlq : q ≤ c
                        · have rc := hM.rowCell r hlr hlr
                          have cp := hM.cell m q hlm hlq
                          rw [M6_self] at cp
                          have cc := hM.cell r q hlr hlq
                          rw [M6_next _ _ _ _ HRM.out] at cc
                          have cf := (hM.row r hlr).frozen q
                          have hx := gxor (gauss c (gx ns) vs m r q) (fm (gauss c (gx ns) vs m r m) (fm (gauss c (gx ns) vs m m q) (fi (gauss c (gx ns) vs m m m))))
                          have HX := hx
                          clear hx
                          go_wp2_with fail
                          refine (prod_g (gauss c (gx ns) vs m r m) (fm (gauss c (gx ns) vs m m q) (fi (gauss c (gx ns) vs m m m))) _ _ _ rfl rfl).mono ?_
                          rintro e w' ⟨rfl, n, rfl⟩
                          have M4 : Mat w ((wr.drewN n).setCell ⟨N + 1 + r, q, none⟩ (.int .i64 (gauss c (gx ns) vs m r q ^^^ fm (gauss c (gx ns) vs m r m) (fm (gauss c (gx ns) vs m m q) (fi (gauss c (gx ns) vs m m m)))).toNat)) N c c (M6 (gauss c (gx ns) vs m) m r (q + 1)) := mat_set (hM.drewN n) r q hlr _ _ (fun i' j' _ _ => by
                            have hne := HRM.out
                            by_cases e1 : i' = r ∧ j' = q
                            · obtain ⟨rfl, rfl⟩ := e1; simp [M6, gstep, hne]
                            · simp only [e1, if_false]; unfold M6; congr 1; simp only [eq_iff_iff]; omega)
                          clear hM
                          go_wp2
                          go_region
                          go_wp2
                          go_roundw
                          case rel => first | exact ⟨q + 1, by omega, by go_num, M4.drew⟩ | ((repeat apply Exists.intro); exact ⟨⟨q + 1, by omega, by go_num, M4.drew⟩, rfl⟩)
                          case measure => simp [intOf]; omega
                        · have e : q = c + 1 := by omega
                          subst e
                          go_wp2
                          go_roundw
                          case rel => exact ⟨r + 1, by omega, by go_num, hM.congr (fun i j _ _ => by unfold M6; congr 1; simp only [eq_iff_iff]; omega)⟩
                          case measure => simp [intOf]; omega
                  · have e : r = c := by omega
                    subst e
                    have MG := hM.congr (M' := gauss r (gx ns) vs (m + 1)) (fun i j hi _ => by
                      show M6 (gauss r (gx ns) vs m) m r 0 i j = gstep m (gauss r (gx ns) vs m) i j
                      unfold M6; rw [if_pos (by omega)])
                    clear hM
                    go_wp2
                    go_roundw
                    case rel => exact ⟨m + 1, by omega, by go_num, MG⟩
                    case measure => simp [intOf]; omega
        · have e : m = c := by omega
          subst e
          have MF := Fin8.start hM
          have hsz := hM.size
          clear hM
          go_wp2
          go_loopw [20] (fun i wr => ∃ r : Nat, r ≤ m ∧ i = .int .i64 r ∧ Fin8 w wr N m (gauss m (gx ns) vs m) r) (fun i _ => m - (intOf i).toNat)
          case atStart => exact ⟨0, by omega, rfl, MF⟩
          case round =>
            clear MF hsz hmk2
            obtain ⟨r, hr, rfl, hF⟩ := hrel
            by_cases hlr : r < m
            · have rc := hF.rows.cell hlr
              simp only [hlr, if_true] at rc
              have cc : wr.cell? ⟨N + 1 + r, m, none⟩ = some (.int .i64 (gauss m (gx ns) vs m r m).toNat) := (hF.row r hlr).cell (by omega)
              have oc := hF.out.cell hlr
              simp only [Nat.lt_irrefl, if_false] at oc
              have of := hF.out.frozen r
              have MF := hF.step
              clear hF
              go_wp2
              go_roundw
              case rel => exact ⟨r + 1, by omega, by go_num, MF⟩
              case measure => simp [intOf]; omega
            · have e : r = m := by omega
              subst e
              go_wp2
              go_ret
              exact ⟨N + 1 + r, rfl, by omega, hF.out.lt, fun i hi => by rw [hF.out.cell hi]; simp [hi, iv, factor], hF.below⟩
end Cod
end Go.Proofs.YtkgnmcekeeannaaGreat
