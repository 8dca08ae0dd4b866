import Derived.Test.YtbllidodcbjakaaZ18
import Derived.Deep.RegionHeld3
namespace Go.Proofs.Ytbllidodcbjakaa
open Go.RowKit Go.Deep
namespace Ms
open Bs
set_option linter.unusedVariables false

theorem data_text (l s : List UInt8) : ((⟨#[68]⟩ : ByteArray) ++ (⟨l.toArray⟩ : ByteArray)) ++ (⟨s.toArray⟩ : ByteArray) = ⟨((68 :: l) ++ s).toArray⟩ := by
  rw [show (⟨#[68]⟩ : ByteArray) = ⟨([68] : List UInt8).toArray⟩ from rfl, ByteArray.mk_append_mk, ByteArray.mk_append_mk]; rfl
def five (a b c d e : Int) (i : Nat) : Int := ([a, b, c, d, e] : List Int).getD i 0

set_option maxRecDepth 100000 in
set_option maxHeartbeats 4000000 in
theorem body_data (ob bl nu le : Int) (sy : ByteArray) (ao : Option Addr) (n cap : Nat) (os : Int) (w : World) (hn : n ≤ maxLen) (hs : sy.size ≤ maxLen) (hf : DataFits ob bl nu le sy) (h0 : n = 0) (hos : os = 0) :
    Calls Try.prog 48 #[mV 1 ob bl nu le sy ao n cap os] w fun e w' => e = .returned (.tuple #[.string ⟨((68 :: [u8w ob, u8w bl, u8w nu, u8w (le / 256), u8w (le % 256)]) ++ sy.data.toList).toArray⟩, .bool true]) ∧ Below w.heap.size w w' := by
  subst h0 hos
  unfold maxLen at hn hs
  obtain ⟨nd, hnd⟩ : ∃ nd : Bool, nd = true ↔ NoData ob bl nu le sy := (Classical.em (NoData ob bl nu le sy)).elim (fun h => ⟨true, by simp [h]⟩) (fun h => ⟨false, by simp [h]⟩)
  have HND : Hid (nd = true ↔ NoData ob bl nu le sy) := hnd
  clear hnd
  have HF : Hid (DataFits ob bl nu le sy) := hf
  clear hf
  go_enter Try.func48, Try.ntmps48
  go_upto_region 1 with fail
  go_cut [4] (fun x wx => x = .bool nd ∧ wx = w.alloc (mBox 1 ob bl nu le sy ao 0 cap 0))
  case first =>
    obtain ⟨B1, e1⟩ : ∃ B, (ob == 0) = B := ⟨_, rfl⟩
    obtain ⟨B2, e2⟩ : ∃ B, (bl == 0) = B := ⟨_, rfl⟩
    obtain ⟨B3, e3⟩ : ∃ B, (nu == 0) = B := ⟨_, rfl⟩
    obtain ⟨B4, e4⟩ : ∃ B, (le == 0) = B := ⟨_, rfl⟩
    obtain ⟨B5, e5⟩ : ∃ B, sy.toList.isEmpty = B := ⟨_, rfl⟩
    have HX : Hid (nd = (B1 && B2 && B3 && B4 && B5)) := by
      unfold Hid
      have h := HND.out
      unfold NoData at h
      rw [Bool.eq_iff_iff, h, ← e1, ← e2, ← e3, ← e4, ← e5, size_isEmpty]
      simp [and_assoc]
    go_wp2
    all_goals go_meet
    all_goals exact ⟨congrArg Value.bool (by rw [HX.out]; simp [*]), rfl⟩
  case rest =>
    obtain ⟨rfl, rfl⟩ := hcut
    go_wp2_with fail
    have HW := within_any 5 (w.heap.size + 1) 5 (w.heap.size + 2) 5 (five ob bl nu le sy.size) (five 7 255 15 256 16) (((w.alloc (mBox 1 ob bl nu le sy ao 0 cap 0)).alloc (.cells #[.int .i64 ob, .int .i64 bl, .int .i64 nu, .int .i64 le, .int .i64 sy.size] 3)).alloc (.cells #[.int .i64 7, .int .i64 255, .int .i64 15, .int .i64 256, .int .i64 16] 3)) (by decide)
      (fun i hi => by
        match i, hi with
        | 0, _ => exact cell_old (by simp) (cell_new (by simp) rfl)
        | 1, _ => exact cell_old (by simp) (cell_new (by simp) rfl)
        | 2, _ => exact cell_old (by simp) (cell_new (by simp) rfl)
        | 3, _ => exact cell_old (by simp) (cell_new (by simp) rfl)
        | 4, _ => exact cell_old (by simp) (cell_new (by simp) rfl))
      (fun i hi => by
        match i, hi with
        | 0, _ => exact cell_new (by simp) rfl
        | 1, _ => exact cell_new (by simp) rfl
        | 2, _ => exact cell_new (by simp) rfl
        | 3, _ => exact cell_new (by simp) rfl
        | 4, _ => exact cell_new (by simp) rfl)
    refine HW.mono ?_
    rintro e w1 ⟨⟨r, rfl, hr⟩, q, rfl⟩
    clear HW
    obtain rfl : r = true := hr.2 (fun i hi => by
      have h := HF.out
      unfold DataFits at h
      match i, hi with
      | 0, _ => simp [five]; omega
      | 1, _ => simp [five]; omega
      | 2, _ => simp [five]; omega
      | 3, _ => simp [five]; omega
      | 4, _ => simp [five]; omega)
    clear hr
    have B1 : Below w.heap.size w ((((w.alloc (mBox 1 ob bl nu le sy ao 0 cap 0)).alloc (.cells #[.int .i64 ob, .int .i64 bl, .int .i64 nu, .int .i64 le, .int .i64 sy.size] 3)).alloc (.cells #[.int .i64 7, .int .i64 255, .int .i64 15, .int .i64 256, .int .i64 16] 3)).drewN q) :=
      below_drewN ((((Below.refl _ _).alloc (Nat.le_refl _) _).alloc (by simp) _).alloc (by simp; omega) _) q
    have c1 : ((((w.alloc (mBox 1 ob bl nu le sy ao 0 cap 0)).alloc (.cells #[.int .i64 ob, .int .i64 bl, .int .i64 nu, .int .i64 le, .int .i64 sy.size] 3)).alloc (.cells #[.int .i64 7, .int .i64 255, .int .i64 15, .int .i64 256, .int .i64 16] 3)).drewN q).heap.size = w.heap.size + 1 + 1 + 1 := by simp
    have bx : ∀ j v, (#[Value.int .i64 1, .int .i64 ob, .int .i64 bl, .int .i64 nu, .int .i64 le, .string sy, .slice ao 0 cap, .int .i64 0] : Array Value)[j]? = some v → ((((w.alloc (mBox 1 ob bl nu le sy ao 0 cap 0)).alloc (.cells #[.int .i64 ob, .int .i64 bl, .int .i64 nu, .int .i64 le, .int .i64 sy.size] 3)).alloc (.cells #[.int .i64 7, .int .i64 255, .int .i64 15, .int .i64 256, .int .i64 16] 3)).drewN q).cell? ⟨w.heap.size, j, none⟩ = some v :=
      fun j v hv => cell_drawn (cell_old (by simp; omega) (cell_old (by simp) (cell_new rfl hv)))
    generalize (((w.alloc (mBox 1 ob bl nu le sy ao 0 cap 0)).alloc (.cells #[.int .i64 ob, .int .i64 bl, .int .i64 nu, .int .i64 le, .int .i64 sy.size] 3)).alloc (.cells #[.int .i64 7, .int .i64 255, .int .i64 15, .int .i64 256, .int .i64 16] 3)).drewN q = W at *
    have d1 : W.cell? ⟨w.heap.size, 1, none⟩ = some (.int .i64 ob) := bx 1 _ rfl
    have d2 : W.cell? ⟨w.heap.size, 2, none⟩ = some (.int .i64 bl) := bx 2 _ rfl
    have d3 : W.cell? ⟨w.heap.size, 3, none⟩ = some (.int .i64 nu) := bx 3 _ rfl
    have d4 : W.cell? ⟨w.heap.size, 4, none⟩ = some (.int .i64 le) := bx 4 _ rfl
    have d5 : W.cell? ⟨w.heap.size, 5, none⟩ = some (.string sy) := bx 5 _ rfl
    have d7 : W.cell? ⟨w.heap.size, 7, none⟩ = some (.int .i64 0) := bx 7 _ rfl
    have HFF := HF.out
    unfold DataFits at HFF
    have t1 : (le == 0) = false := beq_eq_false_iff_ne.2 (by omega)
    have t2 : sy.toList.isEmpty = false := by rw [size_isEmpty]; exact decide_eq_false (by omega)
    have l1 : 0 ≤ le := by omega
    have l2 : le ≤ 256 := by omega
    clear HFF bx
    have l3 : sy.size ≤ 16 := by have := HF.out; unfold DataFits at this; omega
    go_wp2_with fail
    have HL : Calls Try.prog 49 #[.slice (some ⟨w.heap.size + 1 + 1 + 1, 0, none⟩) 5 5] (W.alloc (.cells #[.int .i64 ob, .int .i64 bl, .int .i64 nu, .int .i64 (IntKind.i64.wrap (le.tdiv 256)), .int .i64 (le.tmod 256)] 3)).drew fun e w' => e = .returned (.string ⟨([u8w ob, u8w bl, u8w nu, u8w (le / 256), u8w (le % 256)] : List UInt8).toArray⟩) ∧ Below w.heap.size w w' ∧ w'.cell? ⟨w.heap.size, 1, none⟩ = some (.int .i64 ob) ∧ w'.cell? ⟨w.heap.size, 2, none⟩ = some (.int .i64 bl) ∧ w'.cell? ⟨w.heap.size, 3, none⟩ = some (.int .i64 nu) ∧ w'.cell? ⟨w.heap.size, 4, none⟩ = some (.int .i64 le) ∧ w'.cell? ⟨w.heap.size, 5, none⟩ = some (.string sy) := by
      have e1 : IntKind.i64.wrap (le.tdiv 256) = le / 256 := by rw [Int.tdiv_eq_ediv_of_nonneg l1]; exact IntWalk.i64_in _ ⟨by omega, by omega⟩
      have e2 : le.tmod 256 = le % 256 := Int.tmod_eq_emod_of_nonneg l1
      rw [e1, e2]
      have hB2 : Below w.heap.size w (W.alloc (.cells #[.int .i64 ob, .int .i64 bl, .int .i64 nu, .int .i64 (le / 256), .int .i64 (le % 256)] 3)).drew := (B1.alloc (by omega) _).drew
      refine (letters_any [ob, bl, nu, le / 256, le % 256] (w.heap.size + 1 + 1 + 1) 5 _ (by simp) (by simp; omega) (fun i hi => ?_)).mono ?_
      · match i, hi with
        | 0, _ => exact cell_new (by omega) rfl
        | 1, _ => exact cell_new (by omega) rfl
        | 2, _ => exact cell_new (by omega) rfl
        | 3, _ => exact cell_new (by omega) rfl
        | 4, _ => exact cell_new (by omega) rfl
      · rintro e w3 ⟨rfl, hb3⟩
        have kp : ∀ j v, W.cell? ⟨w.heap.size, j, none⟩ = some v → w3.cell? ⟨w.heap.size, j, none⟩ = some v := fun j v hv =>
          (hb3.cell (p := ⟨w.heap.size, j, none⟩) (by simp; omega)).trans (cell_old (by omega) hv)
        exact ⟨rfl, hB2.trans (hb3.mono (by simp; omega)), kp 1 _ d1, kp 2 _ d2, kp 3 _ d3, kp 4 _ d4, kp 5 _ d5⟩
    have HTX : Hid (((⟨#[68]⟩ : ByteArray) ++ (⟨([u8w ob, u8w bl, u8w nu, u8w (le / 256), u8w (le % 256)] : List UInt8).toArray⟩ : ByteArray)) ++ sy = ⟨((68 :: [u8w ob, u8w bl, u8w nu, u8w (le / 256), u8w (le % 256)]) ++ sy.data.toList).toArray⟩) := by
      unfold Hid
      rw [← data_text, Lib.mk_data]
    have z5 : (⟨([u8w ob, u8w bl, u8w nu, u8w (le / 256), u8w (le % 256)] : List UInt8).toArray⟩ : ByteArray).size = 5 := rfl
    generalize (⟨([u8w ob, u8w bl, u8w nu, u8w (le / 256), u8w (le % 256)] : List UInt8).toArray⟩ : ByteArray) = S5 at *
    have z68 : (⟨#[68]⟩ : ByteArray).size = 1 := rfl
    have ha1 : ∀ W', (Op.stringOp .add ⟨#[68]⟩ S5).run Try.prog W' = .ok (.string (⟨#[68]⟩ ++ S5)) W' := fun W' => run_string_add_sum W' _ _ (by omega)
    have zs : ((⟨#[68]⟩ : ByteArray) ++ S5).size = 6 := by rw [ByteArray.size_append]; omega
    have ha2 : ∀ W', (Op.stringOp .add (⟨#[68]⟩ ++ S5) sy).run Try.prog W' = .ok (.string (⟨#[68]⟩ ++ S5 ++ sy)) W' := fun W' => run_string_add_sum W' _ _ (by omega)
    clear z5 z68 zs
    go_region_held3 (fun w' => w'.cell? ⟨w.heap.size, 1, none⟩ = some (.int .i64 ob) ∧ w'.cell? ⟨w.heap.size, 2, none⟩ = some (.int .i64 bl) ∧ w'.cell? ⟨w.heap.size, 3, none⟩ = some (.int .i64 nu) ∧ w'.cell? ⟨w.heap.size, 4, none⟩ = some (.int .i64 le) ∧ w'.cell? ⟨w.heap.size, 5, none⟩ = some (.string sy)) (go_keep)
      (first | (go_at_call 49; refine HL.mono ?_; rintro e w3 ⟨rfl, hb3, k1, k2, k3, k4, k5⟩))
    all_goals
      go_wp2
      go_ret2
      exact ⟨by rw [HTX.out]; rfl, hb3⟩
end Ms
end Go.Proofs.Ytbllidodcbjakaa
namespace Go.Proofs.Ytbllidodcbjakaa
open Go.RowKit Go.Deep
namespace Ms
open Bs
set_option linter.unusedVariables false

set_option maxRecDepth 100000 in
set_option maxHeartbeats 4000000 in
theorem body_data_no (ob bl nu le : Int) (sy : ByteArray) (ao : Option Addr) (n cap : Nat) (os : Int) (w : World) (hn : n ≤ maxLen) (hs : sy.size ≤ maxLen) (hf : ¬ (DataFits ob bl nu le sy ∧ n = 0 ∧ os = 0)) :
    Calls Try.prog 48 #[mV 1 ob bl nu le sy ao n cap os] w fun e w' => (∃ s : ByteArray, e = .returned (.tuple #[.string s, .bool false])) ∧ Below w.heap.size w w' := by
  unfold maxLen at hn hs
  obtain ⟨nd, hnd⟩ : ∃ nd : Bool, nd = true ↔ NoData ob bl nu le sy := (Classical.em (NoData ob bl nu le sy)).elim (fun h => ⟨true, by simp [h]⟩) (fun h => ⟨false, by simp [h]⟩)
  have HND : Hid (nd = true ↔ NoData ob bl nu le sy) := hnd
  clear hnd
  have HF : Hid (¬ (DataFits ob bl nu le sy ∧ n = 0 ∧ os = 0)) := hf
  clear hf
  go_enter Try.func48, Try.ntmps48
  go_upto_region 1 with fail
  go_cut [4] (fun x wx => x = .bool nd ∧ wx = w.alloc (mBox 1 ob bl nu le sy ao n cap os))
  case first =>
    obtain ⟨B1, e1⟩ : ∃ B, (ob == 0) = B := ⟨_, rfl⟩
    obtain ⟨B2, e2⟩ : ∃ B, (bl == 0) = B := ⟨_, rfl⟩
    obtain ⟨B3, e3⟩ : ∃ B, (nu == 0) = B := ⟨_, rfl⟩
    obtain ⟨B4, e4⟩ : ∃ B, (le == 0) = B := ⟨_, rfl⟩
    obtain ⟨B5, e5⟩ : ∃ B, sy.toList.isEmpty = B := ⟨_, rfl⟩
    have HX : Hid (nd = (B1 && B2 && B3 && B4 && B5)) := by
      unfold Hid
      have h := HND.out
      unfold NoData at h
      rw [Bool.eq_iff_iff, h, ← e1, ← e2, ← e3, ← e4, ← e5, size_isEmpty]
      simp [and_assoc]
    go_wp2
    all_goals go_meet
    all_goals exact ⟨congrArg Value.bool (by rw [HX.out]; simp [*]), rfl⟩
  case rest =>
    obtain ⟨rfl, rfl⟩ := hcut
    go_wp2_with fail
    have HW := within_any 5 (w.heap.size + 1) 5 (w.heap.size + 2) 5 (five ob bl nu le sy.size) (five 7 255 15 256 16) (((w.alloc (mBox 1 ob bl nu le sy ao n cap os)).alloc (.cells #[.int .i64 ob, .int .i64 bl, .int .i64 nu, .int .i64 le, .int .i64 sy.size] 3)).alloc (.cells #[.int .i64 7, .int .i64 255, .int .i64 15, .int .i64 256, .int .i64 16] 3)) (by decide)
      (fun i hi => by
        match i, hi with
        | 0, _ => exact cell_old (by simp) (cell_new (by simp) rfl)
        | 1, _ => exact cell_old (by simp) (cell_new (by simp) rfl)
        | 2, _ => exact cell_old (by simp) (cell_new (by simp) rfl)
        | 3, _ => exact cell_old (by simp) (cell_new (by simp) rfl)
        | 4, _ => exact cell_old (by simp) (cell_new (by simp) rfl))
      (fun i hi => by
        match i, hi with
        | 0, _ => exact cell_new (by simp) rfl
        | 1, _ => exact cell_new (by simp) rfl
        | 2, _ => exact cell_new (by simp) rfl
        | 3, _ => exact cell_new (by simp) rfl
        | 4, _ => exact cell_new (by simp) rfl)
    refine HW.mono ?_
    rintro e w1 ⟨⟨r, rfl, hr⟩, q, rfl⟩
    clear HW
    have HR : Hid (r = true ↔ Within 5 (five ob bl nu le sy.size) (five 7 255 15 256 16)) := hr
    clear hr
    have B1 : Below w.heap.size w ((((w.alloc (mBox 1 ob bl nu le sy ao n cap os)).alloc (.cells #[.int .i64 ob, .int .i64 bl, .int .i64 nu, .int .i64 le, .int .i64 sy.size] 3)).alloc (.cells #[.int .i64 7, .int .i64 255, .int .i64 15, .int .i64 256, .int .i64 16] 3)).drewN q) :=
      below_drewN ((((Below.refl _ _).alloc (Nat.le_refl _) _).alloc (by simp) _).alloc (by simp; omega) _) q
    have c1 : ((((w.alloc (mBox 1 ob bl nu le sy ao n cap os)).alloc (.cells #[.int .i64 ob, .int .i64 bl, .int .i64 nu, .int .i64 le, .int .i64 sy.size] 3)).alloc (.cells #[.int .i64 7, .int .i64 255, .int .i64 15, .int .i64 256, .int .i64 16] 3)).drewN q).heap.size = w.heap.size + 1 + 1 + 1 := by simp
    have bx : ∀ j v, (#[Value.int .i64 1, .int .i64 ob, .int .i64 bl, .int .i64 nu, .int .i64 le, .string sy, .slice ao n cap, .int .i64 os] : Array Value)[j]? = some v → ((((w.alloc (mBox 1 ob bl nu le sy ao n cap os)).alloc (.cells #[.int .i64 ob, .int .i64 bl, .int .i64 nu, .int .i64 le, .int .i64 sy.size] 3)).alloc (.cells #[.int .i64 7, .int .i64 255, .int .i64 15, .int .i64 256, .int .i64 16] 3)).drewN q).cell? ⟨w.heap.size, j, none⟩ = some v :=
      fun j v hv => cell_drawn (cell_old (by simp; omega) (cell_old (by simp) (cell_new rfl hv)))
    generalize (((w.alloc (mBox 1 ob bl nu le sy ao n cap os)).alloc (.cells #[.int .i64 ob, .int .i64 bl, .int .i64 nu, .int .i64 le, .int .i64 sy.size] 3)).alloc (.cells #[.int .i64 7, .int .i64 255, .int .i64 15, .int .i64 256, .int .i64 16] 3)).drewN q = W at *
    have d4 : W.cell? ⟨w.heap.size, 4, none⟩ = some (.int .i64 le) := bx 4 _ rfl
    have d5 : W.cell? ⟨w.heap.size, 5, none⟩ = some (.string sy) := bx 5 _ rfl
    have d7 : W.cell? ⟨w.heap.size, 7, none⟩ = some (.int .i64 os) := bx 7 _ rfl
    clear bx
    cases r with
    | false =>
      go_wp2
      go_ret2
      exact ⟨⟨_, rfl⟩, B1⟩
    | true =>
      have hw := HR.out.1 rfl
      have f0 := hw 0 (by decide)
      have f1 := hw 1 (by decide)
      have f2 := hw 2 (by decide)
      have f3 := hw 3 (by decide)
      have f4 := hw 4 (by decide)
      simp only [five, List.getD_cons_zero, List.getD_cons_succ] at f0 f1 f2 f3 f4
      have HFF : Hid (¬ (le ≠ 0 ∧ sy.size ≠ 0 ∧ n = 0 ∧ os = 0)) := fun h => HF.out ⟨by unfold DataFits; omega, h.2.2.1, h.2.2.2⟩
      clear hw f0 f1 f2 f3 f4
      by_cases g1 : le = 0
      · have t1 : (le == 0) = true := by simp [g1]
        clear g1
        go_wp2
        go_ret2
        exact ⟨⟨_, rfl⟩, B1⟩
      · have t1 : (le == 0) = false := by simp [g1]
        by_cases g2 : sy.size = 0
        · have t2 : sy.toList.isEmpty = true := by rw [size_isEmpty]; simpa using g2
          clear g1 g2
          go_wp2
          go_ret2
          exact ⟨⟨_, rfl⟩, B1⟩
        · have t2 : sy.toList.isEmpty = false := by rw [size_isEmpty]; exact decide_eq_false g2
          by_cases g3 : n = 0
          · have t3 : ((n : Int) == 0) = true := by simp [g3]
            have t4 : (os != 0) = true := by
              rw [bne_iff_ne]; exact fun g4 => HFF.out ⟨g1, g2, g3, g4⟩
            clear g1 g2 g3
            go_wp2
            go_ret2
            exact ⟨⟨_, rfl⟩, B1⟩
          · have t3 : ((n : Int) == 0) = false := by simp [g3]
            clear g1 g2 g3
            go_wp2
            go_ret2
            exact ⟨⟨_, rfl⟩, B1⟩
end Ms
end Go.Proofs.Ytbllidodcbjakaa
