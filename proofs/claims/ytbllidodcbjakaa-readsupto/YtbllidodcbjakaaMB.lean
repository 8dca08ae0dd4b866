import Derived.Test.YtbllidodcbjakaaMx
import Derived.Test.YtbllidodcbjakaaMA
namespace Go.Proofs.Ytbllidodcbjakaa
open Go.RowKit Go.Deep
namespace Ms
open Bs
set_option linter.unusedVariables false

theorem end_text (x : UInt8) : (⟨#[69]⟩ : ByteArray) ++ (⟨([x] : List UInt8).toArray⟩ : ByteArray) = ⟨([69, x] : List UInt8).toArray⟩ := by
  rw [show (⟨#[69]⟩ : ByteArray) = ⟨([69] : List UInt8).toArray⟩ from rfl, ByteArray.mk_append_mk]; rfl

set_option maxRecDepth 100000 in
set_option maxHeartbeats 4000000 in
theorem body_other (kd ob bl nu le : Int) (sy : ByteArray) (ao : Option Addr) (n cap : Nat) (os : Int) (w : World) (hn : n ≤ maxLen) (hs : sy.size ≤ maxLen) (hk : kd ≠ 1 ∧ kd ≠ 2 ∧ kd ≠ 3) :
    Calls Try.prog 48 #[mV kd ob bl nu le sy ao n cap os] w fun e w' => (∃ s : ByteArray, e = .returned (.tuple #[.string s, .bool false])) ∧ Below w.heap.size w w' := by
  unfold maxLen at hn hs
  obtain ⟨nd, hnd⟩ : ∃ nd : Bool, nd = true ↔ NoData ob bl nu le sy := (Classical.em (NoData ob bl nu le sy)).elim (fun h => ⟨true, by simp [h]⟩) (fun h => ⟨false, by simp [h]⟩)
  have HND : Hid (nd = true ↔ NoData ob bl nu le sy) := hnd
  clear hnd
  have k1 : (kd == 1) = false := by simp [hk.1]
  have k2 : (kd == 2) = false := by simp [hk.2.1]
  have k3 : (kd == 3) = false := by simp [hk.2.2]
  clear hk
  go_enter Try.func48, Try.ntmps48
  go_upto_region 1 with fail
  go_cut [4] (fun x wx => x = .bool nd ∧ wx = w.alloc (mBox kd ob bl nu le sy ao n cap os))
  case first =>
    clear k1 k2 k3
    obtain ⟨B1, e1⟩ : ∃ B, (ob == 0) = B := ⟨_, rfl⟩
    obtain ⟨B2, e2⟩ : ∃ B, (bl == 0) = B := ⟨_, rfl⟩
    obtain ⟨B3, e3⟩ : ∃ B, (nu == 0) = B := ⟨_, rfl⟩
    obtain ⟨B4, e4⟩ : ∃ B, (le == 0) = B := ⟨_, rfl⟩
    obtain ⟨B5, e5⟩ : ∃ B, sy.toList.isEmpty = B := ⟨_, rfl⟩
    have HX : Hid (nd = (B1 && B2 && B3 && B4 && B5)) := by
      unfold Hid
      have h := HND.out
      unfold NoData at h
      rw [Bool.eq_iff_iff, h, ← e1, ← e2, ← e3, ← e4, ← e5, size_isEmpty]
      simp [and_assoc]
    go_wp2
    all_goals go_meet
    all_goals exact ⟨congrArg Value.bool (by rw [HX.out]; simp [*]), rfl⟩
  case rest =>
    obtain ⟨rfl, rfl⟩ := hcut
    go_wp2
    go_ret2
    exact ⟨⟨_, rfl⟩, (Below.refl _ _).alloc (Nat.le_refl _) _⟩

end Ms
end Go.Proofs.Ytbllidodcbjakaa
