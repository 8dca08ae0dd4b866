import Derived.Test.YtkgnmcekeeannaaWP
namespace Go.Proofs.Ytkgnmcekeeannaa
open Go.RowKit Go.Deep
namespace Kp
open Pol (G fm fi lag)
open Cod (bv byteAt byteAt_eq flat flat_get flat_length symF conv_row infoByte infoInt vals vals_succ vals_length vals_get iv ints ints_succ ints_vals one_news below_append Lies)
open Fld (ret_int val_int)

def xorL (a b : ByteArray) : List G := (List.range a.size).map (fun i => byteAt a i ^^^ byteAt b i)
theorem xorL_length (a b : ByteArray) : (xorL a b).length = a.size := by simp [xorL]
theorem xorL_get (a b : ByteArray) (i : Nat) (h : i < a.size) : (xorL a b)[i]? = some (byteAt a i ^^^ byteAt b i) := by simp [xorL, h]

set_option maxHeartbeats 1000000 in
theorem xor_any (a b : ByteArray) (w : World) (hab : b.size = a.size) (hn : a.size ≤ 1000) :
    Calls Try.prog 35 #[.string a, .string b] w fun e w' => e = .returned (.string ⟨(xorL a b).toArray⟩) ∧ Below w.heap.size w w' := by
  have hmk := run_make_row' (P := Try.prog) 97 5 (.int .u8 0) 1 Try.underlying97 infoByte rfl .i64 .i64 a.size (by omega) (by omega)
  obtain ⟨N, hN⟩ : ∃ N, N = w.heap.size := ⟨_, rfl⟩
  have HR0 : Hid ((w.alloc (.cells (madeCells #[.int .u8 0] a.size) 5)).rowIs N 5 a.size (fun j => if j < 0 then bv (byteAt a j ^^^ byteAt b j) else .int .u8 0)) := by
    unfold Hid; rw [hN]; exact (World.rowIs_made w (.int .u8 0) a.size 5).congr (fun j _ => by simp)
  have B0 : Below N w (w.alloc (.cells (madeCells #[.int .u8 0] a.size) 5)) := by rw [hN]; exact (Below.refl _ _).alloc (Nat.le_refl _) _
  have hN' : w.heap.size = N := hN.symm
  have HAB : Hid (b.size = a.size) := hab
  have hab1 : (b.size : Int) ≤ (a.size : Int) := by omega
  have hab2 : (a.size : Int) ≤ (b.size : Int) := by omega
  rw [hN']
  clear hN hab
  go_enter Try.func35, Try.ntmps35
  go_wp2
  go_loopw [6] (fun x wr => ∃ i : Nat, i ≤ a.size ∧ x = .int .i64 i ∧ wr.rowIs N 5 a.size (fun j => if j < i then bv (byteAt a j ^^^ byteAt b j) else .int .u8 0) ∧ Below N w wr) (fun x _ => a.size - (intOf x).toNat)
  case atStart => exact ⟨0, Nat.zero_le _, rfl, HR0.out, B0⟩
  case round =>
    clear HR0 B0 hmk hN'
    obtain ⟨i, hi, rfl, hR, hB⟩ := hrel
    by_cases hlt : i < a.size
    · have hlb : i < b.size := by omega
      have oc := hR.cell hlt
      simp only [Nat.lt_irrefl, if_false] at oc
      have of := hR.frozen i
      have hx := u8_xor_nat a[i].toNat b[i].toNat (UInt8.toNat_lt _) (UInt8.toNat_lt _)
      have HR2 : Hid ((wr.setCell ⟨N, i, none⟩ (.int .u8 (a[i].toNat ^^^ b[i].toNat : Nat))).rowIs N 5 a.size (fun j => if j < i + 1 then bv (byteAt a j ^^^ byteAt b j) else .int .u8 0)) := (hR.set i _).congr (fun j _ => by
        by_cases e : j = i
        · subst e; simp [bv, byteAt_eq a j hlt, byteAt_eq b j hlb]
        · by_cases e2 : j < i
          · simp [e, e2, show j < i + 1 by omega]
          · simp [e, e2, show ¬ j < i + 1 by omega])
      have hB2 : Below N w (wr.setCell ⟨N, i, none⟩ (.int .u8 (a[i].toNat ^^^ b[i].toNat : Nat))) := hB.setCell (Nat.le_refl _) _
      clear hR
      go_wp2
      go_region
      go_wp2
      go_roundw
      case rel => first | exact ⟨i + 1, by omega, by go_num, HR2.out, hB2.drew⟩ | ((repeat apply Exists.intro); exact ⟨⟨i + 1, by omega, by go_num, HR2.out, hB2.drew⟩, rfl⟩)
      case measure => simp [intOf]; omega
    · obtain rfl : i = a.size := by omega
      have hcv := conv_row (cap := a.size) (xorL a b) (xorL_length a b) hR (fun j hj x hx => by rw [xorL_get a b j hj] at hx; simp only [Option.some.injEq] at hx; rw [← hx, if_pos hj])
      clear hR
      go_wp2
      go_ret
      exact ⟨rfl, hB⟩
end Kp
end Go.Proofs.Ytkgnmcekeeannaa
