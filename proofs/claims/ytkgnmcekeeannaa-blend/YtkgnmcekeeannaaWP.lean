import Derived.Test.YtkgnmcekeeannaaWK
import Derived.Test.YtkgnmcekeeannaaWM
import Derived.Deep.RegionWith
import Derived.Deep.DeepCutAuto
namespace Go.Proofs.Ytkgnmcekeeannaa
open Go.RowKit Go.Deep
namespace Kp
open Pol (G fm fi lag)
open Cod (bv byteAt byteAt_eq flat flat_get flat_length symF conv_row infoByte infoInt vals vals_succ vals_length vals_get iv)
open Fld (ret_int val_int)

def vals' (xs : Nat → G) (n : Nat) : List G := (List.range n).map xs

theorem pick_any (c : Int) (n : Nat) (w : World) (h1 : -9223372036854775808 ≤ c) (h2 : c ≤ 9223372036854775807) (hn : 1 ≤ n) (hn2 : n ≤ 1000) :
    Calls Try.prog 61 #[.int .i64 c, .int .i64 n] w fun e w' => (∃ r : Nat, r < n ∧ e = .returned (.int .i64 r)) ∧ w' = w := by
  have key : ∀ x : Int, 0 ≤ x → ∃ r : Nat, r < n ∧ x % (n : Int) = (r : Int) := fun x hx => by
    obtain ⟨m, rfl⟩ := Int.eq_ofNat_of_zero_le hx
    exact ⟨m % n, Nat.mod_lt _ hn, (Int.natCast_emod _ _).symm⟩
  by_cases h : c < 0
  · have h3 : 0 ≤ -(c + 1) := by omega
    obtain ⟨r, hr, he⟩ := key (-(c + 1)) h3
    have HE : Hid (-(c + 1) % (n : Int) = (r : Int)) := he
    clear key he
    go_enter Try.func61, Try.ntmps61
    go_wp2
    go_ret
    exact ⟨⟨r, hr, ret_int (by rw [← Int.neg_tmod, Int.tmod_eq_emod_of_nonneg h3]; exact HE.out)⟩, rfl⟩
  · have h3 : 0 ≤ c := by omega
    obtain ⟨r, hr, he⟩ := key c h3
    have HE : Hid (c % (n : Int) = (r : Int)) := he
    clear key he h
    go_enter Try.func61, Try.ntmps61
    go_wp2
    go_ret
    exact ⟨⟨r, hr, ret_int HE.out⟩, rfl⟩

theorem numbers_any (a b c : Int) (w : World) (a1 : -9223372036854775808 ≤ a) (a2 : a ≤ 9223372036854775807) (b1 : -9223372036854775808 ≤ b) (b2 : b ≤ 9223372036854775807) (c1 : -9223372036854775808 ≤ c) (c2 : c ≤ 9223372036854775807) :
    Calls Try.prog 33 #[.int .i64 a, .int .i64 b, .int .i64 c] w fun e w' => ∃ z k sp : Nat, 1 ≤ z ∧ z ≤ 16 ∧ 1 ≤ k ∧ k ≤ 8 ∧ sp ≤ 8 ∧ e = .returned (.agg #[.int .i64 z, .int .i64 k, .int .i64 sp]) ∧ Below w.heap.size w w' := by
  have P1 := fun w => pick_any a 16 w a1 a2 (by omega) (by omega)
  have P2 := fun w => pick_any b 8 w b1 b2 (by omega) (by omega)
  have P3 := fun w => pick_any c 9 w c1 c2 (by omega) (by omega)
  go_enter Try.func33, Try.ntmps33
  go_wp2_with fail
  refine (P1 _).mono ?_
  rintro e w' ⟨⟨r1, h1, rfl⟩, rfl⟩
  go_wp2_with fail
  refine (P2 _).mono ?_
  rintro e w' ⟨⟨r2, h2, rfl⟩, rfl⟩
  go_wp2_with fail
  refine (P3 _).mono ?_
  rintro e w' ⟨⟨r3, h3, rfl⟩, rfl⟩
  clear P1 P2 P3
  go_wp2
  refine bodyPost_ret (v := .agg #[.int .i64 (1 + (r1 : Int)), .int .i64 (1 + (r2 : Int)), .int .i64 r3]) (by simp [results, Try.results33, go_sem]) rfl ?_
  exact ⟨1 + r1, 1 + r2, r3, by omega, by omega, by omega, by omega, by omega, rfl, (Below.refl _ _).alloc (Nat.le_refl _) _⟩

set_option maxHeartbeats 1000000 in
theorem filled_any (s : ByteArray) (n : Nat) (w : World) (hs : s.size ≤ maxLen) (hn : n ≤ 1000) :
    Calls Try.prog 34 #[.string s, .int .i64 n] w fun e w' => ∃ d : ByteArray, d.size = n ∧ e = .returned (.string d) ∧ Below w.heap.size w w' := by
  unfold maxLen at hs
  have hmk := run_make_row' (P := Try.prog) 97 5 (.int .u8 0) 1 Try.underlying97 infoByte rfl .i64 .i64 n (by omega) (by omega)
  obtain ⟨N, hN⟩ : ∃ N, N = w.heap.size := ⟨_, rfl⟩
  have R0 : ∃ xs : Nat → G, (w.alloc (.cells (madeCells #[.int .u8 0] n) 5)).rowIs N 5 n (fun i => bv (xs i)) := by
    rw [hN]; exact ⟨fun _ => 0, (World.rowIs_made w (.int .u8 0) n 5).congr (fun a _ => rfl)⟩
  have B0 : Below N w (w.alloc (.cells (madeCells #[.int .u8 0] n) 5)) := by rw [hN]; exact (Below.refl _ _).alloc (Nat.le_refl _) _
  have hN' : w.heap.size = N := hN.symm
  rw [hN']
  clear hN
  have HR0 : Hid (∃ xs : Nat → G, (w.alloc (.cells (madeCells #[.int .u8 0] n) 5)).rowIs N 5 n (fun i => bv (xs i))) := R0
  clear R0
  go_enter Try.func34, Try.ntmps34
  go_wp2
  go_loopw [6] (fun x wr => ∃ i : Nat, i ≤ n ∧ x = .int .i64 i ∧ (∃ xs : Nat → G, wr.rowIs N 5 n (fun i => bv (xs i))) ∧ Below N w wr) (fun x _ => n - (intOf x).toNat)
  case atStart => exact ⟨0, Nat.zero_le _, rfl, HR0.out, B0⟩
  case round =>
    clear HR0 B0 hmk hN'
    obtain ⟨i, hi, rfl, ⟨xs, hR⟩, hB⟩ := hrel
    by_cases hlt : i < n ∧ 0 < s.size
    · obtain ⟨h1, h2⟩ := hlt
      have e1 : ((i : Int) % (s.size : Int)) = ((i % s.size : Nat) : Int) := (Int.natCast_emod _ _).symm
      have l1 : i % s.size < s.size := Nat.mod_lt _ h2
      have oc := hR.cell h1
      have of := hR.frozen i
      obtain ⟨q, hq⟩ : ∃ q, q = i % s.size := ⟨_, rfl⟩
      rw [← hq] at e1 l1
      clear hq
      have HR2 : Hid (∃ xs : Nat → G, (wr.setCell ⟨N, i, none⟩ (.int .u8 s[q].toNat)).rowIs N 5 n (fun i => bv (xs i))) :=
        ⟨fun j => if j = i then s[q] else xs j, (hR.set i _).congr (fun j _ => by by_cases e : j = i <;> simp [e, bv])⟩
      have hB2 : Below N w (wr.setCell ⟨N, i, none⟩ (.int .u8 s[q].toNat)) := hB.setCell (Nat.le_refl _) _
      generalize bv (xs i) = old at *
      clear hR
      go_wp2
      go_roundw
      case rel => exact ⟨i + 1, by omega, by go_num, HR2.out, hB2⟩
      case measure => simp [intOf]; omega
    · have hcv := conv_row (cap := n) (vals' xs n) (by simp [vals']) hR (fun a ha x hx => by simp [vals', ha] at hx; rw [← hx])
      have HV : Hid ((vals' xs n).length = n) := by simp [vals', Hid]
      generalize vals' xs n = l at *
      clear hR
      by_cases h1 : i < n
      · have h2 : s.size = 0 := by omega
        have h2' : ¬ 0 < s.size := by omega
        have h3 : ((s.size : Nat) : Int) ≤ 0 := by omega
        clear hlt h2
        go_wp2
        go_ret
        exact ⟨⟨l.toArray⟩, HV.out, rfl, hB⟩
      · clear hlt
        go_wp2
        go_ret
        exact ⟨⟨l.toArray⟩, HV.out, rfl, hB⟩
end Kp
end Go.Proofs.Ytkgnmcekeeannaa
