import Derived.Test.YtkgnmcekeeannaaWD
namespace Go.Proofs.Ytkgnmcekeeannaa
open Go.RowKit
namespace Cod
open Pol (G fm fi prodBut share lag sumTo)
open Fld (ret_int val_int i64_xor_nat)

def vals (f : Nat → Value) (k : Nat) : List Value := (List.range k).map f
theorem vals_succ (f : Nat → Value) (k : Nat) : vals f (k + 1) = vals f k ++ [f k] := by simp [vals, List.range_succ]
theorem vals_length (f : Nat → Value) (k : Nat) : (vals f k).length = k := by simp [vals]
theorem vals_get (f : Nat → Value) (k i : Nat) (h : i < k) : (vals f k)[i]? = some (f i) := by simp [vals, h]

def u8v (f : Nat → G) (i : Nat) : Value := .int .u8 (f i).toNat

set_option maxHeartbeats 1000000 in
theorem sharesAt_nat (t n b off cap : Nat) (ns : Nat → Nat) (w : World) (ht : t < 16) (hns : ∀ i, i < n → ns i < 16) (hb : b < w.heap.size) (hn : n ≤ 8)
    (hcell : ∀ i, i < n → w.cell? ⟨b, off + i, none⟩ = some (.int .i64 (ns i))) :
    Calls Try.prog 82 #[.int .i64 t, .slice (some ⟨b, off, none⟩) n cap] w fun e w' => ∃ v, e = .returned v ∧ w'.ownsRow w.heap.size 5 1 v n (vals (u8v (share n (gx ns) (g t))) n) ∧ Below w.heap.size w w' := by
  obtain ⟨i0, hi, hz0, hz1, hz2⟩ := info_parts infoByte
  have HO : (w.alloc (Obj.cells #[] 5)).ownsRow w.heap.size 5 1 (.slice (some ⟨w.heap.size, 0, none⟩) 0 0) 0 (vals (u8v (share n (gx ns) (g t))) 0) := World.ownsRow_made w #[] 0 (Nat.le_refl _) (by decide) rfl
  go_enter Try.func82, Try.ntmps82
  go_wp2
  go_loopw [5, 6] (fun v i wr => ∃ j : Nat, j ≤ n ∧ i = .int .i64 j ∧ wr.ownsRow w.heap.size 5 1 v j (vals (u8v (share n (gx ns) (g t))) j) ∧ Below w.heap.size w wr) (fun _ i _ => n - (intOf i).toNat)
  case atStart => exact ⟨0, Nat.zero_le _, rfl, HO, (Below.refl _ _).alloc (Nat.le_refl _) _⟩
  case round =>
    obtain ⟨j, hj, rfl, hown, hnx⟩ := hrel
    clear HO
    have hsz := hnx.size
    have hcr : ∀ i, i < n → wr.cell? ⟨b, off + i, none⟩ = some (.int .i64 (ns i)) := fun i hi => (hnx.cell (p := ⟨b, off + i, none⟩) hb).trans (hcell i hi)
    clear hcell
    by_cases hlt : j < n
    · have HC := shareAt_nat t n j b off cap ns wr ht hns hlt hn hcr
      clear hcr hns
      go_wp2_with fail
      refine HC.mono ?_
      rintro e w' ⟨rfl, m, rfl⟩
      clear HC
      have hownd : (wr.drewN m).ownsRow w.heap.size 5 1 u5 j (vals (u8v (share n (gx ns) (g t))) j) := hown
      have hnxd : Below w.heap.size w (wr.drewN m) := below_drewN hnx m
      have hszd : w.heap.size ≤ (wr.drewN m).heap.size := hsz
      clear hown hnx hsz
      generalize wr.drewN m = wx at *
      go_wp2_with (at_builtin; refine wpList_append_own _ rfl _ _ 97 rfl w.heap.size 5 i0 (.int .u8 0) 1 1 Try.underlying97 hi hz0 hz1 hz2 rfl (by decide) _ _ _ rfl (hownd.alloc _) ⟨wx.heap.size, 0, none⟩ 1 1 [.int .u8 (share n (gx ns) (g t) j).toNat] rfl rfl one_news ?c2 ?c3 ?c4 ?c5 ?_)
      case c2 => intro u hu; simp at hu; subst hu; rfl
      case c3 => unfold maxLen; omega
      case c4 => omega
      case c5 => simp; omega
      · intro v' w1 hown' hgrow _
        have hb := below_append hnxd hszd hownd hgrow
        have hown2 : w1.ownsRow w.heap.size 5 1 v' (j + 1) (vals (u8v (share n (gx ns) (g t))) (j + 1)) := by rw [vals_succ]; exact hown'
        clear hownd hgrow hnxd hown'
        go_wp2
        go_roundw
        case rel => exact ⟨j + 1, by omega, by go_num, hown2, hb⟩
        case measure => simp [intOf]; omega
    · have e : j = n := by omega
      subst e
      clear hcr hns
      go_wp2
      go_ret
      exact ⟨_, rfl, hown, hnx⟩
theorem row_cells {w : World} {base e n : Nat} {v : Value} {f : Nat → Value} (h : w.ownsRow base e 1 v n (vals f n)) (hn : 0 < n) :
    ∃ b cap, v = .slice (some ⟨b, 0, none⟩) n cap ∧ base ≤ b ∧ b < w.heap.size ∧ n ≤ cap ∧ cap ≤ maxLen ∧ ∀ i, i < n → w.cell? ⟨b, i, none⟩ = some (f i) := by
  rcases h.2 with ⟨_, h0⟩ | ⟨b, cap, cur, hv, hb, hg, hnc, hcm, _⟩
  · omega
  · subst hv
    refine ⟨b, cap, rfl, hb, ?_, hnc, hcm, fun i hi => ?_⟩
    · obtain ⟨hlt, _⟩ := Array.getElem?_eq_some_iff.1 hg; exact hlt
    · rw [h.cellAt i (by omega), vals_get f n i hi]

def byteAt (s : ByteArray) (i : Nat) : G := s.data.toList.getD i 0
theorem byteAt_eq (s : ByteArray) (i : Nat) (h : i < s.size) : byteAt s i = s[i] := by
  unfold byteAt
  rw [List.getD_eq_getElem?_getD, List.getElem?_eq_getElem (by simpa using h)]; rfl

set_option maxHeartbeats 1000000 in
theorem valueAt_nat (place n b cap size : Nat) (sh : Nat → G) (s : ByteArray) (w : World) (hp : place < size) (hs16 : size ≤ 16) (hn : n ≤ 8) (hs : s.size = n * size)
    (hcell : ∀ i, i < n → w.cell? ⟨b, i, none⟩ = some (u8v sh i)) :
    Calls Try.prog 83 #[.int .i64 place, .slice (some ⟨b, 0, none⟩) n cap, .string s, .int .i64 size] w fun e w' => e = .returned (.int .u8 (sumTo n (fun i => fm (sh i) (byteAt s (i * size + place)))).toNat) ∧ ∃ m, w' = w.drewN m := by
  have HS : Hid (s.size = n * size) := hs
  clear hs
  go_enter Try.func83, Try.ntmps83
  go_wp2
  go_loopw [9, 10] (fun x i wr => ∃ k : Nat, k ≤ n ∧ i = .int .i64 k ∧ x = .int .u8 (sumTo k (fun i => fm (sh i) (byteAt s (i * size + place)))).toNat ∧ ∃ m, wr = w.drewN m) (fun _ i _ => n - (intOf i).toNat)
  case atStart => exact ⟨0, Nat.zero_le _, rfl, rfl, 0, rfl⟩
  case round =>
    obtain ⟨k, hk, rfl, rfl, hwr⟩ := hrel
    have HW : Hid (∃ m, wr = w.drewN m) := hwr
    have hcr : ∀ i, i < n → wr.cell? ⟨b, i, none⟩ = some (u8v sh i) := by
      obtain ⟨m, rfl⟩ := hwr; exact hcell
    clear hwr hcell
    by_cases hlt : k < n
    · have ck : wr.cell? ⟨b, k, none⟩ = some (.int .u8 (sh k).toNat) := hcr k hlt
      have hP : ((k : Int) * (size : Int)) = ((k * size : Nat) : Int) := by simp
      have hPl : k * size + size ≤ s.size := by rw [HS.out, ← Nat.succ_mul]; exact Nat.mul_le_mul_right _ hlt
      have hP8 : k * size ≤ 8 * 16 := Nat.mul_le_mul (by omega) hs16
      have HB : Hid (sumTo (k + 1) (fun i => fm (sh i) (byteAt s (i * size + place))) = sumTo k (fun i => fm (sh i) (byteAt s (i * size + place))) ^^^ fm (sh k) (byteAt s (k * size + place))) := rfl
      clear hcr
      generalize sumTo k (fun i => fm (sh i) (byteAt s (i * size + place))) = A at *
      generalize k * size = P at *
      have hw1 : IntKind.i64.wrap (P : Int) = (P : Int) := IntWalk.i64_in _ ⟨by omega, by omega⟩
      obtain ⟨q, hq⟩ : ∃ q, q = P + place := ⟨_, rfl⟩
      have hw2 : IntKind.i64.wrap ((P : Int) + (place : Int)) = (q : Int) := by rw [IntWalk.i64_in _ ⟨by omega, by omega⟩]; omega
      have hix : q < s.size := by omega
      have hix' : (q : Int) < (s.size : Int) := by omega
      have HY : Hid (byteAt s (P + place) = s[q]) := by unfold Hid; subst hq; exact byteAt_eq s _ hix
      clear hq hPl
      go_wp2_with fail
      go_quiet ((go_at_call 37; exact Calls.quiet_of_same (mul_g (sh k) s[q] _ _ _ rfl rfl)))
      go_wp2
      go_roundw
      case rel =>
        refine ⟨k + 1, by omega, by go_num, val_int ?_, drawn_more HW.out⟩
        rw [u8_xor_nat _ _ (UInt8.toNat_lt _) (UInt8.toNat_lt _), ← UInt8.toNat_xor, ← HY.out, ← HB.out]
      case measure => simp [intOf]; omega
    · have e : k = n := by omega
      subst e
      clear hcr
      go_wp2
      go_ret
      exact ⟨rfl, HW.out⟩
end Cod
end Go.Proofs.Ytkgnmcekeeannaa
