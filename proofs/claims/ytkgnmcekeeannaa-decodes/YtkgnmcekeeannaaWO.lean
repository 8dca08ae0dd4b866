import Derived.Test.YtkgnmcekeeannaaWN
namespace Go.Proofs.Ytkgnmcekeeannaa
open Go.RowKit Go.Deep
namespace Cod
open Pol (G fm fi prodBut share lag sumTo pw gauss gstep factor coef)
open Fld (ret_int val_int i64_xor_nat)

theorem refDecode_size (ao : Option Addr) (n cap : Nat) (s : ByteArray) (z : Int) (w : World) (hz : z < 1 ∨ 16 < z) :
    Calls Try.prog 22 #[.slice ao n cap, .string s, .int .i64 z] w fun e w' => e = .returned (.tuple #[.string nil, .int .i64 2]) ∧ w' = w := by
  by_cases h1 : z < 1
  · clear hz
    go_enter Try.func22, Try.ntmps22
    go_wp2
    go_ret2
    exact ⟨rfl, rfl⟩
  · have h2 : 16 < z := hz.resolve_left h1
    clear hz
    have h3 : 1 ≤ z := by omega
    clear h1
    go_enter Try.func22, Try.ntmps22
    go_wp2
    go_ret2
    exact ⟨rfl, rfl⟩
theorem refDecode_block (ao : Option Addr) (n cap z : Nat) (s : ByteArray) (w : World) (hn : n ≤ maxLen) (hz1 : 1 ≤ z) (hz : z ≤ 16) (hb : n = 0 ∨ 8 < n ∨ s.size ≠ n * z) :
    Calls Try.prog 22 #[.slice ao n cap, .string s, .int .i64 z] w fun e w' => e = .returned (.tuple #[.string nil, .int .i64 3]) ∧ w' = w := by
  unfold maxLen at hn
  by_cases h1 : n = 0
  · subst h1
    clear hb
    go_enter Try.func22, Try.ntmps22
    go_wp2
    go_ret2
    exact ⟨rfl, rfl⟩
  · have h1' : 1 ≤ n := by omega
    by_cases h2 : 8 < n
    · clear hb h1
      go_enter Try.func22, Try.ntmps22
      go_wp2
      go_ret2
      exact ⟨rfl, rfl⟩
    · have h3 : s.size ≠ n * z := by omega
      have hp : ((n : Int) * (z : Int)) = ((n * z : Nat) : Int) := by simp
      have hl : n * z ≤ 8 * 16 := Nat.mul_le_mul (by omega) hz
      have h4 : n ≤ 8 := by omega
      clear hb h1 h2
      generalize n * z = P at *
      have t2 : ((s.size : Int) != (P : Int)) = true := by simp; omega
      clear h3
      go_enter Try.func22, Try.ntmps22
      go_wp2
      go_ret2
      exact ⟨rfl, rfl⟩

set_option maxRecDepth 100000 in
set_option maxHeartbeats 4000000 in
theorem refDecode_rest (b off n cap z : Nat) (zs : Nat → Int) (s : ByteArray) (w : World) (hn0 : 0 < n) (hn : n ≤ 8) (hz1 : 1 ≤ z) (hz : z ≤ 16) (hs : s.size = n * z) (hb : b < w.heap.size)
    (hcell : ∀ i, i < n → w.cell? ⟨b, off + i, none⟩ = some (.int .i64 (zs i))) :
    Calls Try.prog 22 #[.slice (some ⟨b, off, none⟩) n cap, .string s, .int .i64 z] w
      fun e w' => ((Good n zs ∧ e = .returned (.tuple #[.string ⟨(flat z (symF n (natOf zs) s z 0) n).toArray⟩, .int .i64 0])) ∨ (¬ Good n zs ∧ e = .returned (.tuple #[.string nil, .int .i64 5]))) ∧ Below w.heap.size w w' := by
  have HC : Hid (∀ i, i < n → w.cell? ⟨b, off + i, none⟩ = some (.int .i64 (zs i))) := hcell
  clear hcell
  have cells : ∀ wr, Hid (∃ m, wr = w.drewN m) → ∀ i, i < n → wr.cell? ⟨b, off + i, none⟩ = some (.int .i64 (zs i)) := fun wr h => by
    obtain ⟨m, rfl⟩ := h.out; exact HC.out
  have HCS : Hid (∀ wr, Hid (∃ m, wr = w.drewN m) → ∀ i, i < n → wr.cell? ⟨b, off + i, none⟩ = some (.int .i64 (zs i))) := cells
  clear cells
  have bel : ∀ wr, Hid (∃ m, wr = w.drewN m) → Below w.heap.size w wr := fun wr h => by
    obtain ⟨m, rfl⟩ := h.out; exact below_drewN (Below.refl _ _) m
  have HBL : Hid (∀ wr, Hid (∃ m, wr = w.drewN m) → Below w.heap.size w wr) := bel
  clear bel
  have hp : ((n : Int) * (z : Int)) = ((n * z : Nat) : Int) := by simp
  have hl : n * z ≤ 8 * 16 := Nat.mul_le_mul (by omega) hz
  have t2 : ((s.size : Int) != ((n * z : Nat) : Int)) = false := by rw [hs]; simp
  have HS : Hid (s.size = n * z) := hs
  clear hs
  obtain ⟨P, hPe⟩ : ∃ P, P = n * z := ⟨_, rfl⟩
  rw [← hPe] at hp hl t2
  clear hPe
  go_enter Try.func22, Try.ntmps22
  go_wp2
  clear hp hl t2
  go_loopw [9] (fun i wr => ∃ k : Nat, k ≤ n ∧ i = .int .i64 k ∧ Good k zs ∧ ∃ m, wr = w.drewN m) (fun i _ => n - (intOf i).toNat)
  case atStart => exact ⟨0, Nat.zero_le _, rfl, fun i hi => by omega, 0, rfl⟩
  case round =>
    obtain ⟨k, hk, rfl, hg, hwr⟩ := hrel
    have HG : Hid (Good k zs) := hg
    clear hg
    have HW : Hid (∃ m, wr = w.drewN m) := hwr
    clear hwr
    by_cases hlt : k < n
    · have ck := HCS.out wr HW k hlt
      by_cases hr : 0 ≤ zs k ∧ zs k < 16
      · obtain ⟨hr0, hr1⟩ := hr
        go_wp2
        clear ck
        go_loopw [10] (fun j w2 => ∃ m : Nat, m ≤ k ∧ j = .int .i64 m ∧ (∀ i, i < m → zs i ≠ zs k) ∧ ∃ q, w2 = w.drewN q) (fun j _ => k - (intOf j).toNat)
        case atStart => exact ⟨0, Nat.zero_le _, rfl, fun i hi => by omega, HW.out⟩
        case round =>
          clear HW
          obtain ⟨m, hm, rfl, hne, hw2⟩ := hrel
          have HW : Hid (∃ m, wr = w.drewN m) := hw2
          have HN : Hid (∀ i, i < m → zs i ≠ zs k) := hne
          clear hne hw2
          by_cases hlm : m < k
          · have ck := HCS.out wr HW k hlt
            have cm := HCS.out wr HW m (by omega)
            by_cases he : zs m = zs k
            · have ht : (zs k == zs m) = true := by simp [he]
              have HF : Hid (¬ Good n zs) := fun h => (h k hlt).2 m hlm he
              clear he
              go_wp2_with fail
              go_quiet (fail)
              go_wp2
              go_ret2
              exact ⟨.inr ⟨HF.out, rfl⟩, below_drewN (HBL.out _ HW) _⟩
            · have ht : (zs k == zs m) = false := by simp; exact fun e => he e.symm
              have HE : Hid (zs m ≠ zs k) := he
              clear he
              go_wp2_with fail
              go_quiet (fail)
              go_wp2
              go_roundw
              case rel =>
                refine ⟨m + 1, by omega, by go_num, fun i hi => ?_, drawn_more HW.out⟩
                by_cases e : i = m
                · rw [e]; exact HE.out
                · exact HN.out i (by omega)
              case measure => simp [intOf]; omega
          · have e : m = k := by omega
            subst e
            go_wp2
            go_roundw
            case rel =>
              refine ⟨m + 1, by omega, by go_num, fun i hi => ?_, HW.out⟩
              by_cases e : i = m
              · rw [e]; exact ⟨⟨hr0, hr1⟩, HN.out⟩
              · exact HG.out i (by omega)
            case measure => simp [intOf]; omega
      · have HF : Hid (¬ Good n zs) := fun h => hr (h k hlt).1
        by_cases h0 : zs k < 0
        · clear hr
          go_wp2
          go_ret2
          exact ⟨.inr ⟨HF.out, rfl⟩, HBL.out _ HW⟩
        · have h1 : 0 ≤ zs k := by omega
          have h2 : 16 ≤ zs k := by omega
          clear hr h0
          go_wp2
          go_ret2
          exact ⟨.inr ⟨HF.out, rfl⟩, HBL.out _ HW⟩
    · have e : k = n := by omega
      subst e
      have hgg := HG.out
      have hdd : ∀ i j, i < k → j < k → i ≠ j → natOf zs i ≠ natOf zs j := fun i j hi hj hne e => by
        have h1 := (HG.out i hi).1
        have h2 := (HG.out j hj).1
        have e2 : zs i = zs j := by unfold natOf at e; omega
        rcases Nat.lt_or_gt_of_ne hne with h | h
        · exact (HG.out j hj).2 i h e2
        · exact (HG.out i hi).2 j h e2.symm
      have hll : ∀ i, i < k → natOf zs i < 16 := fun i hi => by have := (HG.out i hi).1; unfold natOf; omega
      have HSF := refSymbols_nat 0 k k b off cap z (natOf zs) s wr (by omega) hll (apart_of hll hdd) (by have := (HBL.out _ HW).size; omega) hn hn0 hz1 hz HS.out
        (fun i hi => by rw [HCS.out wr HW i hi]; have := (HG.out i hi).1; unfold natOf; rw [Int.toNat_of_nonneg this.1])
      clear hgg hdd hll
      go_wp2_with fail
      refine HSF.mono ?_
      rintro e w2 ⟨rfl, hb2⟩
      clear HSF
      have hbb : Below w.heap.size w w2 := (HBL.out _ HW).trans (hb2.mono (HBL.out _ HW).size)
      go_wp2
      go_ret2
      exact ⟨.inl ⟨HG.out, rfl⟩, hbb⟩

theorem refDecode_any (ao : Option Addr) (n cap : Nat) (zs : Nat → Int) (s : ByteArray) (size : Int) (w : World) (hn : n ≤ maxLen) (hl : Lies w ao n zs) :
    Calls Try.prog 22 #[.slice ao n cap, .string s, .int .i64 size] w fun e w' => e = .returned (decV n zs s size) ∧ Below w.heap.size w w' := by
  unfold decV decOut
  by_cases h1 : size < 1 ∨ 16 < size
  · simp only [h1, if_true]
    exact (refDecode_size ao n cap s size w h1).mono fun e w' ⟨h, g⟩ => ⟨h, below_same g⟩
  · simp only [h1, if_false]
    obtain ⟨z, rfl⟩ := Int.eq_ofNat_of_zero_le (show 0 ≤ size by omega)
    simp only [Int.toNat_natCast]
    have hz1 : 1 ≤ z := by omega
    have hz : z ≤ 16 := by omega
    by_cases h2 : n = 0 ∨ 8 < n ∨ s.size ≠ n * z
    · simp only [h2, if_true]
      exact (refDecode_block ao n cap z s w hn hz1 hz h2).mono fun e w' ⟨h, g⟩ => ⟨h, below_same g⟩
    · simp only [h2, if_false]
      rcases hl with h0 | ⟨b, off, rfl, hb, hc⟩
      · exact absurd (.inl h0) h2
      · refine (refDecode_rest b off n cap z zs s w (by omega) (by omega) hz1 hz (by omega) hb hc).mono fun e w' ⟨h, g⟩ => ⟨?_, g⟩
        by_cases h3 : goodB n zs = false
        · simp only [h3, if_true]
          rcases h with ⟨h4, _⟩ | ⟨_, h5⟩
          · rw [(goodB_iff n zs).2 h4] at h3; cases h3
          · exact h5
        · simp only [h3]
          rcases h with ⟨_, h5⟩ | ⟨h4, _⟩
          · exact h5
          · exact absurd ((goodB_iff n zs).1 (by simpa using h3)) h4
end Cod
end Go.Proofs.Ytkgnmcekeeannaa
