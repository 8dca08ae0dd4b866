import Derived.Test.YtkgnmcekeeannaaZ12
import Derived.Test.YtkgnmcekeeannaaZ25
/-
  The landed sender's firstOwed.
-/
namespace Go.Proofs.Ytkgnmcekeeannaa
open Go.RowKit Go.Deep
namespace Sn
open Bs
set_option linter.unusedVariables false

/-- what firstOwed answers -/
def FirstOut (s : LS) (e : Ending) : Prop :=
  (∃ i b, i < s.objs.length ∧ b < s.blk i ∧ 0 < s.ow i b ∧ (∀ b', b' < b → s.ow i b' = 0) ∧ (∀ i', i' < i → ∀ b', b' < s.blk i' → s.ow i' b' = 0) ∧ e = .returned (.tuple #[.agg #[.int .i64 i, .int .i64 b, .int .i64 0], .bool true])) ∨
  ((∀ i', i' < s.objs.length → ∀ b', b' < s.blk i' → s.ow i' b' = 0) ∧ e = .returned (.tuple #[.agg #[.int .i64 0, .int .i64 0, .int .i64 0], .bool false]))
theorem LI.owes {w : World} {P : Nat} {s : LS} {F : Nat → Prop} {ao : Option Addr} {co : Nat} {D : Nat → Nat} (h : LI w P s F ao co D) {i b : Nat} (hi : i < s.objs.length) (hb : b < s.blk i) :
    w.cell? ⟨D i, b * 2, none⟩ = some (.int .i64 (s.ow i b : Nat)) ∧ w.cell? ⟨D i, b * 2 + 1, none⟩ = some (.int .i64 (s.tu i b : Nat)) := by
  have h0 := (h.db i hi).cell (i := b * 2) (by omega)
  have h1 := (h.db i hi).cell (i := b * 2 + 1) (by omega)
  unfold dRow at h0 h1
  rw [if_pos (by omega), show b * 2 / 2 = b from by omega] at h0
  rw [if_neg (by omega), show (b * 2 + 1) / 2 = b from by omega] at h1
  exact ⟨h0, h1⟩
theorem blk_le (s : LS) (hs : LOk s) (i : Nat) (hi : i < s.objs.length) : s.blk i ≤ 256 := blocks_le s.n hs.nok _ (hs.sz i hi).2

set_option maxRecDepth 100000 in
set_option maxHeartbeats 4000000 in
theorem lanFirst (s : LS) (P : Nat) (F : Nat → Prop) (ao : Option Addr) (co : Nat) (D : Nat → Nat) (w : World) (hs : LOk s) (hA : LI w P s F ao co D) :
    Calls Try.prog 93 #[.pointer (some ⟨P, 0, none⟩)] w fun e w' => FirstOut s e ∧ Below w.heap.size w w' := by
  have B0 : Below w.heap.size w (w.alloc (.cells #[.int .i64 0, .int .i64 0, .int .i64 0] 109)) := (Below.refl _ _).alloc (Nat.le_refl _) _
  have R0 := World.rowIs_alloc w #[.int .i64 0, .int .i64 0, .int .i64 0] 109 (fun _ => .int .i64 0) (fun i hi => by
    match i, hi with
    | 0, _ => rfl
    | 1, _ => rfl
    | 2, _ => rfl)
  obtain ⟨W, hW⟩ : ∃ W, W = w.alloc (.cells #[.int .i64 0, .int .i64 0, .int .i64 0] 109) := ⟨_, rfl⟩
  have hA0 : LI W P s F ao co D := by rw [hW]; exact hA.below B0
  rw [← hW] at B0 R0
  have hlen := hs.len
  have HBS : Hid (∀ i, i < s.objs.length → s.blk i ≤ 256) := fun i hi => blk_le s hs i hi
  obtain ⟨c0, c1, c2, c3, c4, c5, c6⟩ := hA0.cells
  have z0 : W.cell? ⟨w.heap.size, 0, none⟩ = some (.int .i64 0) := R0.cell (by decide)
  have z1 : W.cell? ⟨w.heap.size, 1, none⟩ = some (.int .i64 0) := R0.cell (by decide)
  have z2 : W.cell? ⟨w.heap.size, 2, none⟩ = some (.int .i64 0) := R0.cell (by decide)
  have f0 := R0.frozen 0
  have f1 := R0.frozen 1
  have f2 := R0.frozen 2
  have HA : Hid (LI W P s F ao co D) := hA0
  have HB : Hid (∀ a b c, Below w.heap.size w (((W.setCell ⟨w.heap.size, 0, none⟩ a).setCell ⟨w.heap.size, 1, none⟩ b).setCell ⟨w.heap.size, 2, none⟩ c)) := fun a b c => ((B0.setCell (Nat.le_refl _) _).setCell (Nat.le_refl _) _).setCell (Nat.le_refl _) _
  have HB0 : Hid (Below w.heap.size w W) := B0
  have HOW : Hid (∀ i, i < s.objs.length → ∀ b, b < s.blk i → W.cell? ⟨D i, b * 2, none⟩ = some (.int .i64 (s.ow i b : Nat))) := fun i hi b hb => (hA0.owes hi hb).1
  obtain ⟨N, hN⟩ : ∃ N, N = w.heap.size := ⟨_, rfl⟩
  clear hA B0 hs hA0 c0 c1 c2 c4 c5 c6 R0
  go_enter Try.func93, Try.ntmps93
  rw [← hN] at z0 z1 z2 f0 f1 f2 HB HB0 ⊢
  go_wp2_with fail
  simp only [← hN]
  have HN : Hid (N = w.heap.size) := hN
  try simp only [hN, ← hW]
  simp only [← hN]
  clear hN hW
  obtain ⟨L, hL⟩ : ∃ L, L = s.objs.length := ⟨_, rfl⟩
  have HL : Hid (L = s.objs.length) := hL
  rw [← hL] at c3 hlen
  clear hL
  go_wp2
  go_loopw [4] (fun x wr => ∃ k : Nat, k ≤ L ∧ x = .int .i64 k ∧ (∀ i', i' < k → ∀ b', b' < s.blk i' → s.ow i' b' = 0) ∧ wr = W) (fun x _ => L - (intOf x).toNat)
  case atStart => exact ⟨0, Nat.zero_le _, rfl, fun i hi => by omega, rfl⟩
  case round =>
    obtain ⟨k, hk, rfl, hz, rfl⟩ := hrel
    have HZ : Hid (∀ i', i' < k → ∀ b', b' < s.blk i' → s.ow i' b' = 0) := hz
    clear hz
    by_cases hlt : k < L
    · obtain ⟨g, rfl, hg, hsl⟩ := HA.out.slot (by rw [← HL.out]; omega)
      have s1 := (hsl k (by rw [← HL.out]; exact hlt)).2
      have hb8 := HBS.out k (by rw [← HL.out]; exact hlt)
      have HOK : Hid (∀ b, b < s.blk k → wr.cell? ⟨D k, b * 2, none⟩ = some (.int .i64 (s.ow k b : Nat))) := fun b hb => HOW.out k (by rw [← HL.out]; exact hlt) b hb
      clear hsl
      obtain ⟨Bk, hBk⟩ : ∃ Bk, Bk = s.blk k := ⟨_, rfl⟩
      have HBk : Hid (Bk = s.blk k) := hBk
      rw [← hBk] at s1 hb8 HOK
      clear hBk
      go_wp2
      go_loopw [6] (fun x wr' => ∃ m : Nat, m ≤ Bk ∧ x = .int .i64 m ∧ (∀ b', b' < m → s.ow k b' = 0) ∧ wr' = wr) (fun x _ => Bk - (intOf x).toNat)
      case atStart => exact ⟨0, Nat.zero_le _, rfl, fun i hi => by omega, rfl⟩
      case round =>
        obtain ⟨m, hm, rfl, hz, hwr⟩ := hrel
        subst hwr
        have HM : Hid (∀ b', b' < m → s.ow k b' = 0) := hz
        clear hz
        by_cases hlm : m < Bk
        · have cm := HOK.out m hlm
          obtain ⟨v, hv⟩ : ∃ v, v = s.ow k m := ⟨_, rfl⟩
          have HV : Hid (v = s.ow k m) := hv
          rw [← hv] at cm
          clear hv
          by_cases hp : 0 < v
          · have hp' : (0 : Int) < (v : Int) := by omega
            clear hp
            go_wp2
            refine bodyPost_ret (v := .tuple #[.agg #[.int .i64 k, .int .i64 m, .int .i64 0], .bool true]) (by simp [results, Try.results93, go_sem, z0, z1, z2]) rfl ?_
            exact ⟨.inl ⟨k, m, by rw [← HL.out]; exact hlt, by rw [← HBk.out]; exact hlm, by rw [← HV.out]; omega, HM.out, HZ.out, rfl⟩, HB.out _ _ _⟩
          · have hv0 : v = 0 := by omega
            subst hv0
            clear hp
            go_wp2
            go_roundw
            case rel =>
              refine ⟨m + 1, by omega, by go_num, fun b' hb' => ?_, by trivial⟩
              by_cases e : b' = m
              · rw [e, ← HV.out]
              · exact HM.out b' (by omega)
            case measure => simp [intOf]; omega
        · have e : m = Bk := by omega
          subst e
          go_wp2
          go_roundw
          case rel =>
            refine ⟨k + 1, by omega, by go_num, fun i' hi' b' hb' => ?_, by trivial⟩
            by_cases e : i' = k
            · subst e; exact HM.out b' (by rw [HBk.out]; exact hb')
            · exact HZ.out i' (by omega) b' hb'
          case measure => simp [intOf]; omega
    · have e : k = L := by omega
      subst e
      clear hlt
      go_wp2
      refine bodyPost_ret (v := .tuple #[.agg #[.int .i64 0, .int .i64 0, .int .i64 0], .bool false]) (by simp [results, Try.results93, go_sem, z0, z1, z2]) rfl ?_
      exact ⟨.inr ⟨by rw [← HL.out]; exact HZ.out, rfl⟩, HB.out _ _ _⟩
end Sn
end Go.Proofs.Ytkgnmcekeeannaa
