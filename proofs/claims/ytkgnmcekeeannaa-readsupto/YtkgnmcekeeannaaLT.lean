import Derived.Test.YtkgnmcekeeannaaLR
namespace Go.Proofs.Ytkgnmcekeeannaa
open Go.RowKit Go.Deep
namespace Ms
open Bs
set_option linter.unusedVariables false

set_option maxHeartbeats 4000000 in
theorem still_any (A n cA : Nat) (k : Int) (w : World) (S : Nat → Prop) (hn : n ≤ 8) (hM : MarkedAt w A n k S) :
    Calls Try.prog 30 #[.slice (some ⟨A, 0, none⟩) 4 cA, .int .i64 k] w fun e w' => e = .returned (.bool true) ∧ w' = w := by
  have HM : Hid (MarkedAt w A n k S) := hM
  clear hM
  go_enter Try.func30, Try.ntmps30
  go_wp2
  go_loop [5] (fun x => ∃ j : Nat, j ≤ 4 ∧ x = .int .i64 j) (fun x => 4 - (intOf x).toNat)
  case atStart => exact ⟨0, Nat.zero_le _, rfl⟩
  case round =>
    obtain ⟨j, hj, rfl⟩ := hrel
    by_cases hlt : j < 4
    · obtain ⟨aj, cj, hc, hk, _⟩ := HM.out.2.2 j hlt
      have HK : Hid (KAt w aj (n + j) k) := hk
      clear hk
      obtain ⟨q, hq⟩ : ∃ q, q = n + j := ⟨_, rfl⟩
      have hq12 : q ≤ 12 := by omega
      rw [← hq] at hc HK
      clear hq
      go_wp2
      go_loop [7] (fun x => ∃ i : Nat, i ≤ q ∧ x = .int .i64 i) (fun x => q - (intOf x).toNat)
      case atStart => exact ⟨0, Nat.zero_le _, rfl⟩
      case round =>
        obtain ⟨i, hi, rfl⟩ := hrel
        by_cases hi2 : i < q
        · rcases HK.out with h0 | ⟨b, rfl, hb, hcells⟩
          · omega
          · have c0 := hcells (i * 3) (by omega)
            have c1 := hcells (i * 3 + 1) (by omega)
            have c2 := hcells (i * 3 + 2) (by omega)
            have dk : (k != k) = false := by simp
            clear hcells
            go_wp2
            go_round
            case rel => exact ⟨i + 1, by omega, by go_num⟩
            case measure => simp [intOf]; omega
        · obtain rfl : i = q := by omega
          go_wp2
          go_round
          case rel => exact ⟨j + 1, by omega, by go_num⟩
          case measure => simp [intOf]; omega
    · obtain rfl : j = 4 := by omega
      go_wp2
      go_ret
      exact ⟨rfl, rfl⟩
set_option maxRecDepth 100000 in
set_option maxHeartbeats 4000000 in
theorem sameMessage_eq (kd ob bl nu le : Int) (sy : ByteArray) (ao bo : Option Addr) (n ca cb : Nat) (its : Nat → It) (os : Int) (w : World) (hn : n ≤ maxLen) (ha : ItemsAt w ao n its) (hb : ItemsAt w bo n its) :
    Calls Try.prog 28 #[mV kd ob bl nu le sy ao n ca os, mV kd ob bl nu le sy bo n cb os] w fun e w' => e = .returned (.bool true) ∧ Below w.heap.size w w' := by
  have B1 : Below w.heap.size w (w.alloc (mBox kd ob bl nu le sy ao n ca os)) := (Below.refl _ _).alloc (Nat.le_refl _) _
  have B2 : Below w.heap.size w ((w.alloc (mBox kd ob bl nu le sy ao n ca os)).alloc (mBox kd ob bl nu le sy bo n cb os)) := B1.alloc (by simp) _
  have HS := sameItems_eq ao bo n ca cb its ((w.alloc (mBox kd ob bl nu le sy ao n ca os)).alloc (mBox kd ob bl nu le sy bo n cb os)) hn (ha.stay B2) (hb.stay B2)
  clear ha hb B1 hn
  have t1 : (ob == ob) = true := by simp
  have t2 : (bl == bl) = true := by simp
  have t3 : (nu == nu) = true := by simp
  have t4 : (le == le) = true := by simp
  have t5 : (sy.toList == sy.toList) = true := by simp
  have t6 : (kd == kd) = true := by simp
  have t7 : (os == os) = true := by simp
  go_enter Try.func28, Try.ntmps28
  go_wp2_with fail
  refine HS.mono ?_
  rintro e w1 ⟨rfl, q, rfl⟩
  have B3 := below_drewN B2 q
  clear HS B2
  have bx : ∀ j v, (#[Value.int .i64 kd, .int .i64 ob, .int .i64 bl, .int .i64 nu, .int .i64 le, .string sy, .slice ao n ca, .int .i64 os] : Array Value)[j]? = some v → (((w.alloc (mBox kd ob bl nu le sy ao n ca os)).alloc (mBox kd ob bl nu le sy bo n cb os)).drewN q).cell? ⟨w.heap.size, j, none⟩ = some v := fun j v hv => cell_drawn (cell_old (by simp) (cell_new rfl hv))
  have by' : ∀ j v, (#[Value.int .i64 kd, .int .i64 ob, .int .i64 bl, .int .i64 nu, .int .i64 le, .string sy, .slice bo n cb, .int .i64 os] : Array Value)[j]? = some v → (((w.alloc (mBox kd ob bl nu le sy ao n ca os)).alloc (mBox kd ob bl nu le sy bo n cb os)).drewN q).cell? ⟨w.heap.size + 1, j, none⟩ = some v := fun j v hv => cell_drawn (cell_new (by simp) hv)
  generalize ((w.alloc (mBox kd ob bl nu le sy ao n ca os)).alloc (mBox kd ob bl nu le sy bo n cb os)).drewN q = W at *
  have x0 : W.cell? ⟨w.heap.size, 0, none⟩ = some (.int .i64 kd) := bx 0 _ rfl
  have x7 : W.cell? ⟨w.heap.size, 7, none⟩ = some (.int .i64 os) := bx 7 _ rfl
  have y0 : W.cell? ⟨w.heap.size + 1, 0, none⟩ = some (.int .i64 kd) := by' 0 _ rfl
  have y7 : W.cell? ⟨w.heap.size + 1, 7, none⟩ = some (.int .i64 os) := by' 7 _ rfl
  clear bx by'
  go_wp2
  go_ret
  exact ⟨by simp, B3⟩
end Ms
end Go.Proofs.Ytkgnmcekeeannaa
