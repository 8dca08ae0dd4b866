import Derived.Test.YtkgnmcekeeannaaGreatY49
/-
  The whole game is made.
-/
namespace Go.Proofs.YtkgnmcekeeannaaGreat
open Go.RowKit Go.Deep
namespace Sn
open Bs
set_option linter.unusedVariables false

theorem infoRL : (Tryz.prog.info? 34).map (fun i => (i.zero, i.size, i.bytes)) = some (some (.pointer none), 1, 8) := by kernel_rfl
theorem infoRR : (Tryz.prog.info? 38).map (fun i => (i.zero, i.size, i.bytes)) = some (some (.pointer none), 1, 8) := by kernel_rfl
def MadeOut (e : Ending) (w w' : World) : Prop :=
  (e = .returned (.tuple #[.pointer none, .bool true]) ∧ Below w.heap.size w w') ∨
  (∃ Q P R P' R', e = .returned (.tuple #[.pointer (some ⟨Q, 0, none⟩), .bool true]) ∧ ∃ B w0, Below w.heap.size w w0 ∧ w.heap.size ≤ B ∧ GS6 B w0 w' Q P R P' R' 0)
set_option maxRecDepth 100000 in
set_option maxHeartbeats 8000000 in
theorem made_any (g : Nat → Int) (w : World) :
    Calls Tryz.prog 6 #[.agg #[.int .i64 (g 0), .int .i64 (g 1), .int .i64 (g 2), .int .i64 (g 3), .int .i64 (g 4), .int .i64 (g 5)]] w fun e w' => MadeOut e w w' := by
  have HSN := fun W => sending_any g W
  have B0 : Below w.heap.size w (w.alloc (.cells #[.int .i64 (g 0), .int .i64 (g 1), .int .i64 (g 2), .int .i64 (g 3), .int .i64 (g 4), .int .i64 (g 5)] 30)) := (Below.refl _ _).alloc (Nat.le_refl _) _
  have R0 : (w.alloc (.cells #[.int .i64 (g 0), .int .i64 (g 1), .int .i64 (g 2), .int .i64 (g 3), .int .i64 (g 4), .int .i64 (g 5)] 30)).rowIs w.heap.size 30 6 (arrF g) := by
    exact World.rowIs_alloc w #[.int .i64 (g 0), .int .i64 (g 1), .int .i64 (g 2), .int .i64 (g 3), .int .i64 (g 4), .int .i64 (g 5)] 30 (arrF g) (fun i hi => by
      match i, hi with
      | 0, _ => rfl
      | 1, _ => rfl
      | 2, _ => rfl
      | 3, _ => rfl
      | 4, _ => rfl
      | 5, _ => rfl)
  obtain ⟨W, hW⟩ : ∃ W, W = w.alloc (.cells #[.int .i64 (g 0), .int .i64 (g 1), .int .i64 (g 2), .int .i64 (g 3), .int .i64 (g 4), .int .i64 (g 5)] 30) := ⟨_, rfl⟩
  obtain ⟨N, hN⟩ : ∃ N, N = w.heap.size := ⟨_, rfl⟩
  have HB0 : Hid (Below w.heap.size w W) := by rw [hW]; exact B0
  have HR0 : Hid (W.rowIs N 30 6 (arrF g)) := by rw [hW, hN]; exact R0
  have hNW : N < W.heap.size := HR0.out.lt
  clear B0 R0
  go_enter Tryz.func6, Tryz.ntmps6
  go_wp2_with fail
  simp only [← hW]
  refine (HSN W).mono ?_
  rintro e w1 ho
  rw [← hN]
  clear HSN hW hN
  rcases ho with ⟨rfl, hb1⟩ | ⟨Q, C, va, vb, ps, qs, rfl, hsg, hp, hq⟩
  · have HB1 : Hid (Below W.heap.size W w1) := hb1
    clear hb1
    go_wp2_with fail
    go_loopw [6] (fun y wr => ∃ k : Nat, k ≤ 3 ∧ y = .int .i64 k ∧ Hid (Below W.heap.size W wr)) (fun y _ => 3 - (intOf y).toNat)
    case atStart => exact ⟨0, by omega, rfl, HB1⟩
    case round =>
      clear HB1
      obtain ⟨k, hk, rfl, HB⟩ := hrel
      have hk4 : k = 0 ∨ k = 1 ∨ k = 2 ∨ k = 3 := by omega
      clear hk
      rcases hk4 with rfl | rfl | rfl | rfl
      · have HCE : Hid (∀ W', Below W.heap.size W W' → W'.cell? ⟨N, 0, none⟩ = some (.int .i64 (g 0)) ∧ W'.cell? ⟨N, 1, none⟩ = some (.int .i64 (g 1)) ∧ W'.cell? ⟨N, 2, none⟩ = some (.int .i64 (g 2))) := fun W' hb => by
          have q := HR0.out.of_block (hb.block N hNW)
          exact ⟨q.cell (i := 0) (by decide), q.cell (i := 1) (by decide), q.cell (i := 2) (by decide)⟩
        obtain ⟨y0, y1, y2⟩ := HCE.out wr HB.out
        have HL : Calls Tryz.prog 9 #[.int .i64 (g 0), .int .i64 (g 1), .int .i64 (g 2)] wr.drew fun e w' => ∃ p : Option Addr, e = .returned (.tuple #[.pointer p, .int .i64 (rightE (g 0) (g 1) (g 2))]) ∧ w'.cell? ⟨N, 0, none⟩ = some (.int .i64 (g 0)) ∧ w'.cell? ⟨N, 1, none⟩ = some (.int .i64 (g 1)) ∧ w'.cell? ⟨N, 2, none⟩ = some (.int .i64 (g 2)) ∧ Hid ((p = none ↔ rightE (g 0) (g 1) (g 2) ≠ 0) ∧ Below W.heap.size W w') := by
          refine (anyP (g 0) (g 1) (g 2) wr.drew).mono ?_
          rintro e w' ⟨⟨p, rfl, hp⟩, hb⟩
          have hb2 : Below W.heap.size W w' := HB.out.drew.trans (hb.mono HB.out.size)
          obtain ⟨q0, q1, q2⟩ := HCE.out w' hb2
          exact ⟨p, rfl, q0, q1, q2, hp, hb2⟩
        go_wp2_with fail
        go_region_held3 (fun w' => w'.cell? ⟨N, 0, none⟩ = some (.int .i64 (g 0)) ∧ w'.cell? ⟨N, 1, none⟩ = some (.int .i64 (g 1)) ∧ w'.cell? ⟨N, 2, none⟩ = some (.int .i64 (g 2))) (go_keep)
          (first | (go_at_call 9; refine HL.mono ?_; rintro e w2 ⟨p, rfl, x0, x1, x2, HS1⟩))
        clear HL y0 y1 y2
        have HR : Calls Tryz.prog 10 #[.int .i64 (g 0), .int .i64 (g 1), .int .i64 (g 2)] w2.drew fun e w' => ∃ p : Option Addr, e = .returned (.tuple #[.pointer p, .int .i64 (rightE (g 0) (g 1) (g 2))]) ∧ w'.cell? ⟨N, 0, none⟩ = some (.int .i64 (g 0)) ∧ w'.cell? ⟨N, 1, none⟩ = some (.int .i64 (g 1)) ∧ w'.cell? ⟨N, 2, none⟩ = some (.int .i64 (g 2)) ∧ Hid ((p = none ↔ rightE (g 0) (g 1) (g 2) ≠ 0) ∧ Below W.heap.size W w') := by
          refine (anyQ (g 0) (g 1) (g 2) w2.drew).mono ?_
          rintro e w' ⟨⟨p, rfl, hp⟩, hb⟩
          have hb2 : Below W.heap.size W w' := HS1.out.2.drew.trans (hb.mono HS1.out.2.size)
          obtain ⟨q0, q1, q2⟩ := HCE.out w' hb2
          exact ⟨p, rfl, q0, q1, q2, hp, hb2⟩
        go_wp2_with fail
        go_region_held3 (fun w' => w'.cell? ⟨N, 0, none⟩ = some (.int .i64 (g 0)) ∧ w'.cell? ⟨N, 1, none⟩ = some (.int .i64 (g 1)) ∧ w'.cell? ⟨N, 2, none⟩ = some (.int .i64 (g 2))) (go_keep)
          (first | (go_at_call 10; refine HR.mono ?_; rintro e w3 ⟨q, rfl, z0, z1, z2, HS2⟩))
        clear HR x0 x1 x2 z0 z1 z2
        obtain ⟨hq, hb3⟩ := HS2.out
        obtain ⟨hp, _⟩ := HS1.out
        have HB3 : Hid (Below W.heap.size W w3) := hb3
        clear HS1 HS2 HB hb3 HCE
        generalize rightE (g 0) (g 1) (g 2) = E at *
        by_cases hE : E = 0
        · obtain ⟨p, rfl⟩ : ∃ x, p = some x := by
            cases p with
            | none => exact absurd hE (hp.1 rfl)
            | some x => exact ⟨x, rfl⟩
          obtain ⟨q, rfl⟩ : ∃ x, q = some x := by
            cases q with
            | none => exact absurd hE (hq.1 rfl)
            | some x => exact ⟨x, rfl⟩
          subst hE
          clear hp hq
          go_wp2
          go_roundw
          case rel => exact ⟨1, by omega, rfl, HB3⟩
          case measure => simp [intOf]
        · obtain rfl : p = none := hp.2 hE
          obtain rfl : q = none := hq.2 hE
          clear hp hq hE
          go_wp2
          go_roundw
          case rel => exact ⟨1, by omega, rfl, HB3⟩
          case measure => simp [intOf]
      · have HCE : Hid (∀ W', Below W.heap.size W W' → W'.cell? ⟨N, 3, none⟩ = some (.int .i64 (g 3)) ∧ W'.cell? ⟨N, 4, none⟩ = some (.int .i64 (g 4)) ∧ W'.cell? ⟨N, 5, none⟩ = some (.int .i64 (g 5))) := fun W' hb => by
          have q := HR0.out.of_block (hb.block N hNW)
          exact ⟨q.cell (i := 3) (by decide), q.cell (i := 4) (by decide), q.cell (i := 5) (by decide)⟩
        obtain ⟨y0, y1, y2⟩ := HCE.out wr HB.out
        have HL : Calls Tryz.prog 9 #[.int .i64 (g 3), .int .i64 (g 4), .int .i64 (g 5)] wr.drew fun e w' => ∃ p : Option Addr, e = .returned (.tuple #[.pointer p, .int .i64 (rightE (g 3) (g 4) (g 5))]) ∧ w'.cell? ⟨N, 3, none⟩ = some (.int .i64 (g 3)) ∧ w'.cell? ⟨N, 4, none⟩ = some (.int .i64 (g 4)) ∧ w'.cell? ⟨N, 5, none⟩ = some (.int .i64 (g 5)) ∧ Hid ((p = none ↔ rightE (g 3) (g 4) (g 5) ≠ 0) ∧ Below W.heap.size W w') := by
          refine (anyP (g 3) (g 4) (g 5) wr.drew).mono ?_
          rintro e w' ⟨⟨p, rfl, hp⟩, hb⟩
          have hb2 : Below W.heap.size W w' := HB.out.drew.trans (hb.mono HB.out.size)
          obtain ⟨q0, q1, q2⟩ := HCE.out w' hb2
          exact ⟨p, rfl, q0, q1, q2, hp, hb2⟩
        go_wp2_with fail
        go_region_held3 (fun w' => w'.cell? ⟨N, 3, none⟩ = some (.int .i64 (g 3)) ∧ w'.cell? ⟨N, 4, none⟩ = some (.int .i64 (g 4)) ∧ w'.cell? ⟨N, 5, none⟩ = some (.int .i64 (g 5))) (go_keep)
          (first | (go_at_call 9; refine HL.mono ?_; rintro e w2 ⟨p, rfl, x0, x1, x2, HS1⟩))
        clear HL y0 y1 y2
        have HR : Calls Tryz.prog 10 #[.int .i64 (g 3), .int .i64 (g 4), .int .i64 (g 5)] w2.drew fun e w' => ∃ p : Option Addr, e = .returned (.tuple #[.pointer p, .int .i64 (rightE (g 3) (g 4) (g 5))]) ∧ w'.cell? ⟨N, 3, none⟩ = some (.int .i64 (g 3)) ∧ w'.cell? ⟨N, 4, none⟩ = some (.int .i64 (g 4)) ∧ w'.cell? ⟨N, 5, none⟩ = some (.int .i64 (g 5)) ∧ Hid ((p = none ↔ rightE (g 3) (g 4) (g 5) ≠ 0) ∧ Below W.heap.size W w') := by
          refine (anyQ (g 3) (g 4) (g 5) w2.drew).mono ?_
          rintro e w' ⟨⟨p, rfl, hp⟩, hb⟩
          have hb2 : Below W.heap.size W w' := HS1.out.2.drew.trans (hb.mono HS1.out.2.size)
          obtain ⟨q0, q1, q2⟩ := HCE.out w' hb2
          exact ⟨p, rfl, q0, q1, q2, hp, hb2⟩
        go_wp2_with fail
        go_region_held3 (fun w' => w'.cell? ⟨N, 3, none⟩ = some (.int .i64 (g 3)) ∧ w'.cell? ⟨N, 4, none⟩ = some (.int .i64 (g 4)) ∧ w'.cell? ⟨N, 5, none⟩ = some (.int .i64 (g 5))) (go_keep)
          (first | (go_at_call 10; refine HR.mono ?_; rintro e w3 ⟨q, rfl, z0, z1, z2, HS2⟩))
        clear HR x0 x1 x2 z0 z1 z2
        obtain ⟨hq, hb3⟩ := HS2.out
        obtain ⟨hp, _⟩ := HS1.out
        have HB3 : Hid (Below W.heap.size W w3) := hb3
        clear HS1 HS2 HB hb3 HCE
        generalize rightE (g 3) (g 4) (g 5) = E at *
        by_cases hE : E = 0
        · obtain ⟨p, rfl⟩ : ∃ x, p = some x := by
            cases p with
            | none => exact absurd hE (hp.1 rfl)
            | some x => exact ⟨x, rfl⟩
          obtain ⟨q, rfl⟩ : ∃ x, q = some x := by
            cases q with
            | none => exact absurd hE (hq.1 rfl)
            | some x => exact ⟨x, rfl⟩
          subst hE
          clear hp hq
          go_wp2
          go_roundw
          case rel => exact ⟨2, by omega, rfl, HB3⟩
          case measure => simp [intOf]
        · obtain rfl : p = none := hp.2 hE
          obtain rfl : q = none := hq.2 hE
          clear hp hq hE
          go_wp2
          go_roundw
          case rel => exact ⟨2, by omega, rfl, HB3⟩
          case measure => simp [intOf]
      · have HCE : Hid (∀ W', Below W.heap.size W W' → W'.cell? ⟨N, 0, none⟩ = some (.int .i64 (g 0)) ∧ W'.cell? ⟨N, 1, none⟩ = some (.int .i64 (g 1)) ∧ W'.cell? ⟨N, 2, none⟩ = some (.int .i64 (g 2))) := fun W' hb => by
          have q := HR0.out.of_block (hb.block N hNW)
          exact ⟨q.cell (i := 0) (by decide), q.cell (i := 1) (by decide), q.cell (i := 2) (by decide)⟩
        obtain ⟨y0, y1, y2⟩ := HCE.out wr HB.out
        have HL : Calls Tryz.prog 9 #[.int .i64 (g 0), .int .i64 (g 1), .int .i64 (g 2)] wr.drew fun e w' => ∃ p : Option Addr, e = .returned (.tuple #[.pointer p, .int .i64 (rightE (g 0) (g 1) (g 2))]) ∧ w'.cell? ⟨N, 0, none⟩ = some (.int .i64 (g 0)) ∧ w'.cell? ⟨N, 1, none⟩ = some (.int .i64 (g 1)) ∧ w'.cell? ⟨N, 2, none⟩ = some (.int .i64 (g 2)) ∧ Hid ((p = none ↔ rightE (g 0) (g 1) (g 2) ≠ 0) ∧ Below W.heap.size W w') := by
          refine (anyP (g 0) (g 1) (g 2) wr.drew).mono ?_
          rintro e w' ⟨⟨p, rfl, hp⟩, hb⟩
          have hb2 : Below W.heap.size W w' := HB.out.drew.trans (hb.mono HB.out.size)
          obtain ⟨q0, q1, q2⟩ := HCE.out w' hb2
          exact ⟨p, rfl, q0, q1, q2, hp, hb2⟩
        go_wp2_with fail
        go_region_held3 (fun w' => w'.cell? ⟨N, 0, none⟩ = some (.int .i64 (g 0)) ∧ w'.cell? ⟨N, 1, none⟩ = some (.int .i64 (g 1)) ∧ w'.cell? ⟨N, 2, none⟩ = some (.int .i64 (g 2))) (go_keep)
          (first | (go_at_call 9; refine HL.mono ?_; rintro e w2 ⟨p, rfl, x0, x1, x2, HS1⟩))
        clear HL y0 y1 y2
        have HR : Calls Tryz.prog 10 #[.int .i64 (g 0), .int .i64 (g 1), .int .i64 (g 2)] w2.drew fun e w' => ∃ p : Option Addr, e = .returned (.tuple #[.pointer p, .int .i64 (rightE (g 0) (g 1) (g 2))]) ∧ w'.cell? ⟨N, 0, none⟩ = some (.int .i64 (g 0)) ∧ w'.cell? ⟨N, 1, none⟩ = some (.int .i64 (g 1)) ∧ w'.cell? ⟨N, 2, none⟩ = some (.int .i64 (g 2)) ∧ Hid ((p = none ↔ rightE (g 0) (g 1) (g 2) ≠ 0) ∧ Below W.heap.size W w') := by
          refine (anyQ (g 0) (g 1) (g 2) w2.drew).mono ?_
          rintro e w' ⟨⟨p, rfl, hp⟩, hb⟩
          have hb2 : Below W.heap.size W w' := HS1.out.2.drew.trans (hb.mono HS1.out.2.size)
          obtain ⟨q0, q1, q2⟩ := HCE.out w' hb2
          exact ⟨p, rfl, q0, q1, q2, hp, hb2⟩
        go_wp2_with fail
        go_region_held3 (fun w' => w'.cell? ⟨N, 0, none⟩ = some (.int .i64 (g 0)) ∧ w'.cell? ⟨N, 1, none⟩ = some (.int .i64 (g 1)) ∧ w'.cell? ⟨N, 2, none⟩ = some (.int .i64 (g 2))) (go_keep)
          (first | (go_at_call 10; refine HR.mono ?_; rintro e w3 ⟨q, rfl, z0, z1, z2, HS2⟩))
        clear HR x0 x1 x2 z0 z1 z2
        obtain ⟨hq, hb3⟩ := HS2.out
        obtain ⟨hp, _⟩ := HS1.out
        have HB3 : Hid (Below W.heap.size W w3) := hb3
        clear HS1 HS2 HB hb3 HCE
        generalize rightE (g 0) (g 1) (g 2) = E at *
        by_cases hE : E = 0
        · obtain ⟨p, rfl⟩ : ∃ x, p = some x := by
            cases p with
            | none => exact absurd hE (hp.1 rfl)
            | some x => exact ⟨x, rfl⟩
          obtain ⟨q, rfl⟩ : ∃ x, q = some x := by
            cases q with
            | none => exact absurd hE (hq.1 rfl)
            | some x => exact ⟨x, rfl⟩
          subst hE
          clear hp hq
          go_wp2
          go_roundw
          case rel => exact ⟨3, by omega, rfl, HB3⟩
          case measure => simp [intOf]
        · obtain rfl : p = none := hp.2 hE
          obtain rfl : q = none := hq.2 hE
          clear hp hq hE
          go_wp2
          go_roundw
          case rel => exact ⟨3, by omega, rfl, HB3⟩
          case measure => simp [intOf]
      · go_wp2
        go_ret2
        exact .inl ⟨rfl, HB0.out.trans (HB.out.mono HB0.out.size)⟩
  · obtain ⟨n0, o0, a1, a2, a3⟩ := rightE_zero _ _ _ (hsg.rgt rfl 0 (by omega))
    obtain ⟨n1, o1, b1, b2, b3⟩ := rightE_zero _ _ _ (hsg.rgt rfl 1 (by omega))
    have HE0 : Hid (g 0 = n0.size ∧ g 1 = n0.block ∧ g 2 = n0.spare) := ⟨a1, a2, a3⟩
    have HE1 : Hid (g 3 = n1.size ∧ g 4 = n1.block ∧ g 5 = n1.spare) := ⟨b1, b2, b3⟩
    have HO0 : Hid n0.ok := o0
    have HO1 : Hid n1.ok := o1
    obtain ⟨ms, hms⟩ : ∃ ms : Nat → Nm, ms = fun i => if i % 2 = 0 then n0 else n1 := ⟨_, rfl⟩
    have Hms0 : Hid (ms 0 = n0) := by rw [hms]; rfl
    have Hms1 : Hid (ms 1 = n1) := by rw [hms]; rfl
    have Hms2 : Hid (ms 2 = n0) := by rw [hms]; rfl
    obtain ⟨S, V, P, R, ns, hns, hpg⟩ := PG.start hsg hp hq ms
    have HNS : Hid (∀ i, i < 2 → (ns i).ok) := hns
    have HPG0 : Hid (∃ C S V P' R', PG W.heap.size W w1 C Q S V 0 0 0 0 P R P' R' ns ms) := ⟨_, _, _, _, _, hpg⟩
    obtain ⟨i1, hi1, hz10, hz11, hz12⟩ := info_parts3 infoRL
    obtain ⟨i2, hi2, hz20, hz21, hz22⟩ := info_parts3 infoRR
    clear hms hpg hns hsg hp hq a1 a2 a3 b1 b2 b3 o0 o1
    go_wp2_with fail
    go_loopw [6] (fun y wr => ∃ k : Nat, k ≤ 3 ∧ y = .int .i64 k ∧ Hid (∃ C S V P' R', PG W.heap.size W wr C Q S V k k k k P R P' R' ns ms)) (fun y _ => 3 - (intOf y).toNat)
    case atStart => exact ⟨0, by omega, rfl, HPG0⟩
    case round =>
      clear HPG0
      obtain ⟨k, hk, rfl, HPG⟩ := hrel
      have hk4 : k = 0 ∨ k = 1 ∨ k = 2 ∨ k = 3 := by omega
      clear hk
      rcases hk4 with rfl | rfl | rfl | rfl
      · obtain ⟨C1, S1, V1, P', R', hPG⟩ := HPG.out
        have HP1 : Hid (PG W.heap.size W wr C1 Q S1 V1 0 0 0 0 P R P' R' ns ms) := hPG
        have HCE : Hid (∀ W', Below W.heap.size W W' → W'.cell? ⟨N, 0, none⟩ = some (.int .i64 n0.size) ∧ W'.cell? ⟨N, 1, none⟩ = some (.int .i64 n0.block) ∧ W'.cell? ⟨N, 2, none⟩ = some (.int .i64 n0.spare)) := fun W' hb => by
          have q := HR0.out.of_block (hb.block N hNW)
          obtain ⟨a1, a2, a3⟩ := HE0.out
          rw [← a1, ← a2, ← a3]
          exact ⟨q.cell (i := 0) (by decide), q.cell (i := 1) (by decide), q.cell (i := 2) (by decide)⟩
        obtain ⟨y0, y1, y2⟩ := HCE.out wr hPG.bel
        have HL : Calls Tryz.prog 9 #[.int .i64 n0.size, .int .i64 n0.block, .int .i64 n0.spare] wr.drew fun e w' => ∃ p : Nat, e = .returned (.tuple #[.pointer (some ⟨p, 0, none⟩), .int .i64 0]) ∧ w'.cell? ⟨N, 0, none⟩ = some (.int .i64 n0.size) ∧ w'.cell? ⟨N, 1, none⟩ = some (.int .i64 n0.block) ∧ w'.cell? ⟨N, 2, none⟩ = some (.int .i64 n0.spare) ∧ Hid (∃ C2, PG W.heap.size W w' C2 Q S1 V1 (1) 0 0 0 P R (upv P' 0 p) R' ns ms) := by
          refine (newP n0 HO0.out wr.drew).mono ?_
          rintro e w' ⟨p, rfl, hl, hb⟩
          have s1 := HP1.out.drew.newL (Nat.le_refl _) hb (by rw [Hms0.out]; exact hl) (Nat.le_refl _)
          obtain ⟨q0, q1, q2⟩ := HCE.out w' s1.bel
          exact ⟨p, rfl, q0, q1, q2, _, s1⟩
        clear hPG HPG HP1
        go_wp2_with fail
        go_region_held3 (fun w' => w'.cell? ⟨N, 0, none⟩ = some (.int .i64 n0.size) ∧ w'.cell? ⟨N, 1, none⟩ = some (.int .i64 n0.block) ∧ w'.cell? ⟨N, 2, none⟩ = some (.int .i64 n0.spare)) (go_keep)
          (first | (go_at_call 9; refine HL.mono ?_; rintro e w2 ⟨p, rfl, x0, x1, x2, HS1⟩))
        clear HL y0 y1 y2
        have HR : Calls Tryz.prog 10 #[.int .i64 n0.size, .int .i64 n0.block, .int .i64 n0.spare] w2.drew fun e w' => ∃ q : Nat, e = .returned (.tuple #[.pointer (some ⟨q, 0, none⟩), .int .i64 0]) ∧ w'.cell? ⟨N, 0, none⟩ = some (.int .i64 n0.size) ∧ w'.cell? ⟨N, 1, none⟩ = some (.int .i64 n0.block) ∧ w'.cell? ⟨N, 2, none⟩ = some (.int .i64 n0.spare) ∧ Hid (∃ C2, PG W.heap.size W w' C2 Q S1 V1 (1) (1) 0 0 P R (upv P' 0 p) (upv R' 0 q) ns ms) := by
          refine (newQ n0 HO0.out w2.drew).mono ?_
          rintro e w' ⟨q, rfl, hl, hb⟩
          obtain ⟨C2, s0⟩ := HS1.out
          have s1 := s0.drew.newR (Nat.le_refl _) hb (by rw [Hms0.out]; exact hl)
          obtain ⟨q0, q1, q2⟩ := HCE.out w' s1.bel
          exact ⟨q, rfl, q0, q1, q2, _, s1⟩
        clear HS1
        go_wp2_with fail
        go_region_held3 (fun w' => w'.cell? ⟨N, 0, none⟩ = some (.int .i64 n0.size) ∧ w'.cell? ⟨N, 1, none⟩ = some (.int .i64 n0.block) ∧ w'.cell? ⟨N, 2, none⟩ = some (.int .i64 n0.spare)) (go_keep)
          (first | (go_at_call 10; refine HR.mono ?_; rintro e w3 ⟨q, rfl, z0, z1, z2, HS2⟩))
        clear HR x0 x1 x2 z0 z1 z2 HCE
        obtain ⟨C2, s2⟩ := HS2.out
        have HP2 : Hid (PG W.heap.size W w3 C2 Q S1 V1 (1) (1) 0 0 P R (upv P' 0 p) (upv R' 0 q) ns ms) := s2
        have c2 : w3.cell? ⟨Q, 2, none⟩ = some (V1 2) := s2.wm.row.cell (by decide)
        have OWA : Hid (w3.ownsRow 0 34 1 (V1 2) 0 ((List.range 0).map (fun x => pt (upv P' 0 p x)))) := s2.wm.own 2 (by omega)
        have hQl := s2.wm.row.lt
        clear s2 HS2
        generalize hv2 : V1 2 = va at *
        have HV2 : Hid (V1 2 = va) := hv2
        generalize hXS : (List.range 0).map (fun x => pt (upv P' 0 p x)) = XS at *
        have HXS : Hid ((List.range 0).map (fun x => pt (upv P' 0 p x)) = XS) := hXS
        clear hv2 hXS
        go_wp2_with (at_builtin; refine wpList_append_own_at _ rfl _ _ 41 rfl 0 34 i1 (.pointer none) 1 8 Tryz.underlying41 hi1 hz10 hz11 hz12 rfl (by decide) va 0 XS rfl (OWA.out.alloc _) ⟨w3.heap.size, 0, none⟩ 1 1 [.pointer (some ⟨p, 0, none⟩)] rfl rfl Cod.one_news (by intro u hu; simp at hu; subst hu; rfl) (by decide) (by decide) (Nat.zero_le _) ?_)
        intro v' w4 hown' hgrow _ hat
        obtain ⟨ao2, co2, rfl⟩ := owns_form hown'
        have hg : w3.grownBy w4 (V1 2).ownBlock := by rw [HV2.out]; exact (World.grownBy_alloc w3 _ _).trans hgrow
        have HP3 : Hid (∃ C3 S3, PG W.heap.size W (w4.setCell ⟨Q, 2, none⟩ (.slice ao2 (1) co2)) C3 Q S3 (upv V1 2 (.slice ao2 (1) co2)) (1) (1) (1) 0 P R (upv P' 0 p) (upv R' 0 q) ns ms) := by
          refine HP2.out.addL ?_ hg (fun x hx => ?_)
          · rw [HXS.out, upv_same]; exact hown'
          · rw [HV2.out]
            rcases hat with e | e
            · rw [e] at hx; exact .inl hx
            · rw [e] at hx; simp at hx; exact .inr (by omega)
        have R4 := HP2.out.wm.row.of_block (hg.block Q hQl (fun e => by have := (HP2.out.wm.gv 2 (by omega) Q e.symm).2; rw [HP2.out.wm.sq] at this; omega))
        have c2' : w4.cell? ⟨Q, 2, none⟩ = some va := by rw [← HV2.out]; exact R4.cell (by decide)
        have f2' := R4.frozen 2
        have hQ4 := R4.lt
        clear hown' hgrow hat R4 c2 OWA HP2 hQl HXS hg
        go_upto_region 12 with fail
        clear c2' f2'
        generalize w4.setCell ⟨Q, 2, none⟩ (.slice ao2 (1) co2) = w5 at *
        obtain ⟨C3, S3, s3⟩ := HP3.out
        have HP4 : Hid (PG W.heap.size W w5 C3 Q S3 (upv V1 2 (.slice ao2 (1) co2)) (1) (1) (1) 0 P R (upv P' 0 p) (upv R' 0 q) ns ms) := s3
        obtain ⟨V2, hV2⟩ : ∃ V2, V2 = upv V1 2 (.slice ao2 (1) co2) := ⟨_, rfl⟩
        rw [← hV2] at HP4 s3
        have c3 : w5.cell? ⟨Q, 3, none⟩ = some (V2 3) := s3.wm.row.cell (by decide)
        have OWB : Hid (w5.ownsRow 0 38 1 (V2 3) 0 ((List.range 0).map (fun x => pt (upv R' 0 q x)))) := s3.wm.own 3 (by omega)
        have hQ5 := s3.wm.row.lt
        clear s3 HP3 hV2
        generalize hv3 : V2 3 = vb at *
        have HV3 : Hid (V2 3 = vb) := hv3
        generalize hYS : (List.range 0).map (fun x => pt (upv R' 0 q x)) = YS at *
        have HYS : Hid ((List.range 0).map (fun x => pt (upv R' 0 q x)) = YS) := hYS
        clear hv3 hYS
        go_wp2_with (at_builtin; refine wpList_append_own_at _ rfl _ _ 44 rfl 0 38 i2 (.pointer none) 1 8 Tryz.underlying44 hi2 hz20 hz21 hz22 rfl (by decide) vb 0 YS rfl (OWB.out.alloc _) ⟨w5.heap.size, 0, none⟩ 1 1 [.pointer (some ⟨q, 0, none⟩)] rfl rfl Cod.one_news (by intro u hu; simp at hu; subst hu; rfl) (by decide) (by decide) (Nat.zero_le _) ?_)
        intro v' w6 hown' hgrow _ hat
        obtain ⟨ao3, co3, rfl⟩ := owns_form hown'
        have hg : w5.grownBy w6 (V2 3).ownBlock := by rw [HV3.out]; exact (World.grownBy_alloc w5 _ _).trans hgrow
        have HP5 : Hid (∃ C5 S5 V5 P5 R5, PG W.heap.size W (w6.setCell ⟨Q, 3, none⟩ (.slice ao3 (1) co3)) C5 Q S5 V5 (1) (1) (1) (1) P R P5 R5 ns ms) := by
          obtain ⟨C5, S5, s5⟩ := HP4.out.addR (w1 := w6) (v' := .slice ao3 (1) co3) (by rw [HYS.out, upv_same]; exact hown') hg (fun x hx => by
            rw [HV3.out]
            rcases hat with e | e
            · rw [e] at hx; exact .inl hx
            · rw [e] at hx; simp at hx; exact .inr (by omega))
          exact ⟨C5, S5, _, _, _, s5⟩
        have R6 := HP4.out.wm.row.of_block (hg.block Q hQ5 (fun e => by have := (HP4.out.wm.gv 3 (by omega) Q e.symm).2; rw [HP4.out.wm.sq] at this; omega))
        have c3' : w6.cell? ⟨Q, 3, none⟩ = some vb := by rw [← HV3.out]; exact R6.cell (by decide)
        have f3' := R6.frozen 3
        clear hown' hgrow hat R6 c3 OWB HP4 hQ5 HYS hg
        go_wp2
        go_roundw
        case rel => exact ⟨1, by omega, rfl, HP5⟩
        case measure => simp [intOf]
      · obtain ⟨C1, S1, V1, P', R', hPG⟩ := HPG.out
        have HP1 : Hid (PG W.heap.size W wr C1 Q S1 V1 1 1 1 1 P R P' R' ns ms) := hPG
        have HCE : Hid (∀ W', Below W.heap.size W W' → W'.cell? ⟨N, 3, none⟩ = some (.int .i64 n1.size) ∧ W'.cell? ⟨N, 4, none⟩ = some (.int .i64 n1.block) ∧ W'.cell? ⟨N, 5, none⟩ = some (.int .i64 n1.spare)) := fun W' hb => by
          have q := HR0.out.of_block (hb.block N hNW)
          obtain ⟨a1, a2, a3⟩ := HE1.out
          rw [← a1, ← a2, ← a3]
          exact ⟨q.cell (i := 3) (by decide), q.cell (i := 4) (by decide), q.cell (i := 5) (by decide)⟩
        obtain ⟨y0, y1, y2⟩ := HCE.out wr hPG.bel
        have HL : Calls Tryz.prog 9 #[.int .i64 n1.size, .int .i64 n1.block, .int .i64 n1.spare] wr.drew fun e w' => ∃ p : Nat, e = .returned (.tuple #[.pointer (some ⟨p, 0, none⟩), .int .i64 0]) ∧ w'.cell? ⟨N, 3, none⟩ = some (.int .i64 n1.size) ∧ w'.cell? ⟨N, 4, none⟩ = some (.int .i64 n1.block) ∧ w'.cell? ⟨N, 5, none⟩ = some (.int .i64 n1.spare) ∧ Hid (∃ C2, PG W.heap.size W w' C2 Q S1 V1 (2) 1 1 1 P R (upv P' 1 p) R' ns ms) := by
          refine (newP n1 HO1.out wr.drew).mono ?_
          rintro e w' ⟨p, rfl, hl, hb⟩
          have s1 := HP1.out.drew.newL (Nat.le_refl _) hb (by rw [Hms1.out]; exact hl) (Nat.le_refl _)
          obtain ⟨q0, q1, q2⟩ := HCE.out w' s1.bel
          exact ⟨p, rfl, q0, q1, q2, _, s1⟩
        clear hPG HPG HP1
        go_wp2_with fail
        go_region_held3 (fun w' => w'.cell? ⟨N, 3, none⟩ = some (.int .i64 n1.size) ∧ w'.cell? ⟨N, 4, none⟩ = some (.int .i64 n1.block) ∧ w'.cell? ⟨N, 5, none⟩ = some (.int .i64 n1.spare)) (go_keep)
          (first | (go_at_call 9; refine HL.mono ?_; rintro e w2 ⟨p, rfl, x0, x1, x2, HS1⟩))
        clear HL y0 y1 y2
        have HR : Calls Tryz.prog 10 #[.int .i64 n1.size, .int .i64 n1.block, .int .i64 n1.spare] w2.drew fun e w' => ∃ q : Nat, e = .returned (.tuple #[.pointer (some ⟨q, 0, none⟩), .int .i64 0]) ∧ w'.cell? ⟨N, 3, none⟩ = some (.int .i64 n1.size) ∧ w'.cell? ⟨N, 4, none⟩ = some (.int .i64 n1.block) ∧ w'.cell? ⟨N, 5, none⟩ = some (.int .i64 n1.spare) ∧ Hid (∃ C2, PG W.heap.size W w' C2 Q S1 V1 (2) (2) 1 1 P R (upv P' 1 p) (upv R' 1 q) ns ms) := by
          refine (newQ n1 HO1.out w2.drew).mono ?_
          rintro e w' ⟨q, rfl, hl, hb⟩
          obtain ⟨C2, s0⟩ := HS1.out
          have s1 := s0.drew.newR (Nat.le_refl _) hb (by rw [Hms1.out]; exact hl)
          obtain ⟨q0, q1, q2⟩ := HCE.out w' s1.bel
          exact ⟨q, rfl, q0, q1, q2, _, s1⟩
        clear HS1
        go_wp2_with fail
        go_region_held3 (fun w' => w'.cell? ⟨N, 3, none⟩ = some (.int .i64 n1.size) ∧ w'.cell? ⟨N, 4, none⟩ = some (.int .i64 n1.block) ∧ w'.cell? ⟨N, 5, none⟩ = some (.int .i64 n1.spare)) (go_keep)
          (first | (go_at_call 10; refine HR.mono ?_; rintro e w3 ⟨q, rfl, z0, z1, z2, HS2⟩))
        clear HR x0 x1 x2 z0 z1 z2 HCE
        obtain ⟨C2, s2⟩ := HS2.out
        have HP2 : Hid (PG W.heap.size W w3 C2 Q S1 V1 (2) (2) 1 1 P R (upv P' 1 p) (upv R' 1 q) ns ms) := s2
        have c2 : w3.cell? ⟨Q, 2, none⟩ = some (V1 2) := s2.wm.row.cell (by decide)
        have OWA : Hid (w3.ownsRow 0 34 1 (V1 2) 1 ((List.range 1).map (fun x => pt (upv P' 1 p x)))) := s2.wm.own 2 (by omega)
        have hQl := s2.wm.row.lt
        clear s2 HS2
        generalize hv2 : V1 2 = va at *
        have HV2 : Hid (V1 2 = va) := hv2
        generalize hXS : (List.range 1).map (fun x => pt (upv P' 1 p x)) = XS at *
        have HXS : Hid ((List.range 1).map (fun x => pt (upv P' 1 p x)) = XS) := hXS
        clear hv2 hXS
        go_wp2_with (at_builtin; refine wpList_append_own_at _ rfl _ _ 41 rfl 0 34 i1 (.pointer none) 1 8 Tryz.underlying41 hi1 hz10 hz11 hz12 rfl (by decide) va 1 XS rfl (OWA.out.alloc _) ⟨w3.heap.size, 0, none⟩ 1 1 [.pointer (some ⟨p, 0, none⟩)] rfl rfl Cod.one_news (by intro u hu; simp at hu; subst hu; rfl) (by decide) (by decide) (Nat.zero_le _) ?_)
        intro v' w4 hown' hgrow _ hat
        obtain ⟨ao2, co2, rfl⟩ := owns_form hown'
        have hg : w3.grownBy w4 (V1 2).ownBlock := by rw [HV2.out]; exact (World.grownBy_alloc w3 _ _).trans hgrow
        have HP3 : Hid (∃ C3 S3, PG W.heap.size W (w4.setCell ⟨Q, 2, none⟩ (.slice ao2 (2) co2)) C3 Q S3 (upv V1 2 (.slice ao2 (2) co2)) (2) (2) (2) 1 P R (upv P' 1 p) (upv R' 1 q) ns ms) := by
          refine HP2.out.addL ?_ hg (fun x hx => ?_)
          · rw [HXS.out, upv_same]; exact hown'
          · rw [HV2.out]
            rcases hat with e | e
            · rw [e] at hx; exact .inl hx
            · rw [e] at hx; simp at hx; exact .inr (by omega)
        have R4 := HP2.out.wm.row.of_block (hg.block Q hQl (fun e => by have := (HP2.out.wm.gv 2 (by omega) Q e.symm).2; rw [HP2.out.wm.sq] at this; omega))
        have c2' : w4.cell? ⟨Q, 2, none⟩ = some va := by rw [← HV2.out]; exact R4.cell (by decide)
        have f2' := R4.frozen 2
        have hQ4 := R4.lt
        clear hown' hgrow hat R4 c2 OWA HP2 hQl HXS hg
        go_upto_region 12 with fail
        clear c2' f2'
        generalize w4.setCell ⟨Q, 2, none⟩ (.slice ao2 (2) co2) = w5 at *
        obtain ⟨C3, S3, s3⟩ := HP3.out
        have HP4 : Hid (PG W.heap.size W w5 C3 Q S3 (upv V1 2 (.slice ao2 (2) co2)) (2) (2) (2) 1 P R (upv P' 1 p) (upv R' 1 q) ns ms) := s3
        obtain ⟨V2, hV2⟩ : ∃ V2, V2 = upv V1 2 (.slice ao2 (2) co2) := ⟨_, rfl⟩
        rw [← hV2] at HP4 s3
        have c3 : w5.cell? ⟨Q, 3, none⟩ = some (V2 3) := s3.wm.row.cell (by decide)
        have OWB : Hid (w5.ownsRow 0 38 1 (V2 3) 1 ((List.range 1).map (fun x => pt (upv R' 1 q x)))) := s3.wm.own 3 (by omega)
        have hQ5 := s3.wm.row.lt
        clear s3 HP3 hV2
        generalize hv3 : V2 3 = vb at *
        have HV3 : Hid (V2 3 = vb) := hv3
        generalize hYS : (List.range 1).map (fun x => pt (upv R' 1 q x)) = YS at *
        have HYS : Hid ((List.range 1).map (fun x => pt (upv R' 1 q x)) = YS) := hYS
        clear hv3 hYS
        go_wp2_with (at_builtin; refine wpList_append_own_at _ rfl _ _ 44 rfl 0 38 i2 (.pointer none) 1 8 Tryz.underlying44 hi2 hz20 hz21 hz22 rfl (by decide) vb 1 YS rfl (OWB.out.alloc _) ⟨w5.heap.size, 0, none⟩ 1 1 [.pointer (some ⟨q, 0, none⟩)] rfl rfl Cod.one_news (by intro u hu; simp at hu; subst hu; rfl) (by decide) (by decide) (Nat.zero_le _) ?_)
        intro v' w6 hown' hgrow _ hat
        obtain ⟨ao3, co3, rfl⟩ := owns_form hown'
        have hg : w5.grownBy w6 (V2 3).ownBlock := by rw [HV3.out]; exact (World.grownBy_alloc w5 _ _).trans hgrow
        have HP5 : Hid (∃ C5 S5 V5 P5 R5, PG W.heap.size W (w6.setCell ⟨Q, 3, none⟩ (.slice ao3 (2) co3)) C5 Q S5 V5 (2) (2) (2) (2) P R P5 R5 ns ms) := by
          obtain ⟨C5, S5, s5⟩ := HP4.out.addR (w1 := w6) (v' := .slice ao3 (2) co3) (by rw [HYS.out, upv_same]; exact hown') hg (fun x hx => by
            rw [HV3.out]
            rcases hat with e | e
            · rw [e] at hx; exact .inl hx
            · rw [e] at hx; simp at hx; exact .inr (by omega))
          exact ⟨C5, S5, _, _, _, s5⟩
        have R6 := HP4.out.wm.row.of_block (hg.block Q hQ5 (fun e => by have := (HP4.out.wm.gv 3 (by omega) Q e.symm).2; rw [HP4.out.wm.sq] at this; omega))
        have c3' : w6.cell? ⟨Q, 3, none⟩ = some vb := by rw [← HV3.out]; exact R6.cell (by decide)
        have f3' := R6.frozen 3
        clear hown' hgrow hat R6 c3 OWB HP4 hQ5 HYS hg
        go_wp2
        go_roundw
        case rel => exact ⟨2, by omega, rfl, HP5⟩
        case measure => simp [intOf]
      · obtain ⟨C1, S1, V1, P', R', hPG⟩ := HPG.out
        have HP1 : Hid (PG W.heap.size W wr C1 Q S1 V1 2 2 2 2 P R P' R' ns ms) := hPG
        have HCE : Hid (∀ W', Below W.heap.size W W' → W'.cell? ⟨N, 0, none⟩ = some (.int .i64 n0.size) ∧ W'.cell? ⟨N, 1, none⟩ = some (.int .i64 n0.block) ∧ W'.cell? ⟨N, 2, none⟩ = some (.int .i64 n0.spare)) := fun W' hb => by
          have q := HR0.out.of_block (hb.block N hNW)
          obtain ⟨a1, a2, a3⟩ := HE0.out
          rw [← a1, ← a2, ← a3]
          exact ⟨q.cell (i := 0) (by decide), q.cell (i := 1) (by decide), q.cell (i := 2) (by decide)⟩
        obtain ⟨y0, y1, y2⟩ := HCE.out wr hPG.bel
        have HL : Calls Tryz.prog 9 #[.int .i64 n0.size, .int .i64 n0.block, .int .i64 n0.spare] wr.drew fun e w' => ∃ p : Nat, e = .returned (.tuple #[.pointer (some ⟨p, 0, none⟩), .int .i64 0]) ∧ w'.cell? ⟨N, 0, none⟩ = some (.int .i64 n0.size) ∧ w'.cell? ⟨N, 1, none⟩ = some (.int .i64 n0.block) ∧ w'.cell? ⟨N, 2, none⟩ = some (.int .i64 n0.spare) ∧ Hid (∃ C2, PG W.heap.size W w' C2 Q S1 V1 (3) 2 2 2 P R (upv P' 2 p) R' ns ms) := by
          refine (newP n0 HO0.out wr.drew).mono ?_
          rintro e w' ⟨p, rfl, hl, hb⟩
          have s1 := HP1.out.drew.newL (Nat.le_refl _) hb (by rw [Hms2.out]; exact hl) (Nat.le_refl _)
          obtain ⟨q0, q1, q2⟩ := HCE.out w' s1.bel
          exact ⟨p, rfl, q0, q1, q2, _, s1⟩
        clear hPG HPG HP1
        go_wp2_with fail
        go_region_held3 (fun w' => w'.cell? ⟨N, 0, none⟩ = some (.int .i64 n0.size) ∧ w'.cell? ⟨N, 1, none⟩ = some (.int .i64 n0.block) ∧ w'.cell? ⟨N, 2, none⟩ = some (.int .i64 n0.spare)) (go_keep)
          (first | (go_at_call 9; refine HL.mono ?_; rintro e w2 ⟨p, rfl, x0, x1, x2, HS1⟩))
        clear HL y0 y1 y2
        have HR : Calls Tryz.prog 10 #[.int .i64 n0.size, .int .i64 n0.block, .int .i64 n0.spare] w2.drew fun e w' => ∃ q : Nat, e = .returned (.tuple #[.pointer (some ⟨q, 0, none⟩), .int .i64 0]) ∧ w'.cell? ⟨N, 0, none⟩ = some (.int .i64 n0.size) ∧ w'.cell? ⟨N, 1, none⟩ = some (.int .i64 n0.block) ∧ w'.cell? ⟨N, 2, none⟩ = some (.int .i64 n0.spare) ∧ Hid (∃ C2, PG W.heap.size W w' C2 Q S1 V1 (3) (3) 2 2 P R (upv P' 2 p) (upv R' 2 q) ns ms) := by
          refine (newQ n0 HO0.out w2.drew).mono ?_
          rintro e w' ⟨q, rfl, hl, hb⟩
          obtain ⟨C2, s0⟩ := HS1.out
          have s1 := s0.drew.newR (Nat.le_refl _) hb (by rw [Hms2.out]; exact hl)
          obtain ⟨q0, q1, q2⟩ := HCE.out w' s1.bel
          exact ⟨q, rfl, q0, q1, q2, _, s1⟩
        clear HS1
        go_wp2_with fail
        go_region_held3 (fun w' => w'.cell? ⟨N, 0, none⟩ = some (.int .i64 n0.size) ∧ w'.cell? ⟨N, 1, none⟩ = some (.int .i64 n0.block) ∧ w'.cell? ⟨N, 2, none⟩ = some (.int .i64 n0.spare)) (go_keep)
          (first | (go_at_call 10; refine HR.mono ?_; rintro e w3 ⟨q, rfl, z0, z1, z2, HS2⟩))
        clear HR x0 x1 x2 z0 z1 z2 HCE
        obtain ⟨C2, s2⟩ := HS2.out
        have HP2 : Hid (PG W.heap.size W w3 C2 Q S1 V1 (3) (3) 2 2 P R (upv P' 2 p) (upv R' 2 q) ns ms) := s2
        have c2 : w3.cell? ⟨Q, 2, none⟩ = some (V1 2) := s2.wm.row.cell (by decide)
        have OWA : Hid (w3.ownsRow 0 34 1 (V1 2) 2 ((List.range 2).map (fun x => pt (upv P' 2 p x)))) := s2.wm.own 2 (by omega)
        have hQl := s2.wm.row.lt
        clear s2 HS2
        generalize hv2 : V1 2 = va at *
        have HV2 : Hid (V1 2 = va) := hv2
        generalize hXS : (List.range 2).map (fun x => pt (upv P' 2 p x)) = XS at *
        have HXS : Hid ((List.range 2).map (fun x => pt (upv P' 2 p x)) = XS) := hXS
        clear hv2 hXS
        go_wp2_with (at_builtin; refine wpList_append_own_at _ rfl _ _ 41 rfl 0 34 i1 (.pointer none) 1 8 Tryz.underlying41 hi1 hz10 hz11 hz12 rfl (by decide) va 2 XS rfl (OWA.out.alloc _) ⟨w3.heap.size, 0, none⟩ 1 1 [.pointer (some ⟨p, 0, none⟩)] rfl rfl Cod.one_news (by intro u hu; simp at hu; subst hu; rfl) (by decide) (by decide) (Nat.zero_le _) ?_)
        intro v' w4 hown' hgrow _ hat
        obtain ⟨ao2, co2, rfl⟩ := owns_form hown'
        have hg : w3.grownBy w4 (V1 2).ownBlock := by rw [HV2.out]; exact (World.grownBy_alloc w3 _ _).trans hgrow
        have HP3 : Hid (∃ C3 S3, PG W.heap.size W (w4.setCell ⟨Q, 2, none⟩ (.slice ao2 (3) co2)) C3 Q S3 (upv V1 2 (.slice ao2 (3) co2)) (3) (3) (3) 2 P R (upv P' 2 p) (upv R' 2 q) ns ms) := by
          refine HP2.out.addL ?_ hg (fun x hx => ?_)
          · rw [HXS.out, upv_same]; exact hown'
          · rw [HV2.out]
            rcases hat with e | e
            · rw [e] at hx; exact .inl hx
            · rw [e] at hx; simp at hx; exact .inr (by omega)
        have R4 := HP2.out.wm.row.of_block (hg.block Q hQl (fun e => by have := (HP2.out.wm.gv 2 (by omega) Q e.symm).2; rw [HP2.out.wm.sq] at this; omega))
        have c2' : w4.cell? ⟨Q, 2, none⟩ = some va := by rw [← HV2.out]; exact R4.cell (by decide)
        have f2' := R4.frozen 2
        have hQ4 := R4.lt
        clear hown' hgrow hat R4 c2 OWA HP2 hQl HXS hg
        go_upto_region 12 with fail
        clear c2' f2'
        generalize w4.setCell ⟨Q, 2, none⟩ (.slice ao2 (3) co2) = w5 at *
        obtain ⟨C3, S3, s3⟩ := HP3.out
        have HP4 : Hid (PG W.heap.size W w5 C3 Q S3 (upv V1 2 (.slice ao2 (3) co2)) (3) (3) (3) 2 P R (upv P' 2 p) (upv R' 2 q) ns ms) := s3
        obtain ⟨V2, hV2⟩ : ∃ V2, V2 = upv V1 2 (.slice ao2 (3) co2) := ⟨_, rfl⟩
        rw [← hV2] at HP4 s3
        have c3 : w5.cell? ⟨Q, 3, none⟩ = some (V2 3) := s3.wm.row.cell (by decide)
        have OWB : Hid (w5.ownsRow 0 38 1 (V2 3) 2 ((List.range 2).map (fun x => pt (upv R' 2 q x)))) := s3.wm.own 3 (by omega)
        have hQ5 := s3.wm.row.lt
        clear s3 HP3 hV2
        generalize hv3 : V2 3 = vb at *
        have HV3 : Hid (V2 3 = vb) := hv3
        generalize hYS : (List.range 2).map (fun x => pt (upv R' 2 q x)) = YS at *
        have HYS : Hid ((List.range 2).map (fun x => pt (upv R' 2 q x)) = YS) := hYS
        clear hv3 hYS
        go_wp2_with (at_builtin; refine wpList_append_own_at _ rfl _ _ 44 rfl 0 38 i2 (.pointer none) 1 8 Tryz.underlying44 hi2 hz20 hz21 hz22 rfl (by decide) vb 2 YS rfl (OWB.out.alloc _) ⟨w5.heap.size, 0, none⟩ 1 1 [.pointer (some ⟨q, 0, none⟩)] rfl rfl Cod.one_news (by intro u hu; simp at hu; subst hu; rfl) (by decide) (by decide) (Nat.zero_le _) ?_)
        intro v' w6 hown' hgrow _ hat
        obtain ⟨ao3, co3, rfl⟩ := owns_form hown'
        have hg : w5.grownBy w6 (V2 3).ownBlock := by rw [HV3.out]; exact (World.grownBy_alloc w5 _ _).trans hgrow
        have HP5 : Hid (∃ C5 S5 V5 P5 R5, PG W.heap.size W (w6.setCell ⟨Q, 3, none⟩ (.slice ao3 (3) co3)) C5 Q S5 V5 (3) (3) (3) (3) P R P5 R5 ns ms) := by
          obtain ⟨C5, S5, s5⟩ := HP4.out.addR (w1 := w6) (v' := .slice ao3 (3) co3) (by rw [HYS.out, upv_same]; exact hown') hg (fun x hx => by
            rw [HV3.out]
            rcases hat with e | e
            · rw [e] at hx; exact .inl hx
            · rw [e] at hx; simp at hx; exact .inr (by omega))
          exact ⟨C5, S5, _, _, _, s5⟩
        have R6 := HP4.out.wm.row.of_block (hg.block Q hQ5 (fun e => by have := (HP4.out.wm.gv 3 (by omega) Q e.symm).2; rw [HP4.out.wm.sq] at this; omega))
        have c3' : w6.cell? ⟨Q, 3, none⟩ = some vb := by rw [← HV3.out]; exact R6.cell (by decide)
        have f3' := R6.frozen 3
        clear hown' hgrow hat R6 c3 OWB HP4 hQ5 HYS hg
        go_wp2
        go_roundw
        case rel => exact ⟨3, by omega, rfl, HP5⟩
        case measure => simp [intOf]
      · go_wp2
        go_ret2
        obtain ⟨C, S, V, P', R', h⟩ := HPG.out
        exact .inr ⟨Q, P, R, P', R', rfl, _, W, HB0.out, HB0.out.size, h.done HNS.out (fun i hi => by
          match i, hi with
          | 0, _ => rw [Hms0.out]; exact HO0.out
          | 1, _ => rw [Hms1.out]; exact HO1.out
          | 2, _ => rw [Hms2.out]; exact HO0.out)⟩
end Sn
end Go.Proofs.YtkgnmcekeeannaaGreat
