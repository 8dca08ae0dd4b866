import Derived.Test.YtkgnmcekeeannaaGreatY48
/-
  One step of the law's game.
-/
namespace Go.Proofs.YtkgnmcekeeannaaGreat
open Go.RowKit Go.Deep
namespace Sn
open Bs
set_option linter.unusedVariables false
section
variable {B : Nat} {w0 w w1 : World} {Q : Nat} {P R P' R' : Nat → Nat}
theorem GS6.above {c : Nat} (h : GS6 B w0 w Q P R P' R' c) (hb : Below w.heap.size w w1) : GS6 B w0 w1 Q P R P' R' c := by
  obtain ⟨C, S, V, on, bk, s, l, r, m, k⟩ := h
  exact ⟨_, S, V, on, bk, s, l, r, m.above hb, k⟩
set_option maxRecDepth 100000 in
set_option maxHeartbeats 4000000 in
theorem step_any (c : Nat) (kd A Bv : Int) (tx : ByteArray) (b1 : -9223372036854775808 ≤ Bv) (b2 : Bv ≤ 9223372036854775807) (g1 : -9223372036854775808 ≤ A) (g2 : A ≤ 9223372036854775807) (htx : tx.size ≤ 1048576) (hc : c ≤ 1048576) (h : GS6 B w0 w Q P R P' R' c) :
    Calls Tryz.prog 7 #[.pointer (some ⟨Q, 0, none⟩), .agg #[.int .i64 kd, .int .i64 A, .int .i64 Bv, .string tx]] w fun e w' => e = .returned (.bool true) ∧ GS6 B w0 w' Q P R P' R' (c + 1) := by
  have h1 : GS6 B w0 (w.alloc (.cells #[.int .i64 kd, .int .i64 A, .int .i64 Bv, .string tx] 32)) Q P R P' R' c := h.above ((Below.refl _ _).alloc (Nat.le_refl _) _)
  have HG : Hid (GS6 B w0 (w.alloc (.cells #[.int .i64 kd, .int .i64 A, .int .i64 Bv, .string tx] 32)) Q P R P' R' c) := h1
  clear h h1
  by_cases k1 : kd = 1
  · subst k1
    have HC := sends6_enq c A Bv tx b1 b2 htx hc HG.out
    clear HG
    go_enter Tryz.func7, Tryz.ntmps7
    go_wp2_with fail
    refine HC.mono ?_
    rintro e w2 ⟨rfl, hg2⟩
    have HG2 : Hid (GS6 B w0 w2 Q P R P' R' (c + 1)) := hg2
    clear HC hg2
    go_wp2
    go_ret
    exact ⟨rfl, HG2.out⟩
  · have n1 : (kd == 1) = false := by simpa using k1
    clear k1
    by_cases k2 : kd = 2
    · subst k2
      have HC := sends6_next c A Bv tx b1 b2 htx hc HG.out
      clear HG n1
      go_enter Tryz.func7, Tryz.ntmps7
      go_wp2_with fail
      refine HC.mono ?_
      rintro e w2 ⟨rfl, hg2⟩
      have HG2 : Hid (GS6 B w0 w2 Q P R P' R' (c + 1)) := hg2
      clear HC hg2
      go_wp2
      go_ret
      exact ⟨rfl, HG2.out⟩
    · have n2 : (kd == 2) = false := by simpa using k2
      clear k2
      by_cases k3 : kd = 3
      · subst k3
        have HC := sends6_hear c A Bv tx b1 b2 htx hc HG.out
        clear HG n1 n2
        go_enter Tryz.func7, Tryz.ntmps7
        go_wp2_with fail
        refine HC.mono ?_
        rintro e w2 ⟨rfl, hg2⟩
        have HG2 : Hid (GS6 B w0 w2 Q P R P' R' (c + 1)) := hg2
        clear HC hg2
        go_wp2
        go_ret
        exact ⟨rfl, HG2.out⟩
      · have n3 : (kd == 3) = false := by simpa using k3
        clear k3
        by_cases k4 : kd = 4
        · subst k4
          have HC := sends6_answer c A Bv tx b1 b2 htx hc g1 g2 HG.out
          clear HG n1 n2 n3
          go_enter Tryz.func7, Tryz.ntmps7
          go_wp2_with fail
          refine HC.mono ?_
          rintro e w2 ⟨rfl, hg2⟩
          have HG2 : Hid (GS6 B w0 w2 Q P R P' R' (c + 1)) := hg2
          clear HC hg2
          go_wp2
          go_ret
          exact ⟨rfl, HG2.out⟩
        · have n4 : (kd == 4) = false := by simpa using k4
          clear k4
          by_cases k5 : kd = 5
          · subst k5
            have HC := hears_hear c A Bv tx b1 b2 htx hc HG.out
            clear HG n1 n2 n3 n4
            go_enter Tryz.func7, Tryz.ntmps7
            go_wp2_with fail
            refine HC.mono ?_
            rintro e w2 ⟨rfl, hg2⟩
            have HG2 : Hid (GS6 B w0 w2 Q P R P' R' (c + 1)) := hg2
            clear HC hg2
            go_wp2
            go_ret
            exact ⟨rfl, HG2.out⟩
          · have n5 : (kd == 5) = false := by simpa using k5
            clear k5
            by_cases k6 : kd = 6
            · subst k6
              have HC := hears_give c A Bv tx b1 b2 htx hc g1 g2 HG.out
              clear HG n1 n2 n3 n4 n5
              go_enter Tryz.func7, Tryz.ntmps7
              go_wp2_with fail
              refine HC.mono ?_
              rintro e w2 ⟨rfl, hg2⟩
              have HG2 : Hid (GS6 B w0 w2 Q P R P' R' (c + 1)) := hg2
              clear HC hg2
              go_wp2
              go_ret
              exact ⟨rfl, HG2.out⟩
            · have n6 : (kd == 6) = false := by simpa using k6
              clear k6
              by_cases k7 : kd = 7
              · subst k7
                have HC := hears_take c A Bv tx b1 b2 htx hc HG.out
                clear HG n1 n2 n3 n4 n5 n6
                go_enter Tryz.func7, Tryz.ntmps7
                go_wp2_with fail
                refine HC.mono ?_
                rintro e w2 ⟨rfl, hg2⟩
                have HG2 : Hid (GS6 B w0 w2 Q P R P' R' (c + 1)) := hg2
                clear HC hg2
                go_wp2
                go_ret
                exact ⟨rfl, HG2.out⟩
              · have n7 : (kd == 7) = false := by simpa using k7
                clear k7
                by_cases k8 : kd = 8
                · subst k8
                  have HC := hears_known c A Bv tx b1 b2 htx hc HG.out
                  clear HG n1 n2 n3 n4 n5 n6 n7
                  go_enter Tryz.func7, Tryz.ntmps7
                  go_wp2_with fail
                  refine HC.mono ?_
                  rintro e w2 ⟨rfl, hg2⟩
                  have HG2 : Hid (GS6 B w0 w2 Q P R P' R' (c + 1)) := hg2
                  clear HC hg2
                  go_wp2
                  go_ret
                  exact ⟨rfl, HG2.out⟩
                · have n8 : (kd == 8) = false := by simpa using k8
                  clear k8
                  by_cases k9 : kd = 9
                  · subst k9
                    have HC := hears_request c A Bv tx b1 b2 htx hc HG.out
                    clear HG n1 n2 n3 n4 n5 n6 n7 n8
                    go_enter Tryz.func7, Tryz.ntmps7
                    go_wp2_with fail
                    refine HC.mono ?_
                    rintro e w2 ⟨rfl, hg2⟩
                    have HG2 : Hid (GS6 B w0 w2 Q P R P' R' (c + 1)) := hg2
                    clear HC hg2
                    go_wp2
                    go_ret
                    exact ⟨rfl, HG2.out⟩
                  · have n9 : (kd == 9) = false := by simpa using k9
                    clear k9
                    by_cases k10 : kd = 10
                    · subst k10
                      have HC := spoil_step c A Bv tx b1 b2 g1 g2 hc HG.out
                      clear HG n1 n2 n3 n4 n5 n6 n7 n8 n9
                      go_enter Tryz.func7, Tryz.ntmps7
                      go_wp2_with fail
                      refine HC.mono ?_
                      rintro e w2 ⟨rfl, hg2⟩
                      have HG2 : Hid (GS6 B w0 w2 Q P R P' R' (c + 1)) := hg2
                      clear HC hg2
                      go_wp2
                      go_ret
                      exact ⟨rfl, HG2.out⟩
                    · have n10 : (kd == 10) = false := by simpa using k10
                      clear k10
                      have HG2 : Hid (GS6 B w0 (w.alloc (.cells #[.int .i64 kd, .int .i64 A, .int .i64 Bv, .string tx] 32)) Q P R P' R' (c + 1)) := HG.out.mono (by omega)
                      clear HG
                      go_enter Tryz.func7, Tryz.ntmps7
                      go_wp2
                      go_ret
                      exact ⟨rfl, HG2.out⟩
end
end Sn
end Go.Proofs.YtkgnmcekeeannaaGreat
/-
  The whole game in the making: what it takes.
-/
namespace Go.Proofs.YtkgnmcekeeannaaGreat
open Go.RowKit Go.Deep
namespace Sn
open Bs
set_option linter.unusedVariables false

theorem newP (n : Nm) (hn : n.ok) (W : World) : Calls Tryz.prog 9 #[.int .i64 n.size, .int .i64 n.block, .int .i64 n.spare] W fun e w' => ∃ P, e = .returned (.tuple #[.pointer (some ⟨P, 0, none⟩), .int .i64 0]) ∧ LRcvAt w' P (Rt.fresh n) (fun x => W.heap.size ≤ x ∧ x < w'.heap.size) ∧ Below W.heap.size W w' := by
  refine (lanNewReceiver n.size n.block n.spare W).mono ?_
  rintro e w' ⟨ho, hb⟩
  rcases ho with ⟨h, _⟩ | ⟨m, P, hm, e1, e2, e3, rfl, hl⟩
  · exact absurd (rightE_ok hn) h
  · rw [← nm_eq e1 e2 e3] at hl
    exact ⟨P, rfl, hl, hb⟩
theorem newQ (n : Nm) (hn : n.ok) (W : World) : Calls Tryz.prog 10 #[.int .i64 n.size, .int .i64 n.block, .int .i64 n.spare] W fun e w' => ∃ P, e = .returned (.tuple #[.pointer (some ⟨P, 0, none⟩), .int .i64 0]) ∧ RcvAt w' P (Rt.fresh n) (fun x => W.heap.size ≤ x ∧ x < w'.heap.size) ∧ Below W.heap.size W w' := by
  refine (refNewReceiver n.size n.block n.spare W).mono ?_
  rintro e w' ⟨ho, hb⟩
  rcases ho with ⟨h, _⟩ | ⟨m, P, hm, e1, e2, e3, rfl, hl⟩
  · exact absurd (rightE_ok hn) h
  · rw [← nm_eq e1 e2 e3] at hl
    exact ⟨P, rfl, hl, hb⟩
/-- both answer alike, whatever the numbers -/
theorem anyP (a b c : Int) (W : World) : Calls Tryz.prog 9 #[.int .i64 a, .int .i64 b, .int .i64 c] W fun e w' => (∃ p : Option Addr, e = .returned (.tuple #[.pointer p, .int .i64 (rightE a b c)]) ∧ (p = none ↔ rightE a b c ≠ 0)) ∧ Below W.heap.size W w' := by
  refine (lanNewReceiver a b c W).mono ?_
  rintro e w' ⟨ho, hb⟩
  rcases ho with ⟨h, rfl⟩ | ⟨m, P, hm, rfl, rfl, rfl, rfl, hl⟩
  · exact ⟨⟨none, rfl, fun _ => h, fun _ => rfl⟩, hb⟩
  · have := rightE_ok hm
    exact ⟨⟨some ⟨P, 0, none⟩, by rw [this], (fun h => by cases h), (fun h => absurd this h)⟩, hb⟩
theorem anyQ (a b c : Int) (W : World) : Calls Tryz.prog 10 #[.int .i64 a, .int .i64 b, .int .i64 c] W fun e w' => (∃ p : Option Addr, e = .returned (.tuple #[.pointer p, .int .i64 (rightE a b c)]) ∧ (p = none ↔ rightE a b c ≠ 0)) ∧ Below W.heap.size W w' := by
  refine (refNewReceiver a b c W).mono ?_
  rintro e w' ⟨ho, hb⟩
  rcases ho with ⟨h, rfl⟩ | ⟨m, P, hm, rfl, rfl, rfl, rfl, hl⟩
  · exact ⟨⟨none, rfl, fun _ => h, fun _ => rfl⟩, hb⟩
  · have := rightE_ok hm
    exact ⟨⟨some ⟨P, 0, none⟩, by rw [this], (fun h => by cases h), (fun h => absurd this h)⟩, hb⟩

def xsk (P R P' R' : Nat → Nat) (k j : Nat) (i : Nat) : List Value := ([[pt (P 0), pt (P 1)], [pt (R 0), pt (R 1)], (List.range k).map (fun x => pt (P' x)), (List.range j).map (fun x => pt (R' x)), [], []] : List (List Value)).getD i []
structure PG (B : Nat) (w0 w : World) (C : Nat → Nat) (Q : Nat) (S : Nat → Nat) (V : Nat → Value) (a b k j : Nat) (P R P' R' : Nat → Nat) (ns ms : Nat → Nm) : Prop where
  sl : ∀ i, i < 2 → LndAt w (P i) (LS.fresh (ns i)) (fun b => C b = 2 * i + 1)
  sr : ∀ i, i < 2 → SndAt w (R i) (St.fresh (ns i)) (fun b => C b = 2 * i + 2)
  rl : ∀ i, i < a → LRcvAt w (P' i) (Rt.fresh (ms i)) (fun b => C b = 2 * i + 6)
  rr : ∀ i, i < b → RcvAt w (R' i) (Rt.fresh (ms i)) (fun b => C b = 2 * i + 7)
  wm : W6 w Q (fun b => C b = 5) S V (xsk P R P' R' k j)
  bel : Below B w0 w
  low : ∀ b, b < B → C b = 0
  room : B ≤ w.heap.size
section
variable {B : Nat} {w0 w w1 : World} {C : Nat → Nat} {Q : Nat} {S : Nat → Nat} {V : Nat → Value} {a b k j : Nat} {P R P' R' : Nat → Nat} {ns ms : Nat → Nm}
theorem PG.drew (h : PG B w0 w C Q S V a b k j P R P' R' ns ms) : PG B w0 w.drew C Q S V a b k j P R P' R' ns ms := by
  have t : Touch w w.drew (fun _ => False) := ⟨rfl, rfl, rfl, Nat.le_refl _, fun _ _ _ => rfl⟩
  exact ⟨fun i hi => (h.sl i hi).stay t (fun _ _ h => h) (fun _ h _ => h), fun i hi => (h.sr i hi).stay t (fun _ _ h => h) (fun _ h _ => h), fun i hi => (h.rl i hi).stay t (fun _ _ h => h) (fun _ h _ => h), fun i hi => (h.rr i hi).stay t (fun _ _ h => h) (fun _ h _ => h), h.wm.drew, h.bel.drew, h.low, h.room⟩
theorem xsk_congr {P R P' R' P1 R1 : Nat → Nat} {k j : Nat} (h1 : ∀ i, i < k → P1 i = P' i) (h2 : ∀ i, i < j → R1 i = R' i) : ∀ i, i < 6 → xsk P R P1 R1 k j i = xsk P R P' R' k j i :=
  six rfl rfl (by show (List.range k).map _ = (List.range k).map _; exact List.map_congr_left (fun x hx => by rw [h1 x (List.mem_range.1 hx)])) (by show (List.range j).map _ = (List.range j).map _; exact List.map_congr_left (fun x hx => by rw [h2 x (List.mem_range.1 hx)])) rfl rfl
theorem PG.newL {p : Nat} (h : PG B w0 w C Q S V a b k j P R P' R' ns ms) (hk : k ≤ a) (hb : Below w.heap.size w w1) (hl : LRcvAt w1 p (Rt.fresh (ms a)) (fun x => w.heap.size ≤ x ∧ x < w1.heap.size)) (ha : b ≤ a) :
    PG B w0 w1 (paint C (2 * a + 6) w.heap.size) Q S V (a + 1) b k j P R (upv P' a p) R' ns ms := by
  have t : Touch w w1 (fun b => C b = 2 * a + 6) := Touch.of_below hb
  have T : ∀ F, Touch w w1 F := fun F => Touch.of_below hb
  have old : ∀ i x, C x = i → x < w.heap.size → paint C (2 * a + 6) w.heap.size x = i := fun i x h1 h2 => by rw [paint_old h2]; exact h1
  exact ⟨fun i hi => (h.sl i hi).stay (T (fun _ => False)) (fun _ _ h => h) (old _), fun i hi => (h.sr i hi).stay (T (fun _ => False)) (fun _ _ h => h) (old _), fun i hi => by
    by_cases e : i = a
    · subst e; rw [upv_same]; exact hl.mono (fun b hb _ => paint_new hb.1)
    · rw [upv_other _ _ e]; exact (h.rl i (by omega)).stay (T (fun _ => False)) (fun _ _ h => h) (old _),
    fun i hi => (h.rr i hi).stay (T (fun _ => False)) (fun _ _ h => h) (old _), (h.wm.stay (T (fun _ => False)) (fun _ _ h => h) (old 5)).congr (fun _ _ => rfl) (xsk_congr (fun i hi => upv_other _ _ (by omega)) (fun _ _ => rfl)), h.bel.trans (hb.mono h.room), keep_low h.low h.room _, by have := h.room; have := hb.size; omega⟩
theorem PG.newR {p : Nat} (h : PG B w0 w C Q S V a b k j P R P' R' ns ms) (hj : j ≤ b) (hb : Below w.heap.size w w1) (hl : RcvAt w1 p (Rt.fresh (ms b)) (fun x => w.heap.size ≤ x ∧ x < w1.heap.size)) :
    PG B w0 w1 (paint C (2 * b + 7) w.heap.size) Q S V a (b + 1) k j P R P' (upv R' b p) ns ms := by
  have T : ∀ F, Touch w w1 F := fun F => Touch.of_below hb
  have old : ∀ i x, C x = i → x < w.heap.size → paint C (2 * b + 7) w.heap.size x = i := fun i x h1 h2 => by rw [paint_old h2]; exact h1
  exact ⟨fun i hi => (h.sl i hi).stay (T (fun _ => False)) (fun _ _ h => h) (old _), fun i hi => (h.sr i hi).stay (T (fun _ => False)) (fun _ _ h => h) (old _), fun i hi => (h.rl i hi).stay (T (fun _ => False)) (fun _ _ h => h) (old _), fun i hi => by
    by_cases e : i = b
    · subst e; rw [upv_same]; exact hl.mono (fun b hb _ => paint_new hb.1)
    · rw [upv_other _ _ e]; exact (h.rr i (by omega)).stay (T (fun _ => False)) (fun _ _ h => h) (old _),
    (h.wm.stay (T (fun _ => False)) (fun _ _ h => h) (old 5)).congr (fun _ _ => rfl) (xsk_congr (fun _ _ => rfl) (fun i hi => upv_other _ _ (by omega))), h.bel.trans (hb.mono h.room), keep_low h.low h.room _, by have := h.room; have := hb.size; omega⟩
theorem PG.lists {k' j' : Nat} {S' : Nat → Nat} {V' : Nat → Value} (h : PG B w0 w C Q S V a b k j P R P' R' ns ms) (t : Touch w w1 (fun b => C b = 5)) (wm : W6 w1 Q (fun b => paint C 5 w.heap.size b = 5) S' V' (xsk P R P' R' k' j')) :
    PG B w0 w1 (paint C 5 w.heap.size) Q S' V' a b k' j' P R P' R' ns ms :=
  ⟨fun j hj => stay_l (by omega) (h.sl j hj) t, fun j hj => stay_r (by omega) (h.sr j hj) t, fun j hj => stay_p (by omega) (h.rl j hj) t, fun j hj => stay_q (by omega) (h.rr j hj) t, wm, below_touch h.bel h.low t (by omega) h.room, keep_low h.low h.room _, by have := h.room; have := t.size; omega⟩
theorem PG.addL {v' : Value} (h : PG B w0 w C Q S V a b k j P R P' R' ns ms) (hown : w1.ownsRow 0 34 1 v' (k + 1) ((List.range k).map (fun x => pt (P' x)) ++ [pt (P' k)])) (hg : w.grownBy w1 (V 2).ownBlock) (hat : ∀ x, v'.ownBlock = some x → (V 2).ownBlock = some x ∨ w.heap.size ≤ x) :
    ∃ C' S', PG B w0 (w1.setCell ⟨Q, 2, none⟩ v') C' Q S' (upv V 2 v') a b (k + 1) j P R P' R' ns ms := by
  have e0 : (xsk P R P' R' k j 2).length = k := by simp [xsk]
  have wm := h.wm.more (i := 2) (y := pt (P' k)) (G' := fun b => paint C 5 w.heap.size b = 5) (by omega) (by rw [e0]; exact hown) hg hat (fun b hb => paint_five hb) (fun b hb _ => paint_new hb)
  exact ⟨_, _, h.lists (touch_list hg (fun x hx => (h.wm.gv 2 (by omega) x hx).1) h.wm.gq) (wm.congr (fun _ _ => rfl) (six rfl rfl (by simp [xsk, upv, List.range_succ]) rfl rfl rfl))⟩
theorem PG.addR {v' : Value} (h : PG B w0 w C Q S V a b k j P R P' R' ns ms) (hown : w1.ownsRow 0 38 1 v' (j + 1) ((List.range j).map (fun x => pt (R' x)) ++ [pt (R' j)])) (hg : w.grownBy w1 (V 3).ownBlock) (hat : ∀ x, v'.ownBlock = some x → (V 3).ownBlock = some x ∨ w.heap.size ≤ x) :
    ∃ C' S', PG B w0 (w1.setCell ⟨Q, 3, none⟩ v') C' Q S' (upv V 3 v') a b k (j + 1) P R P' R' ns ms := by
  have e0 : (xsk P R P' R' k j 3).length = j := by simp [xsk]
  have wm := h.wm.more (i := 3) (y := pt (R' j)) (G' := fun b => paint C 5 w.heap.size b = 5) (by omega) (by rw [e0]; exact hown) hg hat (fun b hb => paint_five hb) (fun b hb _ => paint_new hb)
  exact ⟨_, _, h.lists (touch_list hg (fun x hx => (h.wm.gv 3 (by omega) x hx).1) h.wm.gq) (wm.congr (fun _ _ => rfl) (six rfl rfl rfl (by simp [xsk, upv, List.range_succ]) rfl rfl))⟩
theorem PG.done (h : PG B w0 w C Q S V 3 3 3 3 P R P' R' ns ms) (hn : ∀ i, i < 2 → (ns i).ok) (hm : ∀ i, i < 3 → (ms i).ok) : GS6 B w0 w Q P R P' R' 0 := by
  refine ⟨C, S, V, [], [], fun i => St.fresh (ns i), fun i => LS.fresh (ns i), fun i => Rt.fresh (ms i), ⟨h.sl, h.sr, h.rl, h.rr, h.wm.congr (fun _ _ => rfl) (six rfl rfl rfl rfl rfl rfl), h.bel, h.low, h.room⟩, ?_⟩
  exact ⟨fun i hi => ⟨_, Rel.new _⟩, fun i hi => SOkC.new (hn i hi), fun i hi => ROkC.new (hm i hi), fun i hi => TW.new _, by simp, by simp, by simp, by simp⟩
/-- from the game of senders -/
theorem PG.start {N : Nat} {g : Nat → Int} {va vb : Value} {ps qs : List (Option Nat)} (h : SG B w0 w N Q 2 true g C va vb ps qs) (hp : ps.length = 2) (hq : qs.length = 2) (ms : Nat → Nm) :
    ∃ S V P R ns, (∀ i, i < 2 → (ns i : Nm).ok) ∧ PG B w0 w C Q S V 0 0 0 0 P R (fun _ => 0) (fun _ => 0) ns ms := by
  obtain ⟨P0, R0, n0, a1, a2, a3, a4, a5⟩ := h.each rfl 0 (by omega)
  obtain ⟨P1, R1, n1, b1, b2, b3, b4, b5⟩ := h.each rfl 1 (by omega)
  have two : ∀ (l : List (Option Nat)) (x y : Nat), l.length = 2 → l[0]? = some (some x) → l[1]? = some (some y) → l = [some x, some y] := by
    intro l x y hl h0 h1
    match l, hl with
    | [p, q], _ =>
      simp at h0 h1
      rw [h0, h1]
  have e1 := two ps P0 P1 hp a1 b1
  have e2 := two qs R0 R1 hq a2 b2
  have wa := h.wm.a
  have wb := h.wm.b
  rw [e1] at wa
  rw [e2] at wb
  have vbQ := h.wm.bq
  have vaQ := h.wm.aq
  refine ⟨fun x => if x = Q then 6 else if va.ownBlock = some x then 0 else 1, fun i => ([va, vb, .slice none 0 0, .slice none 0 0, .slice none 0 0, .slice none 0 0] : List Value).getD i undef, fun i => if i = 0 then P0 else P1, fun i => if i = 0 then R0 else R1, fun i => if i = 0 then n0 else n1, fun i hi => ?_, ?_⟩
  · by_cases e : i = 0
    · simp only [e, if_true]; exact a3
    · simp only [if_neg e]; exact b3
  · refine ⟨fun i hi => ?_, fun i hi => ?_, fun i hi => by omega, fun i hi => by omega, ⟨?_, ?_, h.wm.gq, if_pos rfl, ?_⟩, h.bel, h.low, h.room⟩
    · by_cases e : i = 0
      · subst e; exact a4
      · obtain rfl : i = 1 := by omega
        exact b4
    · by_cases e : i = 0
      · subst e; exact a5
      · obtain rfl : i = 1 := by omega
        exact b5
    · exact h.wm.row.congr (fun i hi => by
        match i, hi with
        | 0, _ => rfl
        | 1, _ => rfl
        | 2, _ => rfl
        | 3, _ => rfl
        | 4, _ => rfl
        | 5, _ => rfl)
    · exact six wa wb (World.ownsRow_nil _ _ _ _) (World.ownsRow_nil _ _ _ _) (World.ownsRow_nil _ _ _ _) (World.ownsRow_nil _ _ _ _)
    · refine six ?_ ?_ (fun x hx => by simp [Value.ownBlock] at hx) (fun x hx => by simp [Value.ownBlock] at hx) (fun x hx => by simp [Value.ownBlock] at hx) (fun x hx => by simp [Value.ownBlock] at hx)
      · intro x hx
        have hx' : va.ownBlock = some x := hx
        refine ⟨h.wm.ga x hx', ?_⟩
        show (if x = Q then 6 else if va.ownBlock = some x then 0 else 1) = 0
        rw [if_neg (fun e => vaQ (by rw [hx', e])), if_pos hx']
      · intro x hx
        have hx' : vb.ownBlock = some x := hx
        refine ⟨h.wm.gb x hx', ?_⟩
        show (if x = Q then 6 else if va.ownBlock = some x then 0 else 1) = 1
        rw [if_neg (fun e => vbQ (by rw [hx', e])), if_neg (fun e => h.wm.ab x e hx')]
end
end Sn
end Go.Proofs.YtkgnmcekeeannaaGreat
